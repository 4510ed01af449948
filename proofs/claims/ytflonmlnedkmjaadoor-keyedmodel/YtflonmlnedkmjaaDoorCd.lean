/-
  What every card of this seat needs: the listed variable, that the program's own text lays it, and the names in memory.
-/
import Derived.Test.YtflonmlnedkmjaaDoorCards
import Derived.Test.YtflonmlnedkmjaaDoorCoJ
import Derived.SevenTiedAt
import Derived.Carry
import Derived.ProofKit
import Derived.LaidMore
import Derived.OpenShut
import Derived.LaidHandle
import Derived.Stop.Joined
namespace Go.Proofs.YtflonmlnedkmjaaDoor
open Go.ChangeShapes Go.WideShapes Go.ChangeAt Go.WideMaps Go.WideElems Go.RowKit

theorem Tryd.own : ownKnob Tryd.prog.godebug = none := by kernel_rfl
theorem Tryd.laidOut : laidOutB Tryd.prog = true := by kernel_rfl
theorem gNames : Tryd.prog.globalNamed "guise/value.ownNames" = some 0 := by kernel_rfl
theorem tNames : (Tryd.prog.globals[0]?).map (·.type) = some 115 := by kernel_rfl
theorem cells130 : Tryd.prog.cellsOf 115 = 8 := by kernel_rfl
theorem cells9' : Tryd.prog.cellsOf 9 = 1 := by kernel_rfl

/-- What all rows of this seat list. -/
def laidList : List (String × DataW Unit) := [("guise/value.ownNames", Rows.laid_guise_value_ownNames)]

/-- The heap that the program's own text leaves meets the condition. -/
theorem door_met (os : Os) (args : Array Value) : laidMetH Tryd.prog laidList ((World.doorLaid Tryd.prog 400 os).forCall (fun _ _ => 0) ⟨#[], args, []⟩).memory := by
  rw [MakeChecks.laidMetH_plain _ _ _ (by kernel_rfl)]
  exact laidMet_of_run' 8 (by kernel_rfl) (by kernel_rfl)

theorem int_bounds {n : Int} (h : (Lit.int .i64 n).wf = true) : -9223372036854775808 ≤ n ∧ n ≤ 9223372036854775807 := by
  simp [Lit.wf, show IntKind.i64.min = -9223372036854775808 by decide, show IntKind.i64.max = 9223372036854775807 by decide] at h; exact h

def nameTab : List (List UInt8) := [[], [98, 111, 111, 108], [105, 110, 116], [102, 108, 111, 97, 116], [116, 101, 120, 116], [108, 105, 115, 116], [109, 97, 112], [102, 117, 110, 99]]
theorem names_datum : (Rows.laid_guise_value_ownNames : DataW Unit) = .agg (nameTab.map fun x => .lit (.string x)) := rfl

theorem names_of_laid {W : World} (h0 : laidMetH Tryd.prog laidList W) : NamesAt W := by
  rw [MakeChecks.laidMetH_plain _ _ _ (by kernel_rfl)] at h0
  obtain ⟨ps, ⟨g, t, cs, fuel, p, q, hg, ht, hv, hd, _, _⟩, _⟩ := h0
  obtain rfl := Option.some.inj (gNames.symm.trans hg)
  obtain rfl := Option.some.inj (tNames.symm.trans ht)
  rw [names_datum] at hd
  obtain ⟨xs, m, _, hx, hl, hn, hel⟩ := DataW.trod_array Tryd.underlying115 hd
  rw [cells130] at hl
  simp only [Prod.mk.injEq, DataW.agg.injEq] at hx
  have hcs : ∀ i, i < 8 → cs[i]? = names8[i]? := by
    intro i hi
    have h1 := hel i hi
    rw [cells9', Nat.mul_one] at h1
    have h2 := congrArg (fun l => l[i]?) hx.1
    obtain ⟨x, hxi⟩ : ∃ x, xs[i]? = some x := ⟨xs[i], List.getElem?_eq_getElem (by omega)⟩
    rw [hxi] at h1
    simp only [List.getElem?_map, hxi, Option.map_some] at h2
    obtain ⟨s, e1, e2, _⟩ := DataW.trod_string Tryd.underlying9 h1
    rw [e2] at h2
    have h3 : cs.toList[i]? = some (.string s) := by
      have := congrArg (fun l => l[0]?) e1
      simpa using this
    rw [← Array.getElem?_toList, h3]
    obtain ⟨bs, hb1, hb2⟩ : ∃ bs, nameTab[i]? = some bs ∧ names8[i]? = some (.string ⟨bs.toArray⟩) := by
      have : ∀ i, i < 8 → ∃ bs, nameTab[i]? = some bs ∧ names8[i]? = some (.string ⟨bs.toArray⟩) := by
        intro i hi
        match i, hi with
        | 0, _ => exact ⟨_, rfl, rfl⟩
        | 1, _ => exact ⟨_, rfl, rfl⟩
        | 2, _ => exact ⟨_, rfl, rfl⟩
        | 3, _ => exact ⟨_, rfl, rfl⟩
        | 4, _ => exact ⟨_, rfl, rfl⟩
        | 5, _ => exact ⟨_, rfl, rfl⟩
        | 6, _ => exact ⟨_, rfl, rfl⟩
        | 7, _ => exact ⟨_, rfl, rfl⟩
      exact this i hi
    rw [hb1] at h2
    simp only [Option.map_some, Option.some.injEq, DataW.lit.injEq, Lit.string.injEq] at h2
    rw [hb2, h2]
  have h8 : cs.size = 8 := by simpa using hl
  refine ⟨fun j => ?_, ?_⟩
  · rw [World.var?_cell gNames hv j]
    by_cases hj : j < 8
    · exact hcs j hj
    · rw [Array.getElem?_eq_none (by omega), Array.getElem?_eq_none (by show 8 ≤ j; omega)]
  · simp only [World.var?, gNames, Option.bind_some] at hv
    split at hv
    · rename_i h; exact (Array.getElem?_eq_some_iff.1 h).1
    · cases hv
end Go.Proofs.YtflonmlnedkmjaaDoor
