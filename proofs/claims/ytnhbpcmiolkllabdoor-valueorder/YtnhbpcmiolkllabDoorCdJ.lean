/-
  From the reading of an argument to a list of numbers that lies in memory.
  What every card of this seat needs: the listed variable, that the program's own text lays it, and the names in memory.
-/
import Derived.Test.YtnhbpcmiolkllabDoorDaJ
import Derived.Test.YtnhbpcmiolkllabDoorCards
import Derived.Test.YtnhbpcmiolkllabDoorCoJ
import Derived.SevenTiedAt
import Derived.Carry
import Derived.ProofKit
import Derived.LaidMore
import Derived.OpenShut
import Derived.LaidHandle
import Derived.Stop.Joined
namespace Go.Proofs.YtnhbpcmiolkllabDoor
open Go.ChangeShapes Go.WideShapes Go.RowKit Go.Deep

theorem wf_i64 {n : Int} (h : (Lit.int .i64 n).wf = true) : -9223372036854775808 ≤ n ∧ n ≤ 9223372036854775807 := by
  simp [Lit.wf, show IntKind.i64.min = -9223372036854775808 by decide, show IntKind.i64.max = 9223372036854775807 by decide] at h; exact h
theorem add_flat {W : World} {a : Addr} {k : Nat} {v : Value} (h : W.cell? (a.add k) = some v) : W.cell? ⟨a.block, a.off + k, none⟩ = some v := by
  by_cases h0 : k = 0
  · have e : a.add k = a := by unfold Addr.add; rw [if_pos h0]
    rw [e] at h
    have hsp := spot_of_cell h
    rw [hsp] at h
    rw [h0]
    exact h
  · have e : a.add k = ⟨a.block, a.off + k, none⟩ := by unfold Addr.add; rw [if_neg h0]
    rw [e] at h
    exact h

/-- What reads as a list of numbers is one. -/
theorem open_row {H : Type} {enc : TypeId × Value → H} {W : World} {base : Nat} {spare : Nat → Bool} {held : Bool} {fuel : Nat} {cs : List Value} {x : DataW H × List MemPlace}
    (h : DataW.trod enc Tryd.prog W base spare held fuel 22 cs = some x) : ∃ (pp : Option Addr) (zs : List Int) (c : Nat), cs = [.slice pp zs.length c] ∧ zs.length ≤ c ∧ c ≤ maxLen ∧
      (∀ z ∈ zs, -9223372036854775808 ≤ z ∧ z ≤ 9223372036854775807) ∧
      (zs = [] ∨ ∃ b o, pp = some ⟨b, o, none⟩ ∧ b < W.heap.size ∧ ∀ (i : Nat) (hi : i < zs.length), W.cell? ⟨b, o + i, none⟩ = some (.int .i64 zs[i])) := by
  rcases DataW.trod_slice Tryd.underlying22 h with ⟨hv, _⟩ | ⟨a, len, cap, elems, rest, m, hm, hcs, _, _, hl, hcap, hel, hall, _, _⟩
  · exact ⟨none, [], 0, hv, Nat.le_refl _, Nat.zero_le _, fun z hz => (by cases hz), .inl rfl⟩
  · have each : ∀ i, i < len → ∃ z : Int, W.cell? ⟨a.block, a.off + i, none⟩ = some (.int .i64 z) ∧ (-9223372036854775808 ≤ z ∧ z ≤ 9223372036854775807) ∧ (i = 0 → a = ⟨a.block, a.off, none⟩ ∧ a.block < W.heap.size) := by
      intro i hi
      have key := hall i hi
      rw [List.getElem?_eq_getElem (by omega), cells3] at key
      obtain ⟨cs', h1, h2⟩ := Option.bind_eq_some_iff.1 key
      obtain ⟨z, rfl, _, hz⟩ := DataW.trod_int Tryd.underlying3 h2
      obtain ⟨_, _, hcell⟩ := World.cells?_some h1
      have e0 := hcell 0 (by omega)
      rw [add_add] at e0
      simp only [Nat.mul_one, Nat.add_zero, List.getElem?_cons_zero] at e0
      refine ⟨z, add_flat e0, wf_i64 hz, fun h0 => ?_⟩
      subst h0
      have e1 : a.add 0 = a := by unfold Addr.add; rw [if_pos rfl]
      rw [e1] at e0
      exact ⟨spot_of_cell e0, block_of_cell e0⟩
    obtain ⟨f, hf⟩ := choose_lt each
    refine ⟨some a, (List.range len).map f, cap, by simpa using hcs, by simpa using hl, hcap, fun z hz => ?_, ?_⟩
    · obtain ⟨i, hi, rfl⟩ := List.mem_map.1 hz
      exact (hf i (List.mem_range.1 hi)).2.1
    · rcases Nat.eq_zero_or_pos len with h0 | h0
      · subst h0; exact .inl rfl
      · obtain ⟨hs0, hb0⟩ := (hf 0 h0).2.2 rfl
        refine .inr ⟨a.block, a.off, by rw [← hs0], hb0, fun i hi => ?_⟩
        have hi' : i < len := by simpa using hi
        simpa using (hf i hi').1

set_option maxRecDepth 100000 in
theorem open_nums {H : Type} {enc : TypeId × Value → H} {W : World} {base : Nat} {spare : Nat → Bool} {held : Bool} {v : Value} {x : DataW H} {ps : List MemPlace} {r : Reach} {b0 : Nat} (hval : Value.okWide Tryd.prog W r b0 22 v)
    (h : DataW.Trod enc Tryd.prog W base spare held 22 v x ps) : ∃ (pp : Option Addr) (zs : List Int) (c : Nat), v = .slice pp zs.length c ∧ zs.length ≤ c ∧ c ≤ maxLen ∧ (∀ z ∈ zs, -9223372036854775808 ≤ z ∧ z ≤ 9223372036854775807) ∧
      (zs = [] ∨ ∃ b o, pp = some ⟨b, o, none⟩ ∧ b < W.heap.size ∧ ∀ (i : Nat) (hi : i < zs.length), W.cell? ⟨b, o + i, none⟩ = some (.int .i64 zs[i])) := by
  obtain ⟨fuel, hf⟩ := h
  obtain ⟨pp, zs, c, hv, h1, h2, h3, h4⟩ := open_row hf
  refine ⟨pp, zs, c, ?_, h1, h2, h3, h4⟩
  obtain ⟨ad, len, cap, rfl⟩ := okWide_slice Tryd.underlying22 hval
  simpa [Value.cells] using hv
end Go.Proofs.YtnhbpcmiolkllabDoor
namespace Go.Proofs.YtnhbpcmiolkllabDoor
open Go.ChangeShapes Go.WideShapes Go.ChangeAt Go.WideMaps Go.WideElems Go.RowKit

theorem Tryd.own : ownKnob Tryd.prog.godebug = none := by kernel_rfl
theorem Tryd.laidOut : laidOutB Tryd.prog = true := by kernel_rfl
theorem gNames : Tryd.prog.globalNamed "guise/value.ownNames" = some 0 := by kernel_rfl
theorem tNames : (Tryd.prog.globals[0]?).map (·.type) = some 130 := by kernel_rfl
theorem cells130 : Tryd.prog.cellsOf 130 = 8 := by kernel_rfl
theorem cells9' : Tryd.prog.cellsOf 9 = 1 := by kernel_rfl

/-- What all rows of this seat list. -/
def laidList : List (String × DataW Unit) := [("guise/value.ownNames", Rows.laid_guise_value_ownNames)]

/-- The heap that the program's own text leaves meets the condition. -/
theorem door_met (os : Os) (args : Array Value) : laidMetH Tryd.prog laidList ((World.doorLaid Tryd.prog 400 os).forCall (fun _ _ => 0) ⟨#[], args, []⟩).memory := by
  rw [MakeChecks.laidMetH_plain _ _ _ (by kernel_rfl)]
  exact laidMet_of_run' 8 (by kernel_rfl) (by kernel_rfl)

theorem int_bounds {n : Int} (h : (Lit.int .i64 n).wf = true) : -9223372036854775808 ≤ n ∧ n ≤ 9223372036854775807 := by
  simp [Lit.wf, show IntKind.i64.min = -9223372036854775808 by decide, show IntKind.i64.max = 9223372036854775807 by decide] at h; exact h

def nameTab : List (List UInt8) := [[], [98, 111, 111, 108], [105, 110, 116], [102, 108, 111, 97, 116], [116, 101, 120, 116], [108, 105, 115, 116], [109, 97, 112], [102, 117, 110, 99]]
theorem names_datum : (Rows.laid_guise_value_ownNames : DataW Unit) = .agg (nameTab.map fun x => .lit (.string x)) := rfl

theorem names_of_laid {W : World} (h0 : laidMetH Tryd.prog laidList W) : NamesAt W := by
  rw [MakeChecks.laidMetH_plain _ _ _ (by kernel_rfl)] at h0
  obtain ⟨ps, ⟨g, t, cs, fuel, p, q, hg, ht, hv, hd, _, _⟩, _⟩ := h0
  obtain rfl := Option.some.inj (gNames.symm.trans hg)
  obtain rfl := Option.some.inj (tNames.symm.trans ht)
  rw [names_datum] at hd
  obtain ⟨xs, m, _, hx, hl, hn, hel⟩ := DataW.trod_array Tryd.underlying130 hd
  rw [cells130] at hl
  simp only [Prod.mk.injEq, DataW.agg.injEq] at hx
  have hcs : ∀ i, i < 8 → cs[i]? = names8[i]? := by
    intro i hi
    have h1 := hel i hi
    rw [cells9', Nat.mul_one] at h1
    have h2 := congrArg (fun l => l[i]?) hx.1
    obtain ⟨x, hxi⟩ : ∃ x, xs[i]? = some x := ⟨xs[i], List.getElem?_eq_getElem (by omega)⟩
    rw [hxi] at h1
    simp only [List.getElem?_map, hxi, Option.map_some] at h2
    obtain ⟨s, e1, e2, _⟩ := DataW.trod_string Tryd.underlying9 h1
    rw [e2] at h2
    have h3 : cs.toList[i]? = some (.string s) := by
      have := congrArg (fun l => l[0]?) e1
      simpa using this
    rw [← Array.getElem?_toList, h3]
    obtain ⟨bs, hb1, hb2⟩ : ∃ bs, nameTab[i]? = some bs ∧ names8[i]? = some (.string ⟨bs.toArray⟩) := by
      have : ∀ i, i < 8 → ∃ bs, nameTab[i]? = some bs ∧ names8[i]? = some (.string ⟨bs.toArray⟩) := by
        intro i hi
        match i, hi with
        | 0, _ => exact ⟨_, rfl, rfl⟩
        | 1, _ => exact ⟨_, rfl, rfl⟩
        | 2, _ => exact ⟨_, rfl, rfl⟩
        | 3, _ => exact ⟨_, rfl, rfl⟩
        | 4, _ => exact ⟨_, rfl, rfl⟩
        | 5, _ => exact ⟨_, rfl, rfl⟩
        | 6, _ => exact ⟨_, rfl, rfl⟩
        | 7, _ => exact ⟨_, rfl, rfl⟩
      exact this i hi
    rw [hb1] at h2
    simp only [Option.map_some, Option.some.injEq, DataW.lit.injEq, Lit.string.injEq] at h2
    rw [hb2, h2]
  have h8 : cs.size = 8 := by simpa using hl
  refine ⟨fun j => ?_, ?_⟩
  · rw [World.var?_cell gNames hv j]
    by_cases hj : j < 8
    · exact hcs j hj
    · rw [Array.getElem?_eq_none (by omega), Array.getElem?_eq_none (by show 8 ≤ j; omega)]
  · simp only [World.var?, gNames, Option.bind_some] at hv
    split at hv
    · rename_i h; exact (Array.getElem?_eq_some_iff.1 h).1
    · cases hv
end Go.Proofs.YtnhbpcmiolkllabDoor
