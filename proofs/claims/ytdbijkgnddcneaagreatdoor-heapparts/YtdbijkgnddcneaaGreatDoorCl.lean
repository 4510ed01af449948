/-
  .
-/
import Derived.Test.YtdbijkgnddcneaaGreatDoorCards
import Derived.Test.YtdbijkgnddcneaaGreatDoorCoJ
import Derived.Test.YtdbijkgnddcneaaGreatDoorMaJ
import Derived.Test.YtdbijkgnddcneaaGreatDoorLxBJ
import Derived.SevenTiedAt
import Derived.Carry
import Derived.Deep.Slices
import Derived.ProofKit
import Derived.LaidMore
import Derived.OpenShut
import Derived.LaidHandle
import Derived.Stop.Joined
import Derived.Deep.SlicePairs
namespace Go.Proofs.YtdbijkgnddcneaaGreatDoor
open Go.ChangeShapes Go.WideShapes Go.ChangeAt Go.WideMaps Go.WideElems Go.RowKit Go.Deep
theorem Tryz.own : ownKnob Tryz.prog.godebug = none := by kernel_rfl
theorem gNames : Tryz.prog.globalNamed "guise/value.ownNames" = some 0 := by kernel_rfl
theorem tNames : (Tryz.prog.globals[0]?).map (·.type) = some 227 := by kernel_rfl
theorem gWords : Tryz.prog.globalNamed "guise/lex.words" = some 6 := by kernel_rfl
theorem gSigns : Tryz.prog.globalNamed "guise/lex.signs" = some 7 := by kernel_rfl
theorem tWords : (Tryz.prog.globals[6]?).map (·.type) = some 353 := by kernel_rfl
theorem tSigns : (Tryz.prog.globals[7]?).map (·.type) = some 200 := by kernel_rfl
theorem cells355 : Tryz.prog.cellsOf 355 = 2 := by kernel_rfl
theorem cells4 : Tryz.prog.cellsOf 4 = 1 := by kernel_rfl
theorem cells130 : Tryz.prog.cellsOf 227 = 8 := by kernel_rfl
theorem cells9' : Tryz.prog.cellsOf 9 = 1 := by kernel_rfl
def laidList : List (String × DataW Unit) := [("math/bits.deBruijn32tab", Rows.laid_math_bits_deBruijn32tab), ("math/bits.deBruijn64tab", Rows.laid_math_bits_deBruijn64tab), ("internal/strconv.uint64pow10", Rows.laid_internal_strconv_uint64pow10), ("guise/lex.words", Rows.laid_guise_lex_words), ("guise/lex.signs", Rows.laid_guise_lex_signs), ("guise/value.ownNames", Rows.laid_guise_value_ownNames)]
theorem door_met (os : Os) (args : Array Value) : laidMetH Tryz.prog laidList ((World.doorLaid Tryz.prog 400 os).forCall (fun _ _ => 0) ⟨#[], args, []⟩).memory := by
 rw [MakeChecks.laidMetH_plain _ _ _ (by kernel_rfl)]
 exact laidMet_of_run' 8 (by kernel_rfl) (by kernel_rfl)
theorem int_bounds {n : Int} (h : (Lit.int .i64 n).wf = true) : -9223372036854775808 ≤ n ∧ n ≤ 9223372036854775807 := by
 simp [Lit.wf, show IntKind.i64.min = -9223372036854775808 by decide, show IntKind.i64.max = 9223372036854775807 by decide] at h; exact h
def nameTab : List (List UInt8) := [[], [98, 111, 111, 108], [105, 110, 116], [102, 108, 111, 97, 116], [116, 101, 120, 116], [108, 105, 115, 116], [109, 97, 112], [102, 117, 110, 99]]
theorem names_datum : (Rows.laid_guise_value_ownNames : DataW Unit) = .agg (nameTab.map fun x => .lit (.string x)) := rfl
theorem names_of_laid {W : World} (h0 : laidMetH Tryz.prog laidList W) : NamesAt W := by
 rw [MakeChecks.laidMetH_plain _ _ _ (by kernel_rfl)] at h0
 obtain ⟨ps, ⟨_, _, _, _, _, _, _, _, _, _, ⟨_, _, _, _, _, _, _, _, _, _, ⟨_, _, _, _, _, _, _, _, _, _, ⟨_, _, _, _, _, _, _, _, _, _, ⟨_, _, _, _, _, _, _, _, _, _, ⟨g, t, cs, fuel, p, q, hg, ht, hv, hd, _, _⟩, _⟩, _⟩, _⟩, _⟩, _⟩, _⟩ := h0
 obtain rfl := Option.some.inj (gNames.symm.trans hg)
 obtain rfl := Option.some.inj (tNames.symm.trans ht)
 rw [names_datum] at hd
 obtain ⟨xs, m, _, hx, hl, hn, hel⟩ := DataW.trod_array Tryz.underlying227 hd
 rw [cells130] at hl
 simp only [Prod.mk.injEq, DataW.agg.injEq] at hx
 have hcs : ∀ i, i < 8 → cs[i]? = names8[i]? := by
  intro i hi
  have h1 := hel i hi
  rw [cells9', Nat.mul_one] at h1
  have h2 := congrArg (fun l => l[i]?) hx.1
  obtain ⟨x, hxi⟩ : ∃ x, xs[i]? = some x := ⟨xs[i], List.getElem?_eq_getElem (by omega)⟩
  rw [hxi] at h1
  simp only [List.getElem?_map, hxi, Option.map_some] at h2
  obtain ⟨s, e1, e2, _⟩ := DataW.trod_string Tryz.underlying9 h1
  rw [e2] at h2
  have h3 : cs.toList[i]? = some (.string s) := by
   have := congrArg (fun l => l[0]?) e1
   simpa using this
  rw [← Array.getElem?_toList, h3]
  obtain ⟨bs, hb1, hb2⟩ : ∃ bs, nameTab[i]? = some bs ∧ names8[i]? = some (.string ⟨bs.toArray⟩) := by
   have : ∀ i, i < 8 → ∃ bs, nameTab[i]? = some bs ∧ names8[i]? = some (.string ⟨bs.toArray⟩) := by
    intro i hi
    match i, hi with
    | 0, _ => exact ⟨_, rfl, rfl⟩
    | 1, _ => exact ⟨_, rfl, rfl⟩
    | 2, _ => exact ⟨_, rfl, rfl⟩
    | 3, _ => exact ⟨_, rfl, rfl⟩
    | 4, _ => exact ⟨_, rfl, rfl⟩
    | 5, _ => exact ⟨_, rfl, rfl⟩
    | 6, _ => exact ⟨_, rfl, rfl⟩
    | 7, _ => exact ⟨_, rfl, rfl⟩
   exact this i hi
  rw [hb1] at h2
  simp only [Option.map_some, Option.some.injEq, DataW.lit.injEq, Lit.string.injEq] at h2
  rw [hb2, h2]
 have h8 : cs.size = 8 := by simpa using hl
 refine ⟨fun j => ?_, ?_⟩
 ·rw [World.var?_cell gNames hv j]
  by_cases hj : j < 8
  ·exact hcs j hj
  ·rw [Array.getElem?_eq_none (by omega), Array.getElem?_eq_none (by show 8 ≤ j; omega)]
 ·simp only [World.var?, gNames, Option.bind_some] at hv
  split at hv
  ·rename_i h; exact (Array.getElem?_eq_some_iff.1 h).1
  ·cases hv
theorem words_datum : (Rows.laid_guise_lex_words : DataW Unit) = .slice (Lx.wordTab.map fun x => .agg [.lit (.string x.1), .lit (.bool x.2)]) [] := rfl
theorem signs_datum : (Rows.laid_guise_lex_signs : DataW Unit) = .slice (Lx.signTab.map fun x => .lit (.string x)) [] := rfl
theorem size_of_var {W : World} {n : String} {g : Nat} {cs : Array Value} (hg : Tryz.prog.globalNamed n = some g) (hv : W.var? Tryz.prog n = some cs) : g < W.heap.size := by
 simp only [World.var?, hg, Option.bind_some] at hv
 split at hv
 ·rename_i h; exact (Array.getElem?_eq_some_iff.1 h).1
 ·cases hv
theorem tabs_of_laid {W : World} (h0 : laidMetH Tryz.prog laidList W) : ∃ gw ow gs os, Lx.TabsAt gw ow gs os W := by
 rw [MakeChecks.laidMetH_plain _ _ _ (by kernel_rfl)] at h0
 obtain ⟨ps, ⟨_, _, _, _, _, _, _, _, _, _, ⟨_, _, _, _, _, _, _, _, _, _, ⟨_, _, _, _, _, _, _, _, _, _, ⟨g0, t0, cs0, f0, p0, q0, hg0, ht0, hv0, hd0, ⟨g1, t1, cs1, f1, p1, q1, hg1, ht1, hv1, hd1, _, _⟩, _⟩, _⟩, _⟩, _⟩, _⟩ := h0
 obtain rfl := Option.some.inj (gWords.symm.trans hg0)
 obtain rfl := Option.some.inj (gSigns.symm.trans hg1)
 obtain rfl := Option.some.inj (tWords.symm.trans ht0)
 obtain rfl := Option.some.inj (tSigns.symm.trans ht1)
 rw [words_datum] at hd0
 rw [signs_datum] at hd1
 rcases open_slice_pairs Tryz.underlying353 Tryz.underlying355 cells355 rfl rfl cells9 cells4 hd0 with ⟨_, hx⟩ | ⟨a, len, cap, m, n, V0, V1, D0, D1, P0, P1, hcs, _, hl, hm, hmm, hx, hel⟩
 ·simp at hx
 rcases open_slice1 Tryz.underlying200 cells9 hd1 with ⟨_, hy⟩ | ⟨a', len', cap', m', n', V', D', Pl', hcs', _, hl', hm', hmm', hy, hel'⟩
 ·simp at hy
 simp only [Prod.mk.injEq, DataW.slice.injEq] at hx hy
 obtain ⟨⟨hx1, hx2⟩, _⟩ := hx
 obtain ⟨⟨hy1, hy2⟩, _⟩ := hy
 simp only [if_true] at hmm hmm'
 have hlen : len = 22 := by
  have := congrArg List.length hx1
  simpa [Lx.wordTab] using this.symm
 have hlen' : len' = 42 := by
  have := congrArg List.length hy1
  simpa [Lx.signTab] using this.symm
 subst hlen; subst hlen'
 have hcap : m = 22 := by
  have := congrArg List.length hx2
  simp at this
  omega
 have hcap' : m' = 42 := by
  have := congrArg List.length hy2
  simp at this
  omega
 subst hcap; subst hcap'; subst hmm; subst hmm'
 have e0 := (hel 0 (by omega)).1
 have e0' := (hel' 0 (by omega)).1
 rw [Nat.zero_mul] at e0
 simp only [Addr.add, if_true] at e0 e0'
 have ha := spot_of_cell e0
 have ha' := spot_of_cell e0'
 have hb := block_of_cell e0
 have hb' := block_of_cell e0'
 obtain ⟨gw, ow, sp⟩ := a
 obtain ⟨gs, os, sp'⟩ := a'
 cases ha; cases ha'
 have hadd : ∀ (g o k : Nat), (⟨g, o, none⟩ : Addr).add k = ⟨g, o + k, none⟩ := fun g o k => by
  unfold Addr.add
  split
  ·rename_i h; subst h; rfl
  ·rfl
 have h6 : 7 < W.heap.size := size_of_var hg1 hv1
 have c0 := World.var?_cell hg0 hv0 0
 have c1 := World.var?_cell hg1 hv1 0
 rw [Array.eq_one_of_toList hcs] at c0
 rw [Array.eq_one_of_toList hcs'] at c1
 simp at c0 c1
 refine ⟨gw, ow, gs, os, c0, c1, fun k hk => ?_, fun k hk => ?_, by omega, hb, hb'⟩
 ·obtain ⟨h1, h2, h3, h4⟩ := hel k hk
  obtain ⟨s, e1, e2, _⟩ := DataW.trod_string Tryz.underlying9 h3
  obtain ⟨b, e3, e4⟩ := DataW.trod_bool Tryz.underlying4 h4
  have hk' := congrArg (fun l => l[k]?) hx1
  simp only [List.getElem?_map, List.getElem?_range hk, Option.map_some] at hk'
  have hw : Lx.wordTab[k]? = some (Lx.wordL k, Lx.wordE k) := by
   have : ∀ k, k < 22 → Lx.wordTab[k]? = some (Lx.wordL k, Lx.wordE k) := by decide
   exact this k hk
  rw [hw] at hk'
  simp only [Option.map_some, Option.some.injEq, DataW.agg.injEq, List.cons.injEq, and_true] at hk'
  simp only [List.cons.injEq, and_true] at e1 e3
  simp only [Prod.mk.injEq] at e2 e4
  rw [e2.1, e4.1] at hk'
  simp only [DataW.lit.injEq, Lit.string.injEq, Lit.bool.injEq] at hk'
  rw [hadd] at h1 h2
  refine ⟨?_, ?_⟩
  ·rw [h1, e1, Lx.wordS, hk'.1]
  ·rw [Nat.add_assoc, h2, e3, hk'.2]
 ·obtain ⟨h1, h3⟩ := hel' k hk
  obtain ⟨s, e1, e2, _⟩ := DataW.trod_string Tryz.underlying9 h3
  have hk' := congrArg (fun l => l[k]?) hy1
  simp only [List.getElem?_map, List.getElem?_range hk, Option.map_some] at hk'
  have hw : Lx.signTab[k]? = some (Lx.signL k) := by
   have : ∀ k, k < 42 → Lx.signTab[k]? = some (Lx.signL k) := by decide
   exact this k hk
  rw [hw] at hk'
  simp only [Option.map_some, Option.some.injEq] at hk'
  simp only [List.cons.injEq, and_true] at e1
  simp only [Prod.mk.injEq] at e2
  rw [e2.1] at hk'
  simp only [DataW.lit.injEq, Lit.string.injEq] at hk'
  rw [hadd] at h1
  rw [h1, e1, Lx.signS, hk']
end Go.Proofs.YtdbijkgnddcneaaGreatDoor
