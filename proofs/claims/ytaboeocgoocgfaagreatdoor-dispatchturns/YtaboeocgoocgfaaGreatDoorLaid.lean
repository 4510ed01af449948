/-
  From the rows' condition to the walks' facts: where the listed variables read as listed, the two tables lie in memory, and the variable of package errors holds its handle.
-/
import Derived.Test.YtaboeocgoocgfaaGreatDoorTa
import Derived.Deep.Slices
import Derived.ProofKit
import Derived.LaidMore
import Derived.OpenShut
import Derived.LaidHandle
import Derived.Stop.Joined
import Derived.Deep.SlicePairs
namespace Go.Proofs.YtaboeocgoocgfaaGreatDoor
open Go.ChangeShapes Go.WideShapes Go.ChangeAt Go.WideMaps Go.WideElems Go.RowKit Go.Deep

theorem Tryz.own : ownKnob Tryz.prog.godebug = none := by kernel_rfl
theorem gWords : Tryz.prog.globalNamed "guise/lex.words" = some 2 := by kernel_rfl
theorem gSigns : Tryz.prog.globalNamed "guise/lex.signs" = some 3 := by kernel_rfl
theorem gErr : Tryz.prog.globalNamed "errors.errorType" = some 0 := by kernel_rfl
theorem tWords : (Tryz.prog.globals[2]?).map (·.type) = some 220 := by kernel_rfl
theorem tSigns : (Tryz.prog.globals[3]?).map (·.type) = some 107 := by kernel_rfl
theorem cells222 : Tryz.prog.cellsOf 222 = 2 := by kernel_rfl
theorem cells9 : Tryz.prog.cellsOf 9 = 1 := by kernel_rfl
theorem cells4 : Tryz.prog.cellsOf 4 = 1 := by kernel_rfl
theorem Tryz.rt : (Tryz.prog.cutTypes.find? (·.1 == "internal/reflectlite.rtype")).map (·.2) = some 126 := by kernel_rfl
theorem Tryz.oneRow : ((List.range 278).filter fun t => Tryz.prog.rowNamed t [101, 114, 114, 111, 114]) = [25] := by kernel_rfl
theorem Tryz.size : Tryz.prog.types.size = 278 := by kernel_rfl

/-- What all rows of this seat list, but the handle. -/
def laidRest : List (String × DataW Unit) := [("guise/lex.words", Rows.laid_guise_lex_words), ("guise/lex.signs", Rows.laid_guise_lex_signs)]
/-- What all rows of this seat list. -/
def laidList : List (String × DataW Unit) := [("errors.errorType", Rows.laid_errors_errorType), ("guise/lex.words", Rows.laid_guise_lex_words), ("guise/lex.signs", Rows.laid_guise_lex_signs)]

theorem laid_parts {W : World} (h : laidMetH Tryz.prog laidList W) : laidMet Tryz.prog laidRest W ∧ handlesMet Tryz.prog [("errors.errorType", Rows.laid_errors_errorType)] W := h

theorem handle_of_laid {W : World} (h : laidMetH Tryz.prog laidList W) : W.cell? ⟨0, 0, none⟩ = some (.iface 126 (.agg #[hnd 25])) := by
  obtain ⟨name, u, ty, e1, e2, e3, e4, e5⟩ := (laid_parts h).2 _ (List.mem_singleton.2 rfl)
  have en : name = [101, 114, 114, 111, 114] := (Option.some.inj e1).symm
  subst en
  obtain rfl := Option.some.inj (Tryz.rt.symm.trans e2)
  have hm : ty ∈ (List.range 278).filter fun t => Tryz.prog.rowNamed t [101, 114, 114, 111, 114] := List.mem_filter.2 ⟨List.mem_range.2 (by rw [← Tryz.size]; exact e3), e4⟩
  rw [Tryz.oneRow] at hm
  obtain rfl := List.mem_singleton.1 hm
  have hh : typeHandle Tryz.prog 25 = hnd 25 := by kernel_rfl
  rw [hh] at e5
  simpa using World.var?_cell gErr e5 0

theorem words_datum : (Rows.laid_guise_lex_words : DataW Unit) = .slice (wordTab.map fun x => .agg [.lit (.string x.1), .lit (.bool x.2)]) [] := rfl
theorem signs_datum : (Rows.laid_guise_lex_signs : DataW Unit) = .slice (signTab.map fun x => .lit (.string x)) [] := rfl

theorem size_of_var {W : World} {n : String} {g : Nat} {cs : Array Value} (hg : Tryz.prog.globalNamed n = some g) (hv : W.var? Tryz.prog n = some cs) : g < W.heap.size := by
  simp only [World.var?, hg, Option.bind_some] at hv
  split at hv
  · rename_i h; exact (Array.getElem?_eq_some_iff.1 h).1
  · cases hv

theorem spot_of_cell {w : World} {a : Addr} {v : Value} (h : w.cell? a = some v) : a = ⟨a.block, a.off, none⟩ := by
  obtain ⟨b, o, sp⟩ := a
  cases sp with
  | none => rfl
  | some x =>
    unfold World.cell? at h
    split at h
    · simp at h
    · cases h
theorem block_of_cell {w : World} {a : Addr} {v : Value} (h : w.cell? a = some v) : a.block < w.heap.size := by
  unfold World.cell? at h
  split at h
  · rename_i h1; exact (Array.getElem?_eq_some_iff.1 h1).1
  · cases h

theorem tabs_of_laid {W : World} (h0 : laidMetH Tryz.prog laidList W) : ∃ gw ow gs os, TabsAt gw ow gs os W := by
  have h := (laid_parts h0).1
  obtain ⟨ps, ⟨g0, t0, cs0, f0, p0, q0, hg0, ht0, hv0, hd0, ⟨g1, t1, cs1, f1, p1, q1, hg1, ht1, hv1, hd1, _, _⟩, _⟩, _, _⟩ := h
  obtain rfl := Option.some.inj (gWords.symm.trans hg0)
  obtain rfl := Option.some.inj (gSigns.symm.trans hg1)
  obtain rfl := Option.some.inj (tWords.symm.trans ht0)
  obtain rfl := Option.some.inj (tSigns.symm.trans ht1)
  rw [words_datum] at hd0
  rw [signs_datum] at hd1
  rcases open_slice_pairs Tryz.underlying220 Tryz.underlying222 cells222 rfl rfl cells9 cells4 hd0 with ⟨_, hx⟩ | ⟨a, len, cap, m, n, V0, V1, D0, D1, P0, P1, hcs, _, hl, hm, hmm, hx, hel⟩
  · simp at hx
  rcases open_slice1 Tryz.underlying107 cells9 hd1 with ⟨_, hy⟩ | ⟨a', len', cap', m', n', V', D', Pl', hcs', _, hl', hm', hmm', hy, hel'⟩
  · simp at hy
  simp only [Prod.mk.injEq, DataW.slice.injEq] at hx hy
  obtain ⟨⟨hx1, hx2⟩, _⟩ := hx
  obtain ⟨⟨hy1, hy2⟩, _⟩ := hy
  simp only [if_true] at hmm hmm'
  have hlen : len = 22 := by
    have := congrArg List.length hx1
    simpa [wordTab] using this.symm
  have hlen' : len' = 42 := by
    have := congrArg List.length hy1
    simpa [signTab] using this.symm
  subst hlen; subst hlen'
  have hcap : m = 22 := by
    have := congrArg List.length hx2
    simp at this
    omega
  have hcap' : m' = 42 := by
    have := congrArg List.length hy2
    simp at this
    omega
  subst hcap; subst hcap'; subst hmm; subst hmm'
  have e0 := (hel 0 (by omega)).1
  have e0' := (hel' 0 (by omega)).1
  rw [Nat.zero_mul] at e0
  simp only [Addr.add, if_true] at e0 e0'
  have ha := spot_of_cell e0
  have ha' := spot_of_cell e0'
  have hb := block_of_cell e0
  have hb' := block_of_cell e0'
  obtain ⟨gw, ow, sp⟩ := a
  obtain ⟨gs, os, sp'⟩ := a'
  cases ha; cases ha'
  have hadd : ∀ (g o k : Nat), (⟨g, o, none⟩ : Addr).add k = ⟨g, o + k, none⟩ := fun g o k => by
    unfold Addr.add
    split
    · rename_i h; subst h; rfl
    · rfl
  have h6 : 3 < W.heap.size := size_of_var hg1 hv1
  have c0 := World.var?_cell hg0 hv0 0
  have c1 := World.var?_cell hg1 hv1 0
  rw [Array.eq_one_of_toList hcs] at c0
  rw [Array.eq_one_of_toList hcs'] at c1
  simp at c0 c1
  refine ⟨gw, ow, gs, os, c0, c1, fun k hk => ?_, fun k hk => ?_, by omega, hb, hb'⟩
  · obtain ⟨h1, h2, h3, h4⟩ := hel k hk
    obtain ⟨s, e1, e2, _⟩ := DataW.trod_string Tryz.underlying9 h3
    obtain ⟨b, e3, e4⟩ := DataW.trod_bool Tryz.underlying4 h4
    have hk' := congrArg (fun l => l[k]?) hx1
    simp only [List.getElem?_map, List.getElem?_range hk, Option.map_some] at hk'
    have hw : wordTab[k]? = some (wordL k, wordE k) := by
      have : ∀ k, k < 22 → wordTab[k]? = some (wordL k, wordE k) := by decide
      exact this k hk
    rw [hw] at hk'
    simp only [Option.map_some, Option.some.injEq, DataW.agg.injEq, List.cons.injEq, and_true] at hk'
    simp only [List.cons.injEq, and_true] at e1 e3
    simp only [Prod.mk.injEq] at e2 e4
    rw [e2.1, e4.1] at hk'
    simp only [DataW.lit.injEq, Lit.string.injEq, Lit.bool.injEq] at hk'
    rw [hadd] at h1 h2
    refine ⟨?_, ?_⟩
    · rw [h1, e1, wordS, hk'.1]
    · rw [Nat.add_assoc, h2, e3, hk'.2]
  · obtain ⟨h1, h3⟩ := hel' k hk
    obtain ⟨s, e1, e2, _⟩ := DataW.trod_string Tryz.underlying9 h3
    have hk' := congrArg (fun l => l[k]?) hy1
    simp only [List.getElem?_map, List.getElem?_range hk, Option.map_some] at hk'
    have hw : signTab[k]? = some (signL k) := by
      have : ∀ k, k < 42 → signTab[k]? = some (signL k) := by decide
      exact this k hk
    rw [hw] at hk'
    simp only [Option.map_some, Option.some.injEq] at hk'
    simp only [List.cons.injEq, and_true] at e1
    simp only [Prod.mk.injEq] at e2
    rw [e2.1] at hk'
    simp only [DataW.lit.injEq, Lit.string.injEq] at hk'
    rw [hadd] at h1
    rw [h1, e1, signS, hk']
end Go.Proofs.YtaboeocgoocgfaaGreatDoor
