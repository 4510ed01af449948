/-
  From the reading of an argument to the tree that lies in memory.
-/
import Derived.Test.YthbnegggohegkaaGreatDoorRsJ
import Derived.Deep.Slices
namespace Go.Proofs.YthbnegggohegkaaGreatDoor
open Go.ChangeShapes Go.WideShapes Go.RowKit Go.Deep

theorem cells24 : Tryz.prog.cellsOf 24 = 5 := by kernel_rfl
theorem cells22 : Tryz.prog.cellsOf 22 = 1 := by kernel_rfl
theorem cells3 : Tryz.prog.cellsOf 3 = 1 := by kernel_rfl
theorem cells9 : Tryz.prog.cellsOf 9 = 1 := by kernel_rfl

namespace MT
instance : Inhabited MT := ⟨.node 0 ⟨#[]⟩ 0 0 none 0 []⟩

theorem InL.mk {B : Nat} {w : World} {b : Nat} : ∀ {ts : List MT} {o : Nat}, (∀ (i : Nat) (hi : i < ts.length), CellsAt w b (o + i * 5) ts[i] ∧ In B w ts[i]) → InL B w b o ts
  | [], _, _ => by rw [InL]; trivial
  | t :: ts, o, h => by
    rw [InL]
    have h0 := h 0 (by simp)
    refine ⟨by simpa using h0.1, by simpa using h0.2, InL.mk fun i hi => ?_⟩
    have := h (i + 1) (by simpa using hi)
    rw [show o + (i + 1) * 5 = o + 5 + i * 5 by omega] at this
    simpa using this
end MT

theorem spot_of_cell {w : World} {a : Addr} {v : Value} (h : w.cell? a = some v) : a = ⟨a.block, a.off, none⟩ := by
  obtain ⟨b, o, sp⟩ := a
  cases sp with
  | none => rfl
  | some x =>
    unfold World.cell? at h
    split at h
    · simp at h
    · cases h
theorem block_of_cell {w : World} {a : Addr} {v : Value} (h : w.cell? a = some v) : a.block < w.heap.size := by
  unfold World.cell? at h
  split at h
  · rename_i h1; exact (Array.getElem?_eq_some_iff.1 h1).1
  · cases h

set_option maxRecDepth 100000 in
/-- What reads as a node is a tree that lies in memory. -/
theorem open_tree_cells {H : Type} {enc : TypeId × Value → H} {W : World} {base : Nat} {spare : Nat → Bool} {held : Bool} : ∀ (N fuel : Nat), fuel ≤ N → ∀ (cs : List Value) (x : DataW H × List MemPlace),
    DataW.trod enc Tryz.prog W base spare held fuel 24 cs = some x → ∃ t : MT, cs = t.cells.toList ∧ t.In W.heap.size W := by
  intro N
  induction N with
  | zero => intro fuel hf cs x h; obtain rfl : fuel = 0 := (by omega); simp [DataW.trod] at h
  | succ N ih =>
    intro fuel hf cs x h
    obtain ⟨xs, n, rfl, hxy, hlen, hxl, hfl⟩ := DataW.trod_struct Tryz.underlying24 h
    rw [cells24] at hlen
    have hxl' : xs.length = 5 := hxl
    clear hxl
    match cs, hlen, xs, hxl' with
    | [v0, v1, v2, v3, v4], _, [y0, y1, y2, y3, y4], _ =>
      have g0 := hfl 0 _ rfl
      have g1 := hfl 1 _ rfl
      have g2 := hfl 2 _ rfl
      have g3 := hfl 3 _ rfl
      have g4 := hfl 4 _ rfl
      simp [cells3, cells9, cells22] at g0 g1 g2 g3 g4
      obtain ⟨k, hk, _, _⟩ := DataW.trod_int Tryz.underlying3 g0
      obtain ⟨s, hs, _, hsz⟩ := DataW.trod_string Tryz.underlying9 g1
      obtain ⟨nn, hn, _, _⟩ := DataW.trod_int Tryz.underlying3 g2
      obtain ⟨aa, ha, _, _⟩ := DataW.trod_int Tryz.underlying3 g3
      simp only [List.cons.injEq, and_true] at hk hs hn ha
      subst hk hs hn ha
      rcases DataW.trod_slice Tryz.underlying22 g4 with ⟨hv, _⟩ | ⟨a, len, cap, elems, rest, m, hm, hcs, _, _, hl, hcap, hel, hall, _, _⟩
      · simp only [List.cons.injEq, and_true] at hv
        subst hv
        refine ⟨.node k s nn aa none 0 [], rfl, ?_⟩
        rw [MT.In]
        exact ⟨hsz, Nat.le_refl _, Nat.zero_le _, .inl rfl⟩
      · simp only [List.cons.injEq, and_true] at hcs
        subst hcs
        have each : ∀ i, i < len → ∃ t : MT, MT.CellsAt W a.block (a.off + i * 5) t ∧ t.In W.heap.size W ∧ (i = 0 → a = ⟨a.block, a.off, none⟩ ∧ a.block < W.heap.size) := by
          intro i hi
          have key := hall i hi
          rw [List.getElem?_eq_getElem (by omega), cells24] at key
          obtain ⟨cs', h1, h2⟩ := Option.bind_eq_some_iff.1 key
          obtain ⟨t, rfl, ht⟩ := ih m (by omega) _ _ h2
          obtain ⟨_, _, hcell⟩ := World.cells?_some h1
          have e0 := hcell 0 (by omega)
          have e1 := hcell 1 (by omega)
          have e2 := hcell 2 (by omega)
          have e3 := hcell 3 (by omega)
          have e4 := hcell 4 (by omega)
          rw [add_add] at e0 e1 e2 e3 e4
          have st : ∀ j, j < 5 → ∀ v, W.cell? (a.add (i * 5 + j)) = some v → W.cell? ⟨a.block, a.off + i * 5 + j, none⟩ = some v := by
            intro j _ v hv
            by_cases h0 : i * 5 + j = 0
            · have e : a.add (i * 5 + j) = a := by unfold Addr.add; rw [if_pos h0]
              rw [e] at hv
              have hsp := spot_of_cell hv
              rw [hsp] at hv
              rw [show a.off + i * 5 + j = a.off by omega]
              exact hv
            · have e : a.add (i * 5 + j) = ⟨a.block, a.off + (i * 5 + j), none⟩ := by unfold Addr.add; rw [if_neg h0]
              rw [e] at hv
              rw [Nat.add_assoc]
              exact hv
          refine ⟨t, ⟨?_, ?_, ?_, ?_, ?_⟩, ht, fun h0 => ?_⟩
          · simpa using st 0 (by omega) _ e0
          · simpa using st 1 (by omega) _ e1
          · simpa using st 2 (by omega) _ e2
          · simpa using st 3 (by omega) _ e3
          · exact st 4 (by omega) (.slice t.ptr t.kids.length t.cap) e4
          · subst h0
            simp only [Nat.zero_mul, Nat.zero_add, Addr.add, if_true] at e0
            exact ⟨spot_of_cell e0, block_of_cell e0⟩
        obtain ⟨f, hf'⟩ := choose_lt each
        refine ⟨.node k s nn aa (some a) cap ((List.range len).map f), ?_, ?_⟩
        · simp [MT.cells, MT.row, MT.kind, MT.text, MT.num, MT.at_, MT.ptr, MT.cap, MT.kids]
        · rw [MT.In]
          refine ⟨hsz, by simpa using hl, hcap, ?_⟩
          rcases Nat.eq_zero_or_pos len with h0 | h0
          · subst h0; exact .inl rfl
          · obtain ⟨hs0, hb0⟩ := (hf' 0 h0).2.2 rfl
            refine .inr ⟨a.block, a.off, by rw [← hs0], hb0, MT.InL.mk fun i hi => ?_⟩
            have hi' : i < len := by simpa using hi
            simpa using ⟨(hf' i hi').1, (hf' i hi').2.1⟩

theorem open_tree {H : Type} {enc : TypeId × Value → H} {W : World} {base : Nat} {spare : Nat → Bool} {held : Bool} {v : Value} {d : DataW H} {ps : List MemPlace}
    (h : DataW.Trod enc Tryz.prog W base spare held 24 v d ps) : ∃ t : MT, v = nodeV t ∧ t.In W.heap.size W := by
  obtain ⟨fuel, hf⟩ := h
  obtain ⟨t, ht, hin⟩ := open_tree_cells fuel fuel (Nat.le_refl _) _ _ hf
  refine ⟨t, ?_, hin⟩
  have hc : v.cells = t.cells := Array.toList_inj.1 ht
  cases v <;> simp [Value.cells, MT.cells] at hc
  rename_i cs
  rw [hc]; rfl
end Go.Proofs.YthbnegggohegkaaGreatDoor
