/-
  The law's own lent: a datum whose path is the front of a longer one.
-/
import Derived.Test.YtoplmbboaobahaaDoorOw
import Derived.Test.YtoplmbboaobahaaDoorY
import Derived.Laws.CopyOwn
namespace Go.Proofs.YtoplmbboaobahaaDoor
open Go.RowKit
attribute [local go_sem] refold2 cell3_0 cell3_1 b28_0 b28_01 b28_012 b28_013 b28_014 b35_01 b35_0 b35 mkI69

theorem set_two (L cs : List Value) (m : Nat) (a b : Value) (h : L.take m = cs) (hl : L.length = m + 2) (hc : cs.length = m) : (L.set m a).set (m + 1) b = cs ++ [a, b] := by
  have e : L = cs ++ L.drop m := by rw [← h, List.take_append_drop]
  have hd : (L.drop m).length = 2 := by rw [List.length_drop]; omega
  match hL : L.drop m, hd with
  | [x, y], _ =>
    rw [hL] at e
    rw [e, List.set_append_right _ _ (by omega), List.set_append_right _ _ (by omega), hc]
    simp

theorem row_lt' {w : World} {n : Nat} {o : Obj} (h : w.heap[n]? = some o) : n < w.heap.size := (Array.getElem?_eq_some_iff.1 h).1

set_option maxRecDepth 100000 in
set_option maxHeartbeats 4000000 in
theorem lent_some (k : Int) (t : ByteArray) (n f : Int) (s : ByteArray) (r0 r1 r2 r3 : Int) (ip : Option Addr) (il ic : Nat) (ad : Addr) (m c : Nat) (cs : List Value) (w : World)
    (hl : cs.length = m) (hcs : ∀ (j : Nat) (u : Value), cs[j]? = some u → w.cell? (ad.add j) = some u) (h1 : ∀ u ∈ cs, u.oneCell' = true) (hadb : ∀ j, (ad.add j).block < w.heap.size) (hm : m ≤ 1048576) (hpos : 0 < m) :
    Calls Tryd.prog 17 #[D k t n f s r0 r1 r2 r3 (.slice (some ad) m c) (.slice ip il ic)] w fun r w' => ∃ g, r = .returned (.tuple #[D k t n f s r0 r1 r2 r3 (.slice (some ⟨g, 0, none⟩) m (m + 2)) (.slice ip il ic), .slice (some ⟨g, 0, none⟩) (m + 2) (m + 2)]) ∧ w'.ownsRow w.heap.size 3 1 (.slice (some ⟨g, 0, none⟩) (m + 2) (m + 2)) (m + 2) (cs ++ [.int .i64 (-71), .int .i64 (-72)]) ∧ Below w.heap.size w w' := by
  obtain ⟨i0, hi, hz0, hz1, hz2⟩ := info_parts info3
  have hinfo : (Tryd.prog.info? 3).map (·.size) = some 1 := by rw [hi]; simp [hz1]
  obtain ⟨M, hM⟩ : ∃ M, M = madeCells (Value.int .i64 0).cells (((m + 2 : Nat) : Int).toNat * i0.size) := ⟨_, rfl⟩
  have hMs : M.size = m + 2 := by rw [hM, size_madeCells, hz1]; simp; omega
  have hmk : ∀ W : World, (Instr.makeSlice 23 (.int .i64 ((m : Int) + 2)) (.int .i64 ((m : Int) + 2))).run Tryd.prog W = .ok (.slice (some ⟨W.heap.size, 0, none⟩) (m + 2) (m + 2)) (W.alloc (.cells M 3)) := fun W => by
    have h := run_make (P := Tryd.prog) W 23 3 i0 (.int .i64 0) Tryd.underlying23 hi hz0 .i64 .i64 ((m + 2 : Nat) : Int) ((m + 2 : Nat) : Int) (by omega) (by omega) (by rw [hz2]; omega) (by omega)
    rw [← hM, show (((m + 2 : Nat) : Int)).toNat = m + 2 by omega, show ((m + 2 : Nat) : Int) = (m : Int) + 2 by omega] at h
    exact h
  clear hM
  simp only [D]
  obtain ⟨W2, hW2⟩ : ∃ W2, W2 = (w.alloc (.cells #[.int .i64 k, .string t, .int .i64 n, .int .u64 f, .string s, .int .i64 r0, .int .i64 r1, .int .i64 r2, .int .i64 r3, .slice (some ad) m c, .slice ip il ic] 28)).alloc (.cells #[.int .i64 0, .string ⟨#[]⟩, .int .i64 0, .int .u64 0, .string ⟨#[]⟩, .int .i64 0, .int .i64 0, .int .i64 0, .int .i64 0, .slice none 0 0, .slice none 0 0] 28) := ⟨_, rfl⟩
  have hB2 : Below w.heap.size w W2 := by rw [hW2]; exact below2 _ _ _
  have hz2' : W2.heap.size = w.heap.size + 1 + 1 := by rw [hW2]; simp
  obtain ⟨W3, hW3⟩ : ∃ W3, W3 = W2.alloc (.cells M 3) := ⟨_, rfl⟩
  have hg3 : W3.heap[w.heap.size + 1 + 1]? = some (.cells M 3 (0, 0)) := by rw [hW3, ← hz2']; exact heap_alloc_new _ _
  have hB3 : Below w.heap.size w W3 := by rw [hW3]; exact hB2.alloc (by omega) _
  have hcp := run_copy_row (P := Tryd.prog) W3 23 23 3 3 (w.heap.size + 1 + 1) 0 (m + 2) (m + 2) ad m c M 3 cs Tryd.underlying23 hinfo hg3 (by rw [hl]; simp) (fun j v hj => by rw [hB3.cell (p := ad.add j) (hadb j)]; exact hcs j v hj) (by omega) h1
  obtain ⟨Y, hY⟩ : ∃ Y, Y = (M.toList.take 0 ++ cs ++ M.toList.drop (0 + cs.length)).toArray := ⟨_, rfl⟩
  rw [← hY] at hcp
  have hYs : Y.size = m + 2 := by rw [hY]; simp; omega
  have hYt : Y.toList.take m = cs := by rw [hY]; simp [← hl]
  obtain ⟨W4, hW4⟩ : ∃ W4, W4 = W3.setRow (w.heap.size + 1 + 1) Y := ⟨_, rfl⟩
  rw [← hW4] at hcp
  have hg4 : W4.heap[w.heap.size + 1 + 1]? = some (.cells Y 3 (0, 0)) := by rw [hW4]; exact setRow_heap _ _ M _ 3 (0, 0) hg3
  have hB4 : Below (w.heap.size + 1 + 1) W2 W4 := by rw [hW4]; exact brow (by rw [hW3]; exact (Below.refl _ _).alloc (by omega) _) (Nat.le_refl _) _
  have ea : ∀ j, W4.cell? ⟨w.heap.size, j, none⟩ = (#[.int .i64 k, .string t, .int .i64 n, .int .u64 f, .string s, .int .i64 r0, .int .i64 r1, .int .i64 r2, .int .i64 r3, .slice (some ad) m c, .slice ip il ic] : Array Value)[j]? := fun j => by
    rw [hB4.cell (p := ⟨w.heap.size, j, none⟩) (by simp; omega), hW2, World.cell?_alloc_lt _ _ _ (by simp), World.cell?_alloc_new]
  have ra : W4.heap[w.heap.size]? = some (.cells #[.int .i64 k, .string t, .int .i64 n, .int .u64 f, .string s, .int .i64 r0, .int .i64 r1, .int .i64 r2, .int .i64 r3, .slice (some ad) m c, .slice ip il ic] 28 (0, 0)) := by
    rw [hB4.block w.heap.size (by omega), hW2, Below.heap_alloc _ _ _ (by simp)]; exact heap_alloc_new _ _
  have af : ∀ j, W4.frozen? ⟨w.heap.size, j, none⟩ = false := fun j => fz _ _ _ _ j ra
  have rr : W4.heap[w.heap.size + 1]? = some (.cells zeros 28 (0, 0)) := by
    rw [hB4.block (w.heap.size + 1) (by omega), hW2]; exact heap2_1 _ _ _
  obtain ⟨⟨c0, c1, c2, c3, c4, c5, c6, c7, c8, c9, c10⟩, hf2⟩ := box_kept rr
  obtain ⟨v1, e1⟩ : ∃ v1, Y[m]? = some v1 := ⟨_, Array.getElem?_eq_getElem (by omega)⟩
  obtain ⟨v2, e2⟩ : ∃ v2, Y[m + 1]? = some v2 := ⟨_, Array.getElem?_eq_getElem (by omega)⟩
  have y1 : W4.cell? ⟨w.heap.size + 1 + 1, m, none⟩ = some v1 := by unfold World.cell?; rw [hg4]; exact e1
  have y2 : W4.cell? ⟨w.heap.size + 1 + 1, m + 1, none⟩ = some v2 := by unfold World.cell?; rw [hg4]; exact e2
  have yf : ∀ j, W4.frozen? ⟨w.heap.size + 1 + 1, j, none⟩ = false := fun j => fz _ _ _ _ j hg4
  have HB : Hid (Below w.heap.size w W4) := hB2.trans (hB4.mono (by omega))
  have HG : Hid _ := hg4
  have HYt : Hid _ := hYt
  have HYs : Hid _ := hYs
  have hz4 : w.heap.size + 1 + 1 < W4.heap.size := row_lt' hg4
  rw [hW3, hW2] at hcp
  clear hW4 hW3 hW2 hB4 hB3 hB2 ra rr hg4 hg3 hY hYt hYs e1 e2 hcs h1 hadb
  have HO : Hid ((W4.setCell ⟨w.heap.size + 1 + 1, m, none⟩ (.int .i64 (-71))).setCell ⟨w.heap.size + 1 + 1, m + 1, none⟩ (.int .i64 (-72)) |>.ownsRow w.heap.size 3 1 (.slice (some ⟨w.heap.size + 1 + 1, 0, none⟩) (m + 2) (m + 2)) (m + 2) (cs ++ [.int .i64 (-71), .int .i64 (-72)])) := by
    have h0 : W4.ownsRow w.heap.size 3 1 (.slice (some ⟨w.heap.size + 1 + 1, 0, none⟩) (m + 2) (m + 2)) (m + 2) Y.toList := ⟨by simp [HYs.out], .inr ⟨_, _, Y, rfl, by omega, HG.out, Nat.le_refl _, by unfold maxLen; omega, by simpa using HYs.out, by rw [List.take_of_length_le (by simp [HYs.out])]⟩⟩
    have h2 := own_set (own_set h0 m (.int .i64 (-71))) (m + 1) (.int .i64 (-72))
    rw [set_two Y.toList cs m _ _ HYt.out (by simp [HYs.out]) hl] at h2
    exact h2
  clear HYt HYs HG
  go_enter Tryd.func17, Tryd.ntmps17
  go_wp2
  refine bodyPost_ret (v := .tuple #[.agg #[.int .i64 k, .string t, .int .i64 n, .int .u64 f, .string s, .int .i64 r0, .int .i64 r1, .int .i64 r2, .int .i64 r3, .slice (some ⟨w.heap.size + 1 + 1, 0, none⟩) m (m + 2), .slice ip il ic], .slice (some ⟨w.heap.size + 1 + 1, 0, none⟩) (m + 2) (m + 2)]) (by simp [results, Tryd.results17, go_sem, c0, c1, c2, c3, c4, c5, c6, c7, c8, c9, c10]) rfl ⟨_, rfl, ?_, ?_⟩
  · have hne : ∀ (b o : Nat), b ≠ w.heap.size + 1 + 1 → (Value.slice (some ⟨w.heap.size + 1 + 1, 0, none⟩) (m + 2) (m + 2)).ownBlock ≠ some (⟨b, o, none⟩ : Addr).block := fun b o hb h => hb (Option.some.inj h).symm
    have q := ownsRow_setCell_other HO.out (hne w.heap.size 9 (by omega)) (.slice (some ⟨w.heap.size + 1 + 1, 0, none⟩) m (m + 2))
    have z := fun o => hne (w.heap.size + 1) o (by omega)
    exact ownsRow_setCell_other (ownsRow_setCell_other (ownsRow_setCell_other (ownsRow_setCell_other (ownsRow_setCell_other (ownsRow_setCell_other (ownsRow_setCell_other (ownsRow_setCell_other (ownsRow_setCell_other (ownsRow_setCell_other (ownsRow_setCell_other q (z 0) _) (z 1) _) (z 2) _) (z 3) _) (z 4) _) (z 5) _) (z 6) _) (z 7) _) (z 8) _) (z 9) _) (z 10) _
  · exact bset (((HB.out.setCell (by show _ ≤ _; simp; omega) _).setCell (by show _ ≤ _; simp; omega) _).setCell (by show _ ≤ _; simp) _) (by omega : w.heap.size ≤ w.heap.size + 1) _ _ _ _ _ _ _ _ _ _ _
end Go.Proofs.YtoplmbboaobahaaDoor
