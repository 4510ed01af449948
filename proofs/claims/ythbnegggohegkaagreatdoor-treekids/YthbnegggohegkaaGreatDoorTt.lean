/-
  The walk of told, at a Wrong.
-/
import Derived.Test.YthbnegggohegkaaGreatDoorTi
namespace Go.Proofs.YthbnegggohegkaaGreatDoor
open Go.RowKit

theorem asW_cell (e t : Addr) (w : World) (h : (w.cell? t).isSome) (hl : t.block < w.heap.size) : (asW e t w).cell? t = some (.pointer (some e)) := by
  have hb := (((below2 w (.cells #[.pointer (some t)] 69) (.cells #[hnd 69, .pointer (some ⟨w.heap.size, 0, none⟩), .int .u64 150] 102)).alloc (by simp; omega) (.cells #[hnd 69, .pointer (some ⟨w.heap.size, 0, none⟩), .int .u64 150] 102)).alloc (by simp; omega) (.cells #[.pointer (some e)] 67)).cell hl
  exact World.cell?_setCell_same' _ _ _ (by rw [hb]; exact h)

set_option maxRecDepth 100000 in
set_option maxHeartbeats 2000000 in
theorem told_any (B : Nat) (code a : Int) (hc : (code == 0) = false) (s : ByteArray) (w : World) (hw : w.heap[B]? = some (.cells #[.int .i64 code, .int .i64 a, .string s] 28 (0, 0))) (hg : w.cell? ⟨0, 0, none⟩ = some (.iface 129 (.agg #[hnd 33]))) (h0 : 0 < w.heap.size) :
    Calls Tryz.prog 25 #[.iface 67 (.pointer (some ⟨B, 0, none⟩))] w fun e w' => e = .returned (.tuple #[.agg #[.int .i64 code, .int .i64 a, .string s], .bool true]) ∧ Below w.heap.size w w' := by
  have hlt := (Array.getElem?_eq_some_iff.1 hw).1
  go_enter Tryz.func25, Tryz.ntmps25
  go_wp2_with fail
  have hb2 : Below w.heap.size w ((w.alloc (.cells #[.int .i64 0, .int .i64 0, .string ⟨#[]⟩] 28)).alloc (.cells #[.pointer none] 67)) := below2 w _ _
  refine (as_any ⟨B, 0, none⟩ ⟨w.heap.size + 1, 0, none⟩ (.pointer none) _ ((hb2.cell (p := ⟨0, 0, none⟩) h0).trans hg) (by simp) (by simp) (by simp) (by simp)).mono ?_
  rintro e w3 ⟨rfl, hw3⟩
  have hb3 : Below (w.heap.size + 1) ((w.alloc (.cells #[.int .i64 0, .int .i64 0, .string ⟨#[]⟩] 28)).alloc (.cells #[.pointer none] 67)) w3 := hw3 ▸ asW_below _ _ _ _ (by simp) (by simp)
  have hB3 : Below w.heap.size w w3 := hb2.trans (hb3.mono (by omega))
  have hz3 := hb3.size
  simp only [World.size_alloc] at hz3
  have q1 : w3.cell? ⟨w.heap.size + 1, 0, none⟩ = some (.pointer (some ⟨B, 0, none⟩)) := by
    rw [hw3]; exact asW_cell _ _ _ (by simp) (by simp)
  have r0 : ∀ i, w3.cell? ⟨B, i, none⟩ = #[Value.int .i64 code, .int .i64 a, .string s][i]? := fun i => (hB3.cell (p := ⟨B, i, none⟩) hlt).trans (cell_row hw i)
  have hwB : w3.heap[B]? = some (.cells #[.int .i64 code, .int .i64 a, .string s] 28 (0, 0)) := (hB3.block B hlt).trans hw
  have c0 : w3.cell? ⟨B, 0, none⟩ = some (.int .i64 code) := r0 0
  have c1 : w3.cell? ⟨B, 1, none⟩ = some (.int .i64 a) := r0 1
  have c2 : w3.cell? ⟨B, 2, none⟩ = some (.string s) := r0 2
  have hrow : w3.heap[w.heap.size]? = some (.cells #[.int .i64 0, .int .i64 0, .string ⟨#[]⟩] 28 (0, 0)) :=
    (hb3.block w.heap.size (by omega)).trans ((Below.heap_alloc _ _ _ (by simp)).trans (heap_alloc_new w _))
  have s0 := cell_row hrow 0
  have s1 := cell_row hrow 1
  have s2 := cell_row hrow 2
  have f0 : ∀ i, w3.frozen? ⟨w.heap.size, i, none⟩ = false := fun i => by simp [World.frozen?, hrow]
  have g0 := f0 0
  have g1 := f0 1
  have g2 := f0 2
  simp only [List.getElem?_toArray, List.getElem?_cons_zero, List.getElem?_cons_succ] at s0 s1 s2
  have HI := is_any B code a s w3 hwB
  have HR : Hid (w3.heap[w.heap.size]? = some (.cells #[.int .i64 0, .int .i64 0, .string ⟨#[]⟩] 28 (0, 0)) ∧ Below w.heap.size w w3) := ⟨hrow, hB3⟩
  clear hw3 r0 f0 hrow hwB hb3 hB3 hb2
  go_wp2_with fail
  refine HI.mono ?_
  rintro e w4 ⟨rfl, rfl⟩
  clear HI
  go_wp2_with fail
  have hE : ∀ k i, k ≠ w.heap.size → (((w4.setCell ⟨w.heap.size, 0, none⟩ (.int .i64 code)).setCell ⟨w.heap.size, 1, none⟩ (.int .i64 a)).setCell ⟨w.heap.size, 2, none⟩ (.string s)).cell? ⟨k, i, none⟩ = w4.cell? ⟨k, i, none⟩ := fun k i hk => by
    rw [World.cell?_setCell_far _ _ _ _ (Ne.symm hk), World.cell?_setCell_far _ _ _ _ (Ne.symm hk), World.cell?_setCell_far _ _ _ _ (Ne.symm hk)]
  have HS8 : Hid ((((w4.setCell ⟨w.heap.size, 0, none⟩ (.int .i64 code)).setCell ⟨w.heap.size, 1, none⟩ (.int .i64 a)).setCell ⟨w.heap.size, 2, none⟩ (.string s)).cell? ⟨w.heap.size + 1, 0, none⟩ = some (.pointer (some ⟨B, 0, none⟩)) ∧ (((w4.setCell ⟨w.heap.size, 0, none⟩ (.int .i64 code)).setCell ⟨w.heap.size, 1, none⟩ (.int .i64 a)).setCell ⟨w.heap.size, 2, none⟩ (.string s)).cell? ⟨B, 0, none⟩ = some (.int .i64 code) ∧ (((w4.setCell ⟨w.heap.size, 0, none⟩ (.int .i64 code)).setCell ⟨w.heap.size, 1, none⟩ (.int .i64 a)).setCell ⟨w.heap.size, 2, none⟩ (.string s)).cell? ⟨B, 1, none⟩ = some (.int .i64 a) ∧ (((w4.setCell ⟨w.heap.size, 0, none⟩ (.int .i64 code)).setCell ⟨w.heap.size, 1, none⟩ (.int .i64 a)).setCell ⟨w.heap.size, 2, none⟩ (.string s)).cell? ⟨B, 2, none⟩ = some (.string s)) :=
    ⟨(hE _ _ (by omega)).trans q1, (hE _ _ (by omega)).trans c0, (hE _ _ (by omega)).trans c1, (hE _ _ (by omega)).trans c2⟩
  clear hE
  go_region_held3 (fun W => W.cell? ⟨w.heap.size + 1, 0, none⟩ = some (.pointer (some ⟨B, 0, none⟩)) ∧ W.cell? ⟨B, 0, none⟩ = some (.int .i64 code) ∧ W.cell? ⟨B, 1, none⟩ = some (.int .i64 a) ∧ W.cell? ⟨B, 2, none⟩ = some (.string s))
    (first | exact HS8.out | (simp [q1, c0, c1, c2]; done)) (fail)
  have hrow8 : (((w4.setCell ⟨w.heap.size, 0, none⟩ (.int .i64 code)).setCell ⟨w.heap.size, 1, none⟩ (.int .i64 a)).setCell ⟨w.heap.size, 2, none⟩ (.string s)).drew.heap[w.heap.size]? = some (.cells #[.int .i64 code, .int .i64 a, .string s] 28 (0, 0)) := heap_set (heap_set (heap_set HR.out.1 0 _) 1 _) 2 _
  have hB8 : Below w.heap.size w (((w4.setCell ⟨w.heap.size, 0, none⟩ (.int .i64 code)).setCell ⟨w.heap.size, 1, none⟩ (.int .i64 a)).setCell ⟨w.heap.size, 2, none⟩ (.string s)).drew :=
    HR.out.2.trans (((((Below.refl _ w4).setCell (p := ⟨w.heap.size, 0, none⟩) (Nat.le_refl _) _).setCell (p := ⟨w.heap.size, 1, none⟩) (Nat.le_refl _) _).setCell (p := ⟨w.heap.size, 2, none⟩) (Nat.le_refl _) _).drew)
  generalize (((w4.setCell ⟨w.heap.size, 0, none⟩ (.int .i64 code)).setCell ⟨w.heap.size, 1, none⟩ (.int .i64 a)).setCell ⟨w.heap.size, 2, none⟩ (.string s)).drew = w9 at hrow8 hB8 ⊢
  have r0 : w9.cell? ⟨w.heap.size, 0, none⟩ = some (.int .i64 code) := cell_row hrow8 0
  have r1 : w9.cell? ⟨w.heap.size, 1, none⟩ = some (.int .i64 a) := cell_row hrow8 1
  have r2 : w9.cell? ⟨w.heap.size, 2, none⟩ = some (.string s) := cell_row hrow8 2
  have hne : (code != 0) = true := by simp [bne, hc]
  rw [hne]
  go_wp2_with fail
  refine bodyPost_ret (v := .tuple #[.agg #[.int .i64 code, .int .i64 a, .string s], .bool true]) (by simp [results, Tryz.results25, go_sem, r0, r1, r2]) rfl ⟨rfl, hB8⟩
end Go.Proofs.YthbnegggohegkaaGreatDoor
