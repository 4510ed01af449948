/-
  The answer's equal, kind by kind.
-/
import Derived.Test.YtnhbpcmiolkllaaDoorIc2J
import Derived.Test.YtnhbpcmiolkllaaDoorFe2
namespace Go.Proofs.YtnhbpcmiolkllaaDoor
open Go.RowKit
attribute [local go_sem] refold2 cell3_0 cell3_1 b28_0 b28_01

theorem b53_0 (w : World) : (Instr.build 53 #[]).run Tryd.prog w = .ok (.agg #[.string ⟨#[]⟩, .string ⟨#[]⟩]) w := run_build w 53 _ _ (by kernel_rfl)
theorem b53_01 (x y : ByteArray) (w : World) : (Instr.build 53 #[(0, .string x), (1, .string y)]).run Tryd.prog w = .ok (.agg #[.string x, .string y]) w := run_build w 53 _ _ (by kernel_rfl)
set_option maxRecDepth 100000 in
set_option maxHeartbeats 4000000 in
theorem one_any (k k' : Int) (t t' : ByteArray) (a a' f f' r0 r0' r1 r1' r2 r2' r3 r3' : Int) (s s' : ByteArray) (pp pp' ip ip' : Option Addr) (pl pl' pc pc' il il' ic ic' : Nat) (w : World) :
    Calls Tryd.prog 44 #[.agg #[.int .i64 k, .string t, .int .i64 a, .int .u64 f, .string s, .int .i64 r0, .int .i64 r1, .int .i64 r2, .int .i64 r3, .slice pp pl pc, .slice ip il ic], .agg #[.int .i64 k', .string t', .int .i64 a', .int .u64 f', .string s', .int .i64 r0', .int .i64 r1', .int .i64 r2', .int .i64 r3', .slice pp' pl' pc', .slice ip' il' ic']] w fun r w' => r = .returned (.bool (decide (k = k' ∧ t = t'))) ∧ Below w.heap.size w w' := by
  go_enter Tryd.func44, Tryd.ntmps44
  by_cases hk : k = k'
  · subst hk
    by_cases ht : t = t'
    · subst ht
      go_wp2
      go_ret
      exact ⟨by simp, below2 _ _ _⟩
    · go_wp2
      go_ret
      exact ⟨by simp; exact fun e => ht (byteArray_ext e), below2 _ _ _⟩
  · go_wp2
    go_ret
    exact ⟨by simp [hk], below2 _ _ _⟩
theorem three_kept (w : World) (c d : Array Value) (e : Array Value) (W : World) (h : Below (((w.alloc (.cells c 28)).alloc (.cells d 28)).alloc (.cells e 53)).heap.size (((w.alloc (.cells c 28)).alloc (.cells d 28)).alloc (.cells e 53)) W) :
    (∀ j, W.cell? ⟨w.heap.size, j, none⟩ = c[j]?) ∧ (∀ j, W.cell? ⟨w.heap.size + 1, j, none⟩ = d[j]?) ∧ W.heap[w.heap.size + 1 + 1]? = some (.cells e 53 (0, 0)) ∧ w.heap.size + 3 ≤ W.heap.size := by
  have h2 := h.block (w.heap.size + 1 + 1) (by simp)
  refine ⟨fun j => row_at ((h.block w.heap.size (by simp; omega)).trans ((Below.heap_alloc _ _ _ (by simp; omega)).trans ((Below.heap_alloc _ _ _ (by simp)).trans (heap_alloc_new _ _)))) j, fun j => row_at ((h.block (w.heap.size + 1) (by simp)).trans ((Below.heap_alloc _ _ _ (by simp)).trans (heap2_1 _ _ _))) j, h2.trans (heap3_2 _ _ _ _), by have := h.size; simp at this; omega⟩
set_option maxRecDepth 100000 in
set_option maxHeartbeats 4000000 in
theorem refEq_unlike (k k' : Int) (t t' : ByteArray) (a a' f f' r0 r0' r1 r1' r2 r2' r3 r3' : Int) (s s' : ByteArray) (pp pp' ip ip' : Option Addr) (pl pl' pc pc' il il' ic ic' : Nat) (w : World) (hu : ¬ (k = k' ∧ t = t')) :
    Calls Tryd.prog 23 #[.agg #[.int .i64 k, .string t, .int .i64 a, .int .u64 f, .string s, .int .i64 r0, .int .i64 r1, .int .i64 r2, .int .i64 r3, .slice pp pl pc, .slice ip il ic], .agg #[.int .i64 k', .string t', .int .i64 a', .int .u64 f', .string s', .int .i64 r0', .int .i64 r1', .int .i64 r2', .int .i64 r3', .slice pp' pl' pc', .slice ip' il' ic']] w fun r w' => r = .returned (.tuple #[.bool false, .agg #[.string ⟨#[]⟩, .string ⟨#[]⟩]]) ∧ Below w.heap.size w w' := by
  have HO : Hid (∀ W, Calls Tryd.prog 44 #[.agg #[.int .i64 k, .string t, .int .i64 a, .int .u64 f, .string s, .int .i64 r0, .int .i64 r1, .int .i64 r2, .int .i64 r3, .slice pp pl pc, .slice ip il ic], .agg #[.int .i64 k', .string t', .int .i64 a', .int .u64 f', .string s', .int .i64 r0', .int .i64 r1', .int .i64 r2', .int .i64 r3', .slice pp' pl' pc', .slice ip' il' ic']] W fun r w' => r = .returned (.bool false) ∧ Below W.heap.size W w') := fun W => (one_any k k' t t' a a' f f' r0 r0' r1 r1' r2 r2' r3 r3' s s' pp pp' ip ip' pl pl' pc pc' il il' ic ic' W).mono fun _ _ h => ⟨by rw [h.1]; simp; exact fun e1 e2 => hu ⟨e1, e2⟩, h.2⟩
  have hb53 := b53_0
  go_enter Tryd.func23, Tryd.ntmps23
  go_wp2_with fail
  refine (HO.out _).mono ?_
  rintro r w1 ⟨rfl, b1⟩
  obtain ⟨e1, d1, g1, z1⟩ := three_kept _ _ _ _ _ b1
  have gc := row_at g1
  have gf := fun j => fz _ _ _ _ j g1
  have q1 : Below w.heap.size w w1 := (below3 _ _ _ _).trans (b1.mono (by simp; omega))
  go_wp2
  refine bodyPost_ret (v := .tuple #[.bool false, .agg #[.string ⟨#[]⟩, .string ⟨#[]⟩]]) (by simp [results, Tryd.results23, go_sem, gc]) rfl ⟨?_, (q1.setCell (p := ⟨w.heap.size + 1 + 1, 0, none⟩) (by show w.heap.size ≤ w.heap.size + 1 + 1; omega) _).setCell (p := ⟨w.heap.size + 1 + 1, 1, none⟩) (by show w.heap.size ≤ w.heap.size + 1 + 1; omega) _⟩
  rfl
set_option maxRecDepth 100000 in
set_option maxHeartbeats 4000000 in
theorem refEq_0 (t : ByteArray) (a a' f f' r0 r0' r1 r1' r2 r2' r3 r3' : Int) (s s' : ByteArray) (pp pp' ip ip' : Option Addr) (pl pl' pc pc' il il' ic ic' : Nat) (w : World) :
    Calls Tryd.prog 23 #[.agg #[.int .i64 0, .string t, .int .i64 a, .int .u64 f, .string s, .int .i64 r0, .int .i64 r1, .int .i64 r2, .int .i64 r3, .slice pp pl pc, .slice ip il ic], .agg #[.int .i64 0, .string t, .int .i64 a', .int .u64 f', .string s', .int .i64 r0', .int .i64 r1', .int .i64 r2', .int .i64 r3', .slice pp' pl' pc', .slice ip' il' ic']] w fun r w' => r = .returned (.tuple #[.bool (true), .agg #[.string ⟨#[]⟩, .string ⟨#[]⟩]]) ∧ Below w.heap.size w w' := by
  have HO : Hid (∀ W, Calls Tryd.prog 44 #[.agg #[.int .i64 0, .string t, .int .i64 a, .int .u64 f, .string s, .int .i64 r0, .int .i64 r1, .int .i64 r2, .int .i64 r3, .slice pp pl pc, .slice ip il ic], .agg #[.int .i64 0, .string t, .int .i64 a', .int .u64 f', .string s', .int .i64 r0', .int .i64 r1', .int .i64 r2', .int .i64 r3', .slice pp' pl' pc', .slice ip' il' ic']] W fun r w' => r = .returned (.bool true) ∧ Below W.heap.size W w') := fun W => (one_any 0 0 t t a a' f f' r0 r0' r1 r1' r2 r2' r3 r3' s s' pp pp' ip ip' pl pl' pc pc' il il' ic ic' W).mono fun _ _ h => ⟨by rw [h.1]; simp, h.2⟩
  have hb53 := b53_0
  go_enter Tryd.func23, Tryd.ntmps23
  go_wp2_with fail
  refine (HO.out _).mono ?_
  rintro r w1 ⟨rfl, b1⟩
  obtain ⟨e1, d1, g1, z1⟩ := three_kept _ _ _ _ _ b1
  have gc := row_at g1
  have gf := fun j => fz _ _ _ _ j g1
  have q1 : Below w.heap.size w w1 := (below3 _ _ _ _).trans (b1.mono (by simp; omega))
  go_wp2
  refine bodyPost_ret (v := .tuple #[.bool true, .agg #[.string ⟨#[]⟩, .string ⟨#[]⟩]]) (by simp [results, Tryd.results23, go_sem, gc]) rfl ⟨?_, (q1.setCell (p := ⟨w.heap.size + 1 + 1, 0, none⟩) (by show w.heap.size ≤ w.heap.size + 1 + 1; omega) _).setCell (p := ⟨w.heap.size + 1 + 1, 1, none⟩) (by show w.heap.size ≤ w.heap.size + 1 + 1; omega) _⟩
  rfl
set_option maxRecDepth 100000 in
set_option maxHeartbeats 4000000 in
theorem refEq_1 (t : ByteArray) (a a' f f' r0 r0' r1 r1' r2 r2' r3 r3' : Int) (s s' : ByteArray) (pp pp' ip ip' : Option Addr) (pl pl' pc pc' il il' ic ic' : Nat) (w : World) :
    Calls Tryd.prog 23 #[.agg #[.int .i64 1, .string t, .int .i64 a, .int .u64 f, .string s, .int .i64 r0, .int .i64 r1, .int .i64 r2, .int .i64 r3, .slice pp pl pc, .slice ip il ic], .agg #[.int .i64 1, .string t, .int .i64 a', .int .u64 f', .string s', .int .i64 r0', .int .i64 r1', .int .i64 r2', .int .i64 r3', .slice pp' pl' pc', .slice ip' il' ic']] w fun r w' => r = .returned (.tuple #[.bool (decide (a = a')), .agg #[.string ⟨#[]⟩, .string ⟨#[]⟩]]) ∧ Below w.heap.size w w' := by
  have HO : Hid (∀ W, Calls Tryd.prog 44 #[.agg #[.int .i64 1, .string t, .int .i64 a, .int .u64 f, .string s, .int .i64 r0, .int .i64 r1, .int .i64 r2, .int .i64 r3, .slice pp pl pc, .slice ip il ic], .agg #[.int .i64 1, .string t, .int .i64 a', .int .u64 f', .string s', .int .i64 r0', .int .i64 r1', .int .i64 r2', .int .i64 r3', .slice pp' pl' pc', .slice ip' il' ic']] W fun r w' => r = .returned (.bool true) ∧ Below W.heap.size W w') := fun W => (one_any 1 1 t t a a' f f' r0 r0' r1 r1' r2 r2' r3 r3' s s' pp pp' ip ip' pl pl' pc pc' il il' ic ic' W).mono fun _ _ h => ⟨by rw [h.1]; simp, h.2⟩
  have hb53 := b53_0
  go_enter Tryd.func23, Tryd.ntmps23
  go_wp2_with fail
  refine (HO.out _).mono ?_
  rintro r w1 ⟨rfl, b1⟩
  obtain ⟨e1, d1, g1, z1⟩ := three_kept _ _ _ _ _ b1
  have gc := row_at g1
  have gf := fun j => fz _ _ _ _ j g1
  have q1 : Below w.heap.size w w1 := (below3 _ _ _ _).trans (b1.mono (by simp; omega))
  by_cases he : a = a'
  · subst he
    go_wp2
    refine bodyPost_ret (v := .tuple #[.bool true, .agg #[.string ⟨#[]⟩, .string ⟨#[]⟩]]) (by simp [results, Tryd.results23, go_sem, gc]) rfl ⟨?_, (q1.setCell (p := ⟨w.heap.size + 1 + 1, 0, none⟩) (by show w.heap.size ≤ w.heap.size + 1 + 1; omega) _).setCell (p := ⟨w.heap.size + 1 + 1, 1, none⟩) (by show w.heap.size ≤ w.heap.size + 1 + 1; omega) _⟩
    simp
  · go_wp2
    refine bodyPost_ret (v := .tuple #[.bool false, .agg #[.string ⟨#[]⟩, .string ⟨#[]⟩]]) (by simp [results, Tryd.results23, go_sem, gc, he]) rfl ⟨?_, (q1.setCell (p := ⟨w.heap.size + 1 + 1, 0, none⟩) (by show w.heap.size ≤ w.heap.size + 1 + 1; omega) _).setCell (p := ⟨w.heap.size + 1 + 1, 1, none⟩) (by show w.heap.size ≤ w.heap.size + 1 + 1; omega) _⟩
    simp [he]
set_option maxRecDepth 100000 in
set_option maxHeartbeats 4000000 in
theorem refEq_2 (t : ByteArray) (a a' f f' r0 r0' r1 r1' r2 r2' r3 r3' : Int) (s s' : ByteArray) (pp pp' ip ip' : Option Addr) (pl pl' pc pc' il il' ic ic' : Nat) (w : World) :
    Calls Tryd.prog 23 #[.agg #[.int .i64 2, .string t, .int .i64 a, .int .u64 f, .string s, .int .i64 r0, .int .i64 r1, .int .i64 r2, .int .i64 r3, .slice pp pl pc, .slice ip il ic], .agg #[.int .i64 2, .string t, .int .i64 a', .int .u64 f', .string s', .int .i64 r0', .int .i64 r1', .int .i64 r2', .int .i64 r3', .slice pp' pl' pc', .slice ip' il' ic']] w fun r w' => r = .returned (.tuple #[.bool (decide (a = a')), .agg #[.string ⟨#[]⟩, .string ⟨#[]⟩]]) ∧ Below w.heap.size w w' := by
  have HO : Hid (∀ W, Calls Tryd.prog 44 #[.agg #[.int .i64 2, .string t, .int .i64 a, .int .u64 f, .string s, .int .i64 r0, .int .i64 r1, .int .i64 r2, .int .i64 r3, .slice pp pl pc, .slice ip il ic], .agg #[.int .i64 2, .string t, .int .i64 a', .int .u64 f', .string s', .int .i64 r0', .int .i64 r1', .int .i64 r2', .int .i64 r3', .slice pp' pl' pc', .slice ip' il' ic']] W fun r w' => r = .returned (.bool true) ∧ Below W.heap.size W w') := fun W => (one_any 2 2 t t a a' f f' r0 r0' r1 r1' r2 r2' r3 r3' s s' pp pp' ip ip' pl pl' pc pc' il il' ic ic' W).mono fun _ _ h => ⟨by rw [h.1]; simp, h.2⟩
  have hb53 := b53_0
  go_enter Tryd.func23, Tryd.ntmps23
  go_wp2_with fail
  refine (HO.out _).mono ?_
  rintro r w1 ⟨rfl, b1⟩
  obtain ⟨e1, d1, g1, z1⟩ := three_kept _ _ _ _ _ b1
  have gc := row_at g1
  have gf := fun j => fz _ _ _ _ j g1
  have q1 : Below w.heap.size w w1 := (below3 _ _ _ _).trans (b1.mono (by simp; omega))
  by_cases he : a = a'
  · subst he
    go_wp2
    refine bodyPost_ret (v := .tuple #[.bool true, .agg #[.string ⟨#[]⟩, .string ⟨#[]⟩]]) (by simp [results, Tryd.results23, go_sem, gc]) rfl ⟨?_, (q1.setCell (p := ⟨w.heap.size + 1 + 1, 0, none⟩) (by show w.heap.size ≤ w.heap.size + 1 + 1; omega) _).setCell (p := ⟨w.heap.size + 1 + 1, 1, none⟩) (by show w.heap.size ≤ w.heap.size + 1 + 1; omega) _⟩
    simp
  · go_wp2
    refine bodyPost_ret (v := .tuple #[.bool false, .agg #[.string ⟨#[]⟩, .string ⟨#[]⟩]]) (by simp [results, Tryd.results23, go_sem, gc, he]) rfl ⟨?_, (q1.setCell (p := ⟨w.heap.size + 1 + 1, 0, none⟩) (by show w.heap.size ≤ w.heap.size + 1 + 1; omega) _).setCell (p := ⟨w.heap.size + 1 + 1, 1, none⟩) (by show w.heap.size ≤ w.heap.size + 1 + 1; omega) _⟩
    simp [he]
set_option maxRecDepth 100000 in
set_option maxHeartbeats 4000000 in
theorem refEq_4 (t : ByteArray) (a a' f f' r0 r0' r1 r1' r2 r2' r3 r3' : Int) (s s' : ByteArray) (pp pp' ip ip' : Option Addr) (pl pl' pc pc' il il' ic ic' : Nat) (w : World) :
    Calls Tryd.prog 23 #[.agg #[.int .i64 4, .string t, .int .i64 a, .int .u64 f, .string s, .int .i64 r0, .int .i64 r1, .int .i64 r2, .int .i64 r3, .slice pp pl pc, .slice ip il ic], .agg #[.int .i64 4, .string t, .int .i64 a', .int .u64 f', .string s', .int .i64 r0', .int .i64 r1', .int .i64 r2', .int .i64 r3', .slice pp' pl' pc', .slice ip' il' ic']] w fun r w' => r = .returned (.tuple #[.bool (decide (s = s')), .agg #[.string ⟨#[]⟩, .string ⟨#[]⟩]]) ∧ Below w.heap.size w w' := by
  have HO : Hid (∀ W, Calls Tryd.prog 44 #[.agg #[.int .i64 4, .string t, .int .i64 a, .int .u64 f, .string s, .int .i64 r0, .int .i64 r1, .int .i64 r2, .int .i64 r3, .slice pp pl pc, .slice ip il ic], .agg #[.int .i64 4, .string t, .int .i64 a', .int .u64 f', .string s', .int .i64 r0', .int .i64 r1', .int .i64 r2', .int .i64 r3', .slice pp' pl' pc', .slice ip' il' ic']] W fun r w' => r = .returned (.bool true) ∧ Below W.heap.size W w') := fun W => (one_any 4 4 t t a a' f f' r0 r0' r1 r1' r2 r2' r3 r3' s s' pp pp' ip ip' pl pl' pc pc' il il' ic ic' W).mono fun _ _ h => ⟨by rw [h.1]; simp, h.2⟩
  have hb53 := b53_0
  go_enter Tryd.func23, Tryd.ntmps23
  go_wp2_with fail
  refine (HO.out _).mono ?_
  rintro r w1 ⟨rfl, b1⟩
  obtain ⟨e1, d1, g1, z1⟩ := three_kept _ _ _ _ _ b1
  have gc := row_at g1
  have gf := fun j => fz _ _ _ _ j g1
  have q1 : Below w.heap.size w w1 := (below3 _ _ _ _).trans (b1.mono (by simp; omega))
  by_cases he : s = s'
  · subst he
    go_wp2
    refine bodyPost_ret (v := .tuple #[.bool true, .agg #[.string ⟨#[]⟩, .string ⟨#[]⟩]]) (by simp [results, Tryd.results23, go_sem, gc]) rfl ⟨?_, (q1.setCell (p := ⟨w.heap.size + 1 + 1, 0, none⟩) (by show w.heap.size ≤ w.heap.size + 1 + 1; omega) _).setCell (p := ⟨w.heap.size + 1 + 1, 1, none⟩) (by show w.heap.size ≤ w.heap.size + 1 + 1; omega) _⟩
    simp
  · have hl : ¬ s.toList = s'.toList := fun e => he (byteArray_ext e)
    go_wp2
    refine bodyPost_ret (v := .tuple #[.bool false, .agg #[.string ⟨#[]⟩, .string ⟨#[]⟩]]) (by simp [results, Tryd.results23, go_sem, gc, hl]) rfl ⟨?_, (q1.setCell (p := ⟨w.heap.size + 1 + 1, 0, none⟩) (by show w.heap.size ≤ w.heap.size + 1 + 1; omega) _).setCell (p := ⟨w.heap.size + 1 + 1, 1, none⟩) (by show w.heap.size ≤ w.heap.size + 1 + 1; omega) _⟩
    simp [he]
set_option maxRecDepth 100000 in
set_option maxHeartbeats 4000000 in
theorem refEq_5 (t : ByteArray) (a a' f f' r0 r0' r1 r1' r2 r2' r3 r3' : Int) (s s' : ByteArray) (pp pp' ip ip' : Option Addr) (pl pl' pc pc' il il' ic ic' : Nat) (w : World) :
    Calls Tryd.prog 23 #[.agg #[.int .i64 5, .string t, .int .i64 a, .int .u64 f, .string s, .int .i64 r0, .int .i64 r1, .int .i64 r2, .int .i64 r3, .slice pp pl pc, .slice ip il ic], .agg #[.int .i64 5, .string t, .int .i64 a', .int .u64 f', .string s', .int .i64 r0', .int .i64 r1', .int .i64 r2', .int .i64 r3', .slice pp' pl' pc', .slice ip' il' ic']] w fun r w' => r = .returned (.tuple #[.bool (false), .agg #[.string ⟨#[99, 111, 109, 112, 97, 114, 101]⟩, .string t]]) ∧ Below w.heap.size w w' := by
  have HO : Hid (∀ W, Calls Tryd.prog 44 #[.agg #[.int .i64 5, .string t, .int .i64 a, .int .u64 f, .string s, .int .i64 r0, .int .i64 r1, .int .i64 r2, .int .i64 r3, .slice pp pl pc, .slice ip il ic], .agg #[.int .i64 5, .string t, .int .i64 a', .int .u64 f', .string s', .int .i64 r0', .int .i64 r1', .int .i64 r2', .int .i64 r3', .slice pp' pl' pc', .slice ip' il' ic']] W fun r w' => r = .returned (.bool true) ∧ Below W.heap.size W w') := fun W => (one_any 5 5 t t a a' f f' r0 r0' r1 r1' r2 r2' r3 r3' s s' pp pp' ip ip' pl pl' pc pc' il il' ic ic' W).mono fun _ _ h => ⟨by rw [h.1]; simp, h.2⟩
  have hb53 := b53_01
  go_enter Tryd.func23, Tryd.ntmps23
  go_wp2_with fail
  refine (HO.out _).mono ?_
  rintro r w1 ⟨rfl, b1⟩
  obtain ⟨e1, d1, g1, z1⟩ := three_kept _ _ _ _ _ b1
  have gc := row_at g1
  have gf := fun j => fz _ _ _ _ j g1
  have q1 : Below w.heap.size w w1 := (below3 _ _ _ _).trans (b1.mono (by simp; omega))
  go_wp2
  go_region
  go_wp2
  refine bodyPost_ret (v := .tuple #[.bool false, .agg #[.string ⟨#[99, 111, 109, 112, 97, 114, 101]⟩, .string t]]) (by simp [results, Tryd.results23, go_sem, gc]) rfl ⟨?_, (q1.drew.setCell (p := ⟨w.heap.size + 1 + 1, 0, none⟩) (by show w.heap.size ≤ w.heap.size + 1 + 1; omega) _).setCell (p := ⟨w.heap.size + 1 + 1, 1, none⟩) (by show w.heap.size ≤ w.heap.size + 1 + 1; omega) _⟩
  rfl
set_option maxRecDepth 100000 in
set_option maxHeartbeats 4000000 in
theorem refEq_6 (t : ByteArray) (a a' f f' r0 r0' r1 r1' r2 r2' r3 r3' : Int) (s s' : ByteArray) (pp pp' ip ip' : Option Addr) (pl pl' pc pc' il il' ic ic' : Nat) (w : World) :
    Calls Tryd.prog 23 #[.agg #[.int .i64 6, .string t, .int .i64 a, .int .u64 f, .string s, .int .i64 r0, .int .i64 r1, .int .i64 r2, .int .i64 r3, .slice pp pl pc, .slice ip il ic], .agg #[.int .i64 6, .string t, .int .i64 a', .int .u64 f', .string s', .int .i64 r0', .int .i64 r1', .int .i64 r2', .int .i64 r3', .slice pp' pl' pc', .slice ip' il' ic']] w fun r w' => r = .returned (.tuple #[.bool (false), .agg #[.string ⟨#[99, 111, 109, 112, 97, 114, 101]⟩, .string t]]) ∧ Below w.heap.size w w' := by
  have HO : Hid (∀ W, Calls Tryd.prog 44 #[.agg #[.int .i64 6, .string t, .int .i64 a, .int .u64 f, .string s, .int .i64 r0, .int .i64 r1, .int .i64 r2, .int .i64 r3, .slice pp pl pc, .slice ip il ic], .agg #[.int .i64 6, .string t, .int .i64 a', .int .u64 f', .string s', .int .i64 r0', .int .i64 r1', .int .i64 r2', .int .i64 r3', .slice pp' pl' pc', .slice ip' il' ic']] W fun r w' => r = .returned (.bool true) ∧ Below W.heap.size W w') := fun W => (one_any 6 6 t t a a' f f' r0 r0' r1 r1' r2 r2' r3 r3' s s' pp pp' ip ip' pl pl' pc pc' il il' ic ic' W).mono fun _ _ h => ⟨by rw [h.1]; simp, h.2⟩
  have hb53 := b53_01
  go_enter Tryd.func23, Tryd.ntmps23
  go_wp2_with fail
  refine (HO.out _).mono ?_
  rintro r w1 ⟨rfl, b1⟩
  obtain ⟨e1, d1, g1, z1⟩ := three_kept _ _ _ _ _ b1
  have gc := row_at g1
  have gf := fun j => fz _ _ _ _ j g1
  have q1 : Below w.heap.size w w1 := (below3 _ _ _ _).trans (b1.mono (by simp; omega))
  go_wp2
  go_region
  go_wp2
  refine bodyPost_ret (v := .tuple #[.bool false, .agg #[.string ⟨#[99, 111, 109, 112, 97, 114, 101]⟩, .string t]]) (by simp [results, Tryd.results23, go_sem, gc]) rfl ⟨?_, (q1.drew.setCell (p := ⟨w.heap.size + 1 + 1, 0, none⟩) (by show w.heap.size ≤ w.heap.size + 1 + 1; omega) _).setCell (p := ⟨w.heap.size + 1 + 1, 1, none⟩) (by show w.heap.size ≤ w.heap.size + 1 + 1; omega) _⟩
  rfl
set_option maxRecDepth 100000 in
set_option maxHeartbeats 4000000 in
theorem refEq_7 (t : ByteArray) (a a' f f' r0 r0' r1 r1' r2 r2' r3 r3' : Int) (s s' : ByteArray) (pp pp' ip ip' : Option Addr) (pl pl' pc pc' il il' ic ic' : Nat) (w : World) :
    Calls Tryd.prog 23 #[.agg #[.int .i64 7, .string t, .int .i64 a, .int .u64 f, .string s, .int .i64 r0, .int .i64 r1, .int .i64 r2, .int .i64 r3, .slice pp pl pc, .slice ip il ic], .agg #[.int .i64 7, .string t, .int .i64 a', .int .u64 f', .string s', .int .i64 r0', .int .i64 r1', .int .i64 r2', .int .i64 r3', .slice pp' pl' pc', .slice ip' il' ic']] w fun r w' => r = .returned (.tuple #[.bool (false), .agg #[.string ⟨#[99, 111, 109, 112, 97, 114, 101]⟩, .string t]]) ∧ Below w.heap.size w w' := by
  have HO : Hid (∀ W, Calls Tryd.prog 44 #[.agg #[.int .i64 7, .string t, .int .i64 a, .int .u64 f, .string s, .int .i64 r0, .int .i64 r1, .int .i64 r2, .int .i64 r3, .slice pp pl pc, .slice ip il ic], .agg #[.int .i64 7, .string t, .int .i64 a', .int .u64 f', .string s', .int .i64 r0', .int .i64 r1', .int .i64 r2', .int .i64 r3', .slice pp' pl' pc', .slice ip' il' ic']] W fun r w' => r = .returned (.bool true) ∧ Below W.heap.size W w') := fun W => (one_any 7 7 t t a a' f f' r0 r0' r1 r1' r2 r2' r3 r3' s s' pp pp' ip ip' pl pl' pc pc' il il' ic ic' W).mono fun _ _ h => ⟨by rw [h.1]; simp, h.2⟩
  have hb53 := b53_01
  go_enter Tryd.func23, Tryd.ntmps23
  go_wp2_with fail
  refine (HO.out _).mono ?_
  rintro r w1 ⟨rfl, b1⟩
  obtain ⟨e1, d1, g1, z1⟩ := three_kept _ _ _ _ _ b1
  have gc := row_at g1
  have gf := fun j => fz _ _ _ _ j g1
  have q1 : Below w.heap.size w w1 := (below3 _ _ _ _).trans (b1.mono (by simp; omega))
  go_wp2
  go_region
  go_wp2
  refine bodyPost_ret (v := .tuple #[.bool false, .agg #[.string ⟨#[99, 111, 109, 112, 97, 114, 101]⟩, .string t]]) (by simp [results, Tryd.results23, go_sem, gc]) rfl ⟨?_, (q1.drew.setCell (p := ⟨w.heap.size + 1 + 1, 0, none⟩) (by show w.heap.size ≤ w.heap.size + 1 + 1; omega) _).setCell (p := ⟨w.heap.size + 1 + 1, 1, none⟩) (by show w.heap.size ≤ w.heap.size + 1 + 1; omega) _⟩
  rfl
end Go.Proofs.YtnhbpcmiolkllaaDoor
