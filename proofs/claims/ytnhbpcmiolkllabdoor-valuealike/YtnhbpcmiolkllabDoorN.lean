/-
  Equal of lists, Key of funcs.
-/
import Derived.Test.YtnhbpcmiolkllabDoorJJ
import Derived.Test.YtnhbpcmiolkllabDoorM
namespace Go.Proofs.YtnhbpcmiolkllabDoor
open Go.RowKit
attribute [local go_sem] refold2 cell3_0 cell3_1 b28_0 b28_01

theorem one_kept (w : World) (c : Array Value) (W : World) (h : Below (w.alloc (.cells c 32)).heap.size (w.alloc (.cells c 32)) W) : ∀ j, W.cell? ⟨w.heap.size, j, none⟩ = c[j]? := fun j =>
  row_at ((h.block w.heap.size (by simp)).trans (heap_alloc_new _ _)) j
theorem two_kept (w : World) (c d : Array Value) (W : World) (h : Below ((w.alloc (.cells c 32)).alloc (.cells d 32)).heap.size ((w.alloc (.cells c 32)).alloc (.cells d 32)) W) :
    (∀ j, W.cell? ⟨w.heap.size, j, none⟩ = c[j]?) ∧ (∀ j, W.cell? ⟨w.heap.size + 1, j, none⟩ = d[j]?) :=
  ⟨fun j => row_at ((h.block w.heap.size (by simp; omega)).trans ((Below.heap_alloc _ _ _ (by simp)).trans (heap_alloc_new _ _))) j, fun j => row_at ((h.block (w.heap.size + 1) (by simp)).trans (heap2_1 _ _ _)) j⟩
theorem ne_empty {t : ByteArray} (h : t.size ≠ 0) : t.toList.isEmpty = false := by
  rw [Lib.toList_data]
  cases e : t.data.toList with
  | nil => exact absurd (by rw [Lib.size_eq, e]; rfl) h
  | cons a l => rfl

set_option maxRecDepth 100000 in
set_option maxHeartbeats 2000000 in
theorem incomparable_func (t : ByteArray) (w : World) (ht : t.size ≤ 140737488351232) :
    Calls Tryd.prog 26 #[dat 7 t 0 0 ⟨#[]⟩] w fun r w' => r = .returned (.string t) ∧ Below w.heap.size w w' := by
  have HE : Hid (∀ W, Calls Tryd.prog 24 #[dat 7 t 0 0 ⟨#[]⟩, dat 7 t 0 0 ⟨#[]⟩] W fun r w' => r = .returned (.tuple #[.bool false, .string t]) ∧ Below W.heap.size W w') := fun W => equal_func t W ht
  clear ht
  simp only [dat, D] at HE ⊢
  go_enter Tryd.func26, Tryd.ntmps26
  go_wp2_with (go_at_call 24; refine (HE.out _).mono ?_; rintro r w' ⟨rfl, hb⟩)
  go_ret
  exact ⟨rfl, (below1 _ _).trans (hb.mono (by simp))⟩

set_option maxRecDepth 100000 in
set_option maxHeartbeats 2000000 in
theorem Key_func (t : ByteArray) (w : World) (hN : NamesAt w) (ht : t.size ≤ 140737488351232) (h0 : t.size ≠ 0) (h1 : (t.toList == [102, 117, 110, 99] || declB t) = true) :
    Calls Tryd.prog 11 #[dat 7 t 0 0 ⟨#[]⟩] w fun r w' => ∃ n, r = .returned (.iface 97 (.pointer (some ⟨n, 0, none⟩))) ∧ w.heap.size ≤ n ∧ w'.heap[n]? = some (.cells #[.string ⟨#[107, 101, 121]⟩, .string t] 64 (0, 0)) ∧ Below w.heap.size w w' := by
  have HR : Hid (∀ W, NamesAt W → Calls Tryd.prog 8 #[dat 7 t 0 0 ⟨#[]⟩] W fun r w' => r = .returned (.bool true) ∧ Below W.heap.size W w') := fun W h => by rw [← h1]; exact Right_func t W h
  have HI : Hid (∀ W, Calls Tryd.prog 26 #[dat 7 t 0 0 ⟨#[]⟩] W fun r w' => r = .returned (.string t) ∧ Below W.heap.size W w') := fun W => incomparable_func t W ht
  have he := ne_empty h0
  clear ht h1 h0
  simp only [dat, D] at HR HI ⊢
  go_enter Tryd.func11, Tryd.ntmps11
  go_wp2_with fail
  refine (HR.out _ (hN.kept (below1 _ _))).mono ?_
  rintro r w1 ⟨rfl, b1⟩
  have e1 := one_kept _ _ _ b1
  have q1 : Below w.heap.size w w1 := (below1 _ _).trans (b1.mono (by simp))
  go_wp2_with fail
  refine (HI.out _).mono ?_
  rintro r w2 ⟨rfl, b2⟩
  have q2 := q1.trans (b2.mono q1.size)
  clear e1
  go_wp2_with (go_at_call 25; refine (fault_any _ _ _).mono ?_; rintro r w3 ⟨rfl, rfl⟩)
  go_ret
  exact ⟨_, rfl, q2.size, heap_alloc_new _ _, q2.alloc q2.size _⟩

set_option maxRecDepth 100000 in
set_option maxHeartbeats 2000000 in
theorem Equal_list (t : ByteArray) (w : World) (hN : NamesAt w) (ht : t.size ≤ 140737488351232) (h0 : t.size ≠ 0) (h1 : (t.toList == [108, 105, 115, 116] || declB t) = true) :
    Calls Tryd.prog 10 #[dat 5 t 0 0 ⟨#[]⟩, dat 5 t 0 0 ⟨#[]⟩] w fun r w' => ∃ n, r = .returned (.tuple #[.bool false, .iface 97 (.pointer (some ⟨n, 0, none⟩))]) ∧ w.heap.size ≤ n ∧ w'.heap[n]? = some (.cells #[.string ⟨#[99, 111, 109, 112, 97, 114, 101]⟩, .string t] 64 (0, 0)) ∧ Below w.heap.size w w' := by
  have HR : Hid (∀ W, NamesAt W → Calls Tryd.prog 8 #[dat 5 t 0 0 ⟨#[]⟩] W fun r w' => r = .returned (.bool true) ∧ Below W.heap.size W w') := fun W h => by rw [← h1]; exact Right_list t W h
  have HE : Hid (∀ W, Calls Tryd.prog 24 #[dat 5 t 0 0 ⟨#[]⟩, dat 5 t 0 0 ⟨#[]⟩] W fun r w' => r = .returned (.tuple #[.bool false, .string t]) ∧ Below W.heap.size W w') := fun W => equal_list t W ht
  have he := ne_empty h0
  clear ht h1 h0
  simp only [dat, D] at HR HE ⊢
  go_enter Tryd.func10, Tryd.ntmps10
  go_wp2_with fail
  refine (HR.out _ (hN.kept (below2 _ _ _))).mono ?_
  rintro r w1 ⟨rfl, b1⟩
  obtain ⟨e1, d1⟩ := two_kept _ _ _ _ b1
  have q1 : Below w.heap.size w w1 := (below2 _ _ _).trans (b1.mono (by simp; omega))
  go_wp2_with fail
  refine (HR.out _ (hN.kept q1)).mono ?_
  rintro r w2 ⟨rfl, b2⟩
  have c2 := b1.trans (b2.mono b1.size)
  obtain ⟨e2, d2⟩ := two_kept _ _ _ _ c2
  have q2 := q1.trans (b2.mono q1.size)
  clear e1 d1
  go_wp2_with fail
  refine (HE.out _).mono ?_
  rintro r w3 ⟨rfl, b3⟩
  have q3 := q2.trans (b3.mono q2.size)
  clear e2 d2
  go_wp2_with (go_at_call 25; refine (fault_any _ _ _).mono ?_; rintro r w4 ⟨rfl, rfl⟩)
  refine bodyPost_ret (v := .tuple #[.bool false, .iface 97 (.pointer (some ⟨w3.heap.size, 0, none⟩))]) (by simp [results, Tryd.results10, go_sem]) rfl ⟨_, rfl, q3.size, heap_alloc_new _ _, q3.alloc q3.size _⟩

end Go.Proofs.YtnhbpcmiolkllabDoor
