/-
  Equal, at any two data.
  Key, at any datum.
-/
import Derived.Test.YtnhbpcmiolkllabDoorEb2
import Derived.Test.YtnhbpcmiolkllabDoorVa
import Derived.Test.YtnhbpcmiolkllabDoorXJ
namespace Go.Proofs.YtnhbpcmiolkllabDoor
open Go.RowKit
attribute [local go_sem] refold2 cell3_0 cell3_1 b28_0 b28_01
theorem right_full {n : Nat} {d : MD} (h : MD.right n d = true) : MD.full n d = true := by
  unfold MD.right at h
  rw [Bool.and_eq_true] at h
  first | exact h.1 | exact h.2
set_option maxRecDepth 100000 in
set_option maxHeartbeats 2000000 in
theorem Equal_good (n : Nat) (x y : MD) (w : World) (hN : NamesAt w) (hx : MD.In w.heap.size w n x) (hy : MD.In w.heap.size w n y) (h : MD.right n x = true) (h' : MD.right n y = true) (hc : (MD.eqv n x y).2 = ⟨#[]⟩) : Calls Tryd.prog 10 #[x.val, y.val] w fun r w' => r = .returned (.tuple #[.bool (MD.eqv n x y).1, .nilIface]) ∧ Below w.heap.size w w' := by
  have HX : Hid (∀ W, Below w.heap.size w W → Calls Tryd.prog 8 #[x.val] W fun r w' => r = .returned (.bool (MD.right n x)) ∧ Below W.heap.size W w') := fun W hW => Right_any n x W (hN.kept hW) (hx.later (Nat.le_refl _) hW)
  have HY : Hid (∀ W, Below w.heap.size w W → Calls Tryd.prog 8 #[y.val] W fun r w' => r = .returned (.bool (MD.right n y)) ∧ Below W.heap.size W w') := fun W hW => Right_any n y W (hN.kept hW) (hy.later (Nat.le_refl _) hW)
  have HE : Hid (∀ W, Below w.heap.size w W → Calls Tryd.prog 24 #[x.val, y.val] W fun r w' => r = .returned (.tuple #[.bool (MD.eqv n x y).1, .string (MD.eqv n x y).2]) ∧ Below W.heap.size W w') := fun W hW => eqv_any n x y W (hx.later (Nat.le_refl _) hW) (hy.later (Nat.le_refl _) hW) (right_full h) (right_full h')
  rw [h] at HX
  rw [h'] at HY
  clear hx hy h h'
  rw [hc] at HE
  clear hc
  generalize (MD.eqv n x y).1 = q at HE ⊢
  obtain ⟨⟨k, t, a, f, s, r0, r1, r2, r3, pp, path, pc⟩, ip, ic, items⟩ := x
  obtain ⟨⟨k', t', a', f', s', r0', r1', r2', r3', pp', path', pc'⟩, ip', ic', items'⟩ := y
  simp only [MD.val, D] at *
  go_enter Tryd.func10, Tryd.ntmps10
  go_wp2_with fail
  refine (HX.out _ (below2 _ _ _)).mono ?_
  rintro r w1 ⟨rfl, b1⟩
  obtain ⟨e1, d1⟩ := two_kept _ _ _ _ b1
  have q1 : Below w.heap.size w w1 := (below2 _ _ _).trans (b1.mono (by simp; omega))
  go_wp2_with fail
  refine (HY.out _ q1).mono ?_
  rintro r w2 ⟨rfl, b2⟩
  have c2 := b1.trans (b2.mono b1.size)
  obtain ⟨e2, d2⟩ := two_kept _ _ _ _ c2
  have q2 := q1.trans (b2.mono q1.size)
  clear e1 d1
  go_wp2_with fail
  refine (HE.out _ q2).mono ?_
  rintro r w3 ⟨rfl, b3⟩
  have q3 := q2.trans (b3.mono q2.size)
  clear e2 d2
  go_wp2
  refine bodyPost_ret (v := .tuple #[.bool q, .nilIface]) (by simp [results, Tryd.results10, go_sem]) rfl ⟨rfl, q3⟩
set_option maxRecDepth 100000 in
set_option maxHeartbeats 2000000 in
theorem Equal_fault (n : Nat) (x y : MD) (w : World) (hN : NamesAt w) (hx : MD.In w.heap.size w n x) (hy : MD.In w.heap.size w n y) (h : MD.right n x = true) (h' : MD.right n y = true) (hc : (MD.eqv n x y).2.size ≠ 0) : Calls Tryd.prog 10 #[x.val, y.val] w fun r w' => ∃ m, r = .returned (.tuple #[.bool false, .iface 97 (.pointer (some ⟨m, 0, none⟩))]) ∧ w.heap.size ≤ m ∧ w'.heap[m]? = some (.cells #[.string ⟨#[99, 111, 109, 112, 97, 114, 101]⟩, .string (MD.eqv n x y).2] 64 (0, 0)) ∧ Below w.heap.size w w' := by
  have HX : Hid (∀ W, Below w.heap.size w W → Calls Tryd.prog 8 #[x.val] W fun r w' => r = .returned (.bool (MD.right n x)) ∧ Below W.heap.size W w') := fun W hW => Right_any n x W (hN.kept hW) (hx.later (Nat.le_refl _) hW)
  have HY : Hid (∀ W, Below w.heap.size w W → Calls Tryd.prog 8 #[y.val] W fun r w' => r = .returned (.bool (MD.right n y)) ∧ Below W.heap.size W w') := fun W hW => Right_any n y W (hN.kept hW) (hy.later (Nat.le_refl _) hW)
  have HE : Hid (∀ W, Below w.heap.size w W → Calls Tryd.prog 24 #[x.val, y.val] W fun r w' => r = .returned (.tuple #[.bool (MD.eqv n x y).1, .string (MD.eqv n x y).2]) ∧ Below W.heap.size W w') := fun W hW => eqv_any n x y W (hx.later (Nat.le_refl _) hW) (hy.later (Nat.le_refl _) hW) (right_full h) (right_full h')
  rw [h] at HX
  rw [h'] at HY
  clear hx hy h h'
  generalize (MD.eqv n x y).1 = q at HE
  generalize (MD.eqv n x y).2 = c at HE hc ⊢
  have he := ne_empty hc
  clear hc
  obtain ⟨⟨k, t, a, f, s, r0, r1, r2, r3, pp, path, pc⟩, ip, ic, items⟩ := x
  obtain ⟨⟨k', t', a', f', s', r0', r1', r2', r3', pp', path', pc'⟩, ip', ic', items'⟩ := y
  simp only [MD.val, D] at *
  go_enter Tryd.func10, Tryd.ntmps10
  go_wp2_with fail
  refine (HX.out _ (below2 _ _ _)).mono ?_
  rintro r w1 ⟨rfl, b1⟩
  obtain ⟨e1, d1⟩ := two_kept _ _ _ _ b1
  have q1 : Below w.heap.size w w1 := (below2 _ _ _).trans (b1.mono (by simp; omega))
  go_wp2_with fail
  refine (HY.out _ q1).mono ?_
  rintro r w2 ⟨rfl, b2⟩
  have c2 := b1.trans (b2.mono b1.size)
  obtain ⟨e2, d2⟩ := two_kept _ _ _ _ c2
  have q2 := q1.trans (b2.mono q1.size)
  clear e1 d1
  go_wp2_with fail
  refine (HE.out _ q2).mono ?_
  rintro r w3 ⟨rfl, b3⟩
  have q3 := q2.trans (b3.mono q2.size)
  clear e2 d2
  go_wp2_with (go_at_call 25; refine (fault_any _ _ _).mono ?_; rintro r w4 ⟨rfl, rfl⟩)
  refine bodyPost_ret (v := .tuple #[.bool false, .iface 97 (.pointer (some ⟨w3.heap.size, 0, none⟩))]) (by simp [results, Tryd.results10, go_sem]) rfl ⟨_, rfl, q3.size, heap_alloc_new _ _, q3.alloc q3.size _⟩
end Go.Proofs.YtnhbpcmiolkllabDoor
namespace Go.Proofs.YtnhbpcmiolkllabDoor
open Go.RowKit
attribute [local go_sem] refold2 cell3_0 cell3_1 b28_0 b28_01

set_option maxRecDepth 100000 in
set_option maxHeartbeats 2000000 in
theorem incomparable_any (n : Nat) (x : MD) (w : World) (hx : MD.In w.heap.size w n x) (hf : MD.full n x = true) :
    Calls Tryd.prog 26 #[x.val] w fun r w' => r = .returned (.string (MD.eqv n x x).2) ∧ Below w.heap.size w w' := by
  have HE : Hid (∀ W, Below w.heap.size w W → Calls Tryd.prog 24 #[x.val, x.val] W fun r w' => r = .returned (.tuple #[.bool (MD.eqv n x x).1, .string (MD.eqv n x x).2]) ∧ Below W.heap.size W w') := fun W hW => eqv_any n x x W (hx.later (Nat.le_refl _) hW) (hx.later (Nat.le_refl _) hW) hf hf
  clear hx hf
  generalize (MD.eqv n x x).1 = q at HE
  generalize (MD.eqv n x x).2 = c at HE ⊢
  obtain ⟨⟨k, t, a, f, s, r0, r1, r2, r3, pp, path, pc⟩, ip, ic, items⟩ := x
  simp only [MD.val, D] at *
  go_enter Tryd.func26, Tryd.ntmps26
  go_wp2_with (go_at_call 24; refine (HE.out _ (below1 _ _)).mono ?_; rintro r w' ⟨rfl, hb⟩)
  go_ret
  exact ⟨rfl, (below1 _ _).trans (hb.mono (by simp))⟩
set_option maxRecDepth 100000 in
set_option maxHeartbeats 2000000 in
theorem Key_good (n : Nat) (x : MD) (w : World) (hN : NamesAt w) (hx : MD.In w.heap.size w n x) (h : MD.right n x = true) (hc : (MD.eqv n x x).2 = ⟨#[]⟩) : Calls Tryd.prog 11 #[x.val] w fun r w' => r = .returned .nilIface ∧ Below w.heap.size w w' := by
  have HR : Hid (∀ W, Below w.heap.size w W → Calls Tryd.prog 8 #[x.val] W fun r w' => r = .returned (.bool (MD.right n x)) ∧ Below W.heap.size W w') := fun W hW => Right_any n x W (hN.kept hW) (hx.later (Nat.le_refl _) hW)
  rw [h] at HR
  have HI : Hid (∀ W, Below w.heap.size w W → Calls Tryd.prog 26 #[x.val] W fun r w' => r = .returned (.string (MD.eqv n x x).2) ∧ Below W.heap.size W w') := fun W hW => incomparable_any n x W (hx.later (Nat.le_refl _) hW) (right_full h)
  rw [hc] at HI
  clear hx h hc
  obtain ⟨⟨k, t, a, f, s, r0, r1, r2, r3, pp, path, pc⟩, ip, ic, items⟩ := x
  simp only [MD.val, D] at *
  go_enter Tryd.func11, Tryd.ntmps11
  go_wp2_with fail
  refine (HR.out _ (below1 _ _)).mono ?_
  rintro r w1 ⟨rfl, b1⟩
  have e1 := one_kept _ _ _ b1
  have q1 : Below w.heap.size w w1 := (below1 _ _).trans (b1.mono (by simp))
  go_wp2_with fail
  refine (HI.out _ q1).mono ?_
  rintro r w2 ⟨rfl, b2⟩
  have q2 := q1.trans (b2.mono q1.size)
  clear e1
  go_wp2
  go_ret
  exact ⟨rfl, q2⟩
set_option maxRecDepth 100000 in
set_option maxHeartbeats 2000000 in
theorem Key_fault (n : Nat) (x : MD) (w : World) (hN : NamesAt w) (hx : MD.In w.heap.size w n x) (h : MD.right n x = true) (hc : (MD.eqv n x x).2.size ≠ 0) : Calls Tryd.prog 11 #[x.val] w fun r w' => ∃ m, r = .returned (.iface 97 (.pointer (some ⟨m, 0, none⟩))) ∧ w.heap.size ≤ m ∧ w'.heap[m]? = some (.cells #[.string ⟨#[107, 101, 121]⟩, .string (MD.eqv n x x).2] 64 (0, 0)) ∧ Below w.heap.size w w' := by
  have HR : Hid (∀ W, Below w.heap.size w W → Calls Tryd.prog 8 #[x.val] W fun r w' => r = .returned (.bool (MD.right n x)) ∧ Below W.heap.size W w') := fun W hW => Right_any n x W (hN.kept hW) (hx.later (Nat.le_refl _) hW)
  rw [h] at HR
  have HI : Hid (∀ W, Below w.heap.size w W → Calls Tryd.prog 26 #[x.val] W fun r w' => r = .returned (.string (MD.eqv n x x).2) ∧ Below W.heap.size W w') := fun W hW => incomparable_any n x W (hx.later (Nat.le_refl _) hW) (right_full h)
  generalize (MD.eqv n x x).2 = c at HI hc ⊢
  have he := ne_empty hc
  clear hx h hc
  obtain ⟨⟨k, t, a, f, s, r0, r1, r2, r3, pp, path, pc⟩, ip, ic, items⟩ := x
  simp only [MD.val, D] at *
  go_enter Tryd.func11, Tryd.ntmps11
  go_wp2_with fail
  refine (HR.out _ (below1 _ _)).mono ?_
  rintro r w1 ⟨rfl, b1⟩
  have e1 := one_kept _ _ _ b1
  have q1 : Below w.heap.size w w1 := (below1 _ _).trans (b1.mono (by simp))
  go_wp2_with fail
  refine (HI.out _ q1).mono ?_
  rintro r w2 ⟨rfl, b2⟩
  have q2 := q1.trans (b2.mono q1.size)
  clear e1
  go_wp2_with (go_at_call 25; refine (fault_any _ _ _).mono ?_; rintro r w3 ⟨rfl, rfl⟩)
  go_ret
  exact ⟨_, rfl, q2.size, heap_alloc_new _ _, q2.alloc q2.size _⟩
end Go.Proofs.YtnhbpcmiolkllabDoor
