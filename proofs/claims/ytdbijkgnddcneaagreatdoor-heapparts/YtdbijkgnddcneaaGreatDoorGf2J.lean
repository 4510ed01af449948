/-
  .
  .
  .
-/
import Derived.Test.YtdbijkgnddcneaaGreatDoorFe2J
import Derived.Test.YtdbijkgnddcneaaGreatDoorVa
import Derived.Test.YtdbijkgnddcneaaGreatDoorNJ
import Derived.Test.YtdbijkgnddcneaaGreatDoorIJ
import Derived.Test.YtdbijkgnddcneaaGreatDoorQaJ
import Derived.Stop.Asserts
namespace Go.Proofs.YtdbijkgnddcneaaGreatDoor
open Go.RowKit
set_option maxRecDepth 100000
set_option maxHeartbeats 2000000
attribute [local go_sem] refold2 cell3_0 cell3_1 b28_0 b28_01
theorem right_full {n : Nat} {d : MD} (h : MD.right n d = true) : MD.full n d = true := by
 unfold MD.right at h
 rw [Bool.and_eq_true] at h
 first | exact h.1 | exact h.2
theorem Equal_good (n : Nat) (x y : MD) (w : World) (hN : NamesAt w) (hx : MD.In w.heap.size w n x) (hy : MD.In w.heap.size w n y) (h : MD.right n x = true) (h' : MD.right n y = true) (hc : (MD.eqv n x y).2 = ⟨#[]⟩) (hE : EqP n x y) : Calls Tryz.prog 160 #[x.val, y.val] w fun r w' => r = .returned (.tuple #[.bool (MD.eqv n x y).1, .nilIface]) ∧ Below w.heap.size w w' := by
 have HX : Hid (∀ W, Below w.heap.size w W → Calls Tryz.prog 39 #[x.val] W fun r w' => r = .returned (.bool (MD.right n x)) ∧ Below W.heap.size W w') := fun W hW => Right_any n x W (hN.kept hW) (hx.later (Nat.le_refl _) hW)
 have HY : Hid (∀ W, Below w.heap.size w W → Calls Tryz.prog 39 #[y.val] W fun r w' => r = .returned (.bool (MD.right n y)) ∧ Below W.heap.size W w') := fun W hW => Right_any n y W (hN.kept hW) (hy.later (Nat.le_refl _) hW)
 have HE : Hid (∀ W, Below w.heap.size w W → Calls Tryz.prog 120 #[x.val, y.val] W fun r w' => r = .returned (.tuple #[.bool (MD.eqv n x y).1, .string (MD.eqv n x y).2]) ∧ Below W.heap.size W w') := fun W hW => hE W (hx.later (Nat.le_refl _) hW) (hy.later (Nat.le_refl _) hW) (right_full h) (right_full h')
 rw [h] at HX
 rw [h'] at HY
 clear hx hy h h'
 rw [hc] at HE
 clear hc
 generalize (MD.eqv n x y).1 = q at HE ⊢
 obtain ⟨⟨k, t, a, f, s, r0, r1, r2, r3, pp, path, pc⟩, ip, ic, items⟩ := x
 obtain ⟨⟨k', t', a', f', s', r0', r1', r2', r3', pp', path', pc'⟩, ip', ic', items'⟩ := y
 simp only [MD.val, D] at *
 go_enter Tryz.func160, Tryz.ntmps160
 go_wp2_with fail
 refine (HX.out _ (below2 _ _ _)).mono ?_
 rintro r w1 ⟨rfl, b1⟩
 obtain ⟨e1, d1⟩ := two_kept _ _ _ _ b1
 have q1 : Below w.heap.size w w1 := (below2 _ _ _).trans (b1.mono (by simp; omega))
 go_wp2_with fail
 refine (HY.out _ q1).mono ?_
 rintro r w2 ⟨rfl, b2⟩
 have c2 := b1.trans (b2.mono b1.size)
 obtain ⟨e2, d2⟩ := two_kept _ _ _ _ c2
 have q2 := q1.trans (b2.mono q1.size)
 clear e1 d1
 go_wp2_with fail
 refine (HE.out _ q2).mono ?_
 rintro r w3 ⟨rfl, b3⟩
 have q3 := q2.trans (b3.mono q2.size)
 clear e2 d2
 go_wp2
 refine bodyPost_ret (v := .tuple #[.bool q, .nilIface]) (by simp [results, Tryz.results160, go_sem]) rfl ⟨rfl, q3⟩
theorem Equal_fault (n : Nat) (x y : MD) (w : World) (hN : NamesAt w) (hx : MD.In w.heap.size w n x) (hy : MD.In w.heap.size w n y) (h : MD.right n x = true) (h' : MD.right n y = true) (hc : (MD.eqv n x y).2.size ≠ 0) (hE : EqP n x y) : Calls Tryz.prog 160 #[x.val, y.val] w fun r w' => ∃ m, r = .returned (.tuple #[.bool false, .iface 139 (.pointer (some ⟨m, 0, none⟩))]) ∧ w.heap.size ≤ m ∧ w'.heap[m]? = some (.cells #[.string ⟨#[99, 111, 109, 112, 97, 114, 101]⟩, .string (MD.eqv n x y).2] 141 (0, 0)) ∧ Below w.heap.size w w' := by
 have HX : Hid (∀ W, Below w.heap.size w W → Calls Tryz.prog 39 #[x.val] W fun r w' => r = .returned (.bool (MD.right n x)) ∧ Below W.heap.size W w') := fun W hW => Right_any n x W (hN.kept hW) (hx.later (Nat.le_refl _) hW)
 have HY : Hid (∀ W, Below w.heap.size w W → Calls Tryz.prog 39 #[y.val] W fun r w' => r = .returned (.bool (MD.right n y)) ∧ Below W.heap.size W w') := fun W hW => Right_any n y W (hN.kept hW) (hy.later (Nat.le_refl _) hW)
 have HE : Hid (∀ W, Below w.heap.size w W → Calls Tryz.prog 120 #[x.val, y.val] W fun r w' => r = .returned (.tuple #[.bool (MD.eqv n x y).1, .string (MD.eqv n x y).2]) ∧ Below W.heap.size W w') := fun W hW => hE W (hx.later (Nat.le_refl _) hW) (hy.later (Nat.le_refl _) hW) (right_full h) (right_full h')
 rw [h] at HX
 rw [h'] at HY
 clear hx hy h h'
 generalize (MD.eqv n x y).1 = q at HE
 generalize (MD.eqv n x y).2 = c at HE hc ⊢
 have he := ne_empty hc
 clear hc
 obtain ⟨⟨k, t, a, f, s, r0, r1, r2, r3, pp, path, pc⟩, ip, ic, items⟩ := x
 obtain ⟨⟨k', t', a', f', s', r0', r1', r2', r3', pp', path', pc'⟩, ip', ic', items'⟩ := y
 simp only [MD.val, D] at *
 go_enter Tryz.func160, Tryz.ntmps160
 go_wp2_with fail
 refine (HX.out _ (below2 _ _ _)).mono ?_
 rintro r w1 ⟨rfl, b1⟩
 obtain ⟨e1, d1⟩ := two_kept _ _ _ _ b1
 have q1 : Below w.heap.size w w1 := (below2 _ _ _).trans (b1.mono (by simp; omega))
 go_wp2_with fail
 refine (HY.out _ q1).mono ?_
 rintro r w2 ⟨rfl, b2⟩
 have c2 := b1.trans (b2.mono b1.size)
 obtain ⟨e2, d2⟩ := two_kept _ _ _ _ c2
 have q2 := q1.trans (b2.mono q1.size)
 clear e1 d1
 go_wp2_with fail
 refine (HE.out _ q2).mono ?_
 rintro r w3 ⟨rfl, b3⟩
 have q3 := q2.trans (b3.mono q2.size)
 clear e2 d2
 go_wp2_with (go_at_call 83; refine (fault_any _ _ _).mono ?_; rintro r w4 ⟨rfl, rfl⟩)
 refine bodyPost_ret (v := .tuple #[.bool false, .iface 139 (.pointer (some ⟨w3.heap.size, 0, none⟩))]) (by simp [results, Tryz.results160, go_sem]) rfl ⟨_, rfl, q3.size, heap_alloc_new _ _, q3.alloc q3.size _⟩
end Go.Proofs.YtdbijkgnddcneaaGreatDoor
namespace Go.Proofs.YtdbijkgnddcneaaGreatDoor
open Go.RowKit
set_option maxRecDepth 100000
set_option maxHeartbeats 2000000
attribute [local go_sem] refold2 cell3_0 cell3_1 b28_0 b28_01
theorem incomparable_any (n : Nat) (x : MD) (w : World) (hx : MD.In w.heap.size w n x) (hf : MD.full n x = true) (hE : EqP n x x) :
  Calls Tryz.prog 82 #[x.val] w fun r w' => r = .returned (.string (MD.eqv n x x).2) ∧ Below w.heap.size w w' := by
 have HE : Hid (∀ W, Below w.heap.size w W → Calls Tryz.prog 120 #[x.val, x.val] W fun r w' => r = .returned (.tuple #[.bool (MD.eqv n x x).1, .string (MD.eqv n x x).2]) ∧ Below W.heap.size W w') := fun W hW => hE W (hx.later (Nat.le_refl _) hW) (hx.later (Nat.le_refl _) hW) hf hf
 clear hx hf
 generalize (MD.eqv n x x).1 = q at HE
 generalize (MD.eqv n x x).2 = c at HE ⊢
 obtain ⟨⟨k, t, a, f, s, r0, r1, r2, r3, pp, path, pc⟩, ip, ic, items⟩ := x
 simp only [MD.val, D] at *
 go_enter Tryz.func82, Tryz.ntmps82
 go_wp2_with (go_at_call 120; refine (HE.out _ (below1 _ _)).mono ?_; rintro r w' ⟨rfl, hb⟩)
 go_ret
 exact ⟨rfl, (below1 _ _).trans (hb.mono (by simp))⟩
theorem Key_good (n : Nat) (x : MD) (w : World) (hN : NamesAt w) (hx : MD.In w.heap.size w n x) (h : MD.right n x = true) (hc : (MD.eqv n x x).2 = ⟨#[]⟩) (hE : EqP n x x) : Calls Tryz.prog 57 #[x.val] w fun r w' => r = .returned .nilIface ∧ Below w.heap.size w w' := by
 have HR : Hid (∀ W, Below w.heap.size w W → Calls Tryz.prog 39 #[x.val] W fun r w' => r = .returned (.bool (MD.right n x)) ∧ Below W.heap.size W w') := fun W hW => Right_any n x W (hN.kept hW) (hx.later (Nat.le_refl _) hW)
 rw [h] at HR
 have HI : Hid (∀ W, Below w.heap.size w W → Calls Tryz.prog 82 #[x.val] W fun r w' => r = .returned (.string (MD.eqv n x x).2) ∧ Below W.heap.size W w') := fun W hW => incomparable_any n x W (hx.later (Nat.le_refl _) hW) (right_full h) hE
 rw [hc] at HI
 clear hx h hc
 obtain ⟨⟨k, t, a, f, s, r0, r1, r2, r3, pp, path, pc⟩, ip, ic, items⟩ := x
 simp only [MD.val, D] at *
 go_enter Tryz.func57, Tryz.ntmps57
 go_wp2_with fail
 refine (HR.out _ (below1 _ _)).mono ?_
 rintro r w1 ⟨rfl, b1⟩
 have e1 := one_kept _ _ _ b1
 have q1 : Below w.heap.size w w1 := (below1 _ _).trans (b1.mono (by simp))
 go_wp2_with fail
 refine (HI.out _ q1).mono ?_
 rintro r w2 ⟨rfl, b2⟩
 have q2 := q1.trans (b2.mono q1.size)
 clear e1
 go_wp2
 go_ret
 exact ⟨rfl, q2⟩
end Go.Proofs.YtdbijkgnddcneaaGreatDoor
namespace Go.Proofs.YtdbijkgnddcneaaGreatDoor
open Go.RowKit
attribute [local go_sem] refold2 cell3_0 cell3_1 b28_0 b28_01
theorem allEq_fault (p : MD → MD → Bool × ByteArray) (hp : ∀ a b, (p a b).1 = true → (p a b).2 = ⟨#[]⟩) : ∀ xs ys : List MD, (allEq p xs ys).1 = true → (allEq p xs ys).2 = ⟨#[]⟩
 | [], _, _ => rfl
 | _ :: _, [], _ => rfl
 | x :: xs, y :: ys, h => by
  unfold allEq at h ⊢
  by_cases hq : (p x y).1 = true
  ·rw [if_pos hq] at h ⊢; exact allEq_fault p hp xs ys h
  ·rw [if_neg hq] at h; cases h
theorem eqv_fault : ∀ (n : Nat) (a b : MD), (MD.eqv n a b).1 = true → (MD.eqv n a b).2 = ⟨#[]⟩
 | 0, _, _, _ => rfl
 | n + 1, a, b, h => by
  unfold MD.eqv at h ⊢
  by_cases h1 : a.h.k = b.h.k ∧ a.h.t = b.h.t
  ·rw [if_pos h1] at h ⊢
   by_cases h2 : a.h.k = 8
   ·rw [if_pos h2] at h ⊢
    by_cases h3 : a.items.length = b.items.length
    ·rw [if_pos h3] at h ⊢; exact allEq_fault _ (eqv_fault n) _ _ h
    ·rw [if_neg h3]
   ·rw [if_neg h2] at h ⊢
    by_cases h3 : a.h.k = 3
    ·rw [if_pos h3]
    ·rw [if_neg h3] at h ⊢
     by_cases h4 : a.h.k = 5 ∨ a.h.k = 6 ∨ a.h.k = 7
     ·rw [if_pos h4] at h; cases h
     ·rw [if_neg h4]
  ·rw [if_neg h1]
end Go.Proofs.YtdbijkgnddcneaaGreatDoor
