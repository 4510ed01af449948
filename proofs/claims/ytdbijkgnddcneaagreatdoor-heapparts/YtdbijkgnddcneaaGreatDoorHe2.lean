/-
  .
-/
import Derived.Test.YtdbijkgnddcneaaGreatDoorGf2J
import Derived.Test.YtdbijkgnddcneaaGreatDoorHd2J
namespace Go.Proofs.YtdbijkgnddcneaaGreatDoor
open Go.RowKit
set_option maxRecDepth 100000
set_option maxHeartbeats 4000000
attribute [local go_sem] refold2 cell3_0 cell3_1 b28_0 b28_01
theorem Hash_good (n : Nat) (x : MD) (w : World) (hN : NamesAt w) (hx : MD.In w.heap.size w n x) (h : MD.right n x = true) (hc : (MD.eqv n x x).2 = ⟨#[]⟩) (hE : EqP n x x) : Calls Tryz.prog 77 #[x.val] w fun r w' => r = .returned (.tuple #[.int .u64 (MD.hash n 14695981039346656037 x), .nilIface]) ∧ Below w.heap.size w w' := by
 have HKy : Hid (∀ W, Below w.heap.size w W → Calls Tryz.prog 57 #[x.val] W fun r w' => r = .returned .nilIface ∧ Below W.heap.size W w') := fun W hW => Key_good n x W (hN.kept hW) (hx.later (Nat.le_refl _) hW) h hc hE
 have HH : Hid (∀ W, Below w.heap.size w W → Calls Tryz.prog 115 #[x.val] W fun r w' => r = .returned (.int .u64 (MD.hash n 14695981039346656037 x)) ∧ Below W.heap.size W w') := fun W hW => hashed_any n x W (hx.later (Nat.le_refl _) hW) (right_full h)
 clear hx h hc
 generalize MD.hash n 14695981039346656037 x = hv at HH ⊢
 obtain ⟨⟨k, t, a, f, s, r0, r1, r2, r3, pp, path, pc⟩, ip, ic, items⟩ := x
 simp only [MD.val, D] at HKy HH ⊢
 go_enter Tryz.func77, Tryz.ntmps77
 go_wp2_with fail
 refine (HKy.out _ (below1 _ _)).mono ?_
 rintro r w1 ⟨rfl, b1⟩
 have e1 := one_kept _ _ _ b1
 have q1 : Below w.heap.size w w1 := (below1 _ _).trans (b1.mono (by simp))
 clear b1
 go_wp2_with (go_at_call 115; refine (HH.out _ q1).mono ?_; rintro r w2 ⟨rfl, b2⟩)
 refine bodyPost_ret (v := .tuple #[.int .u64 hv, .nilIface]) (by simp [results, Tryz.results77, go_sem]) rfl ⟨rfl, q1.trans (b2.mono q1.size)⟩
end Go.Proofs.YtdbijkgnddcneaaGreatDoor
