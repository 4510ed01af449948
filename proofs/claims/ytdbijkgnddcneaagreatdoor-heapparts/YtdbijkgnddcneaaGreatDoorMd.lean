/-
  .
-/
import Derived.Test.YtdbijkgnddcneaaGreatDoorMc
import Derived.Test.YtdbijkgnddcneaaGreatDoorGf2J
import Derived.Test.YtdbijkgnddcneaaGreatDoorHd2J
namespace Go.Proofs.YtdbijkgnddcneaaGreatDoor
open Go.RowKit
set_option maxRecDepth 100000
set_option maxHeartbeats 4000000
theorem Equal_told (n : Nat) (x y : MD) (w : World) (hN : NamesAt w) (hx : MD.In w.heap.size w n x) (hy : MD.In w.heap.size w n y) (h : MD.right n x = true) (h' : MD.right n y = true) (hE : EqP n x y) : Calls Tryz.prog 160 #[x.val, y.val] w fun r w' => (∃ e, r = .returned (.tuple #[.bool (MD.eqv n x y).1, e])) ∧ Below w.heap.size w w' := by
 by_cases hc : (MD.eqv n x y).2.size = 0
 ·exact (Equal_good n x y w hN hx hy h h' (by apply ByteArray.ext; apply Array.eq_empty_of_size_eq_zero; exact hc) hE).mono fun r w' hr => ⟨⟨_, hr.1⟩, hr.2⟩
 ·have hf : (MD.eqv n x y).1 = false := by
   cases hb : (MD.eqv n x y).1 with
   | false => rfl
   | true => exact absurd (by rw [eqv_fault n x y hb]; rfl) hc
  rw [hf]
  exact (Equal_fault n x y w hN hx hy h h' hc hE).mono fun r w' hr => by
   obtain ⟨m, e1, e2⟩ := hr
   exact ⟨⟨_, e1⟩, e2.2.2⟩
theorem equal_any (n : Nat) (x y : MD) (w : World) (hN : NamesAt w) (hx : MD.In w.heap.size w n x) (hy : MD.In w.heap.size w n y) (h : MD.right n x = true) (h' : MD.right n y = true) (hE : EqP n x y) : Calls Tryz.prog 116 #[x.val, y.val] w fun r w' => r = .returned (.bool (MD.eqv n x y).1) ∧ Below w.heap.size w w' := by
 have HE : Hid (∀ W, Below w.heap.size w W → Calls Tryz.prog 160 #[x.val, y.val] W fun r w' => (∃ e, r = .returned (.tuple #[.bool (MD.eqv n x y).1, e])) ∧ Below W.heap.size W w') := fun W hW => Equal_told n x y W (hN.kept hW) (hx.later (Nat.le_refl _) hW) (hy.later (Nat.le_refl _) hW) h h' hE
 clear hx hy h h'
 generalize (MD.eqv n x y).1 = q at HE ⊢
 obtain ⟨⟨k, t, a, f, s, r0, r1, r2, r3, pp, path, pc⟩, ip, ic, items⟩ := x
 obtain ⟨⟨k', t', a', f', s', r0', r1', r2', r3', pp', path', pc'⟩, ip', ic', items'⟩ := y
 simp only [MD.val, D] at HE ⊢
 go_enter Tryz.func116, Tryz.ntmps116
 go_wp2_with fail
 refine (HE.out _ (below2 _ _ _)).mono ?_
 rintro r w1 ⟨⟨e, rfl⟩, b1⟩
 have q1 : Below w.heap.size w w1 := (below2 _ _ _).trans (b1.mono (by simp; omega))
 clear b1
 go_wp2_with fail
 go_ret
 exact ⟨rfl, q1⟩
end Go.Proofs.YtdbijkgnddcneaaGreatDoor
