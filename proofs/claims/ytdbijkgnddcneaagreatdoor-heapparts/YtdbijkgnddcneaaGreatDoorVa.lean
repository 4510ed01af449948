/-
  .
-/
import Derived.Test.YtdbijkgnddcneaaGreatDoorEeJ
import Derived.Test.YtdbijkgnddcneaaGreatDoorRt
import Derived.Test.YtdbijkgnddcneaaGreatDoorIJ
import Derived.Test.YtdbijkgnddcneaaGreatDoorNJ
import Derived.Test.YtdbijkgnddcneaaGreatDoorQaJ
import Derived.Stop.Asserts
namespace Go.Proofs.YtdbijkgnddcneaaGreatDoor
open Go.RowKit
set_option maxRecDepth 100000
set_option maxHeartbeats 1000000
attribute [local go_sem] refold2 cell3_0 cell3_1 b28_0 b28_01
theorem Right_any (n : Nat) (d : MD) (w : World) (hN : NamesAt w) (hin : MD.In w.heap.size w n d) : Calls Tryz.prog 39 #[d.val] w fun r w' => r = .returned (.bool (MD.right n d)) ∧ Below w.heap.size w w' := by
 have HR : Hid (Calls Tryz.prog 67 #[d.val, .pointer (some ⟨w.heap.size + 1, 0, none⟩)] ((w.alloc (.cells d.cells 32)).alloc (.cells #[.int .i64 100] 3)) fun r w' => r = .returned (.bool (MD.right n d)) ∧ Below w.heap.size w w') := by
  have hb2 := below2 w (.cells d.cells 32) (.cells #[.int .i64 100] 3)
  refine (right_any n d (w.heap.size + 1) 100 _ (hN.kept hb2) (by omega) ⟨row_at (heap2_1 _ _ _) 0, fz _ _ _ _ 0 (heap2_1 _ _ _), by simp⟩ (by omega) (by omega) (MD.In.mono (by omega) n d (MD.In.below hb2 n d hin))).mono ?_
  rintro r w' ⟨x, q, rfl, h1, _, h3, _⟩
  refine ⟨?_, hb2.trans (h1.mono (by omega))⟩
  rw [h3, MD.right]
  congr 3
  apply decide_eq_decide.2; omega
 clear hin hN
 generalize MD.right n d = fv at HR ⊢
 obtain ⟨⟨k, t, a, f, s, r0, r1, r2, r3, pp, path, pc⟩, ip, ic, items⟩ := d
 simp only [MD.val, D, MD.cells] at *
 go_enter Tryz.func39, Tryz.ntmps39
 go_wp2_with (go_at_call 67; refine HR.out.mono ?_; rintro r w' ⟨rfl, hb⟩)
 go_ret
 exact ⟨rfl, hb⟩
end Go.Proofs.YtdbijkgnddcneaaGreatDoor
