/-
  Of, where a datum may not be.
-/
import Derived.Test.YtnhbpcmiolkllabDoorH
namespace Go.Proofs.YtnhbpcmiolkllabDoor
open Go.RowKit
attribute [local go_sem] refold2 cell3_0 cell3_1 b28_0 b28_01

set_option maxRecDepth 100000 in
set_option maxHeartbeats 2000000 in
theorem wrong_any (w : World) : Calls Tryd.prog 23 #[] w fun r w' => ∃ n, r = .returned (.iface 105 (.pointer (some ⟨n, 0, none⟩))) ∧ Below w.heap.size w w' := by
  go_enter Tryd.func23, Tryd.ntmps23
  go_wp2
  go_ret
  exact ⟨_, rfl, below1 _ _⟩

set_option maxRecDepth 100000 in
set_option maxHeartbeats 2000000 in
theorem Of_bad (k : Int) (t : ByteArray) (a f : Int) (s : ByteArray) (r0 r1 r2 r3 : Int) (p i : Value) (w : World) (hN : NamesAt w)
    (hR : ∀ W, NamesAt W → Calls Tryd.prog 8 #[D k t a f s r0 r1 r2 r3 p i] W fun r w' => r = .returned (.bool false) ∧ Below W.heap.size W w') :
    Calls Tryd.prog 17 #[D k t a f s r0 r1 r2 r3 p i] w fun r w' => ∃ n, r = .returned (.tuple #[.nilIface, .iface 105 (.pointer (some ⟨n, 0, none⟩))]) ∧ Below w.heap.size w w' := by
  have HR : Hid (∀ W, NamesAt W → Calls Tryd.prog 8 #[D k t a f s r0 r1 r2 r3 p i] W fun r w' => r = .returned (.bool false) ∧ Below W.heap.size W w') := hR
  clear hR
  simp only [D] at HR ⊢
  go_enter Tryd.func17, Tryd.ntmps17
  go_wp2_with fail
  refine (HR.out _ (hN.kept (below1 _ _))).mono ?_
  rintro r w1 ⟨rfl, b1⟩
  have q1 : Below w.heap.size w w1 := (below1 _ _).trans (b1.mono (by simp))
  go_wp2_with (go_at_call 23; refine (wrong_any _).mono ?_; rintro r w2 ⟨n, rfl, b2⟩)
  refine bodyPost_ret (v := .tuple #[.nilIface, .iface 105 (.pointer (some ⟨n, 0, none⟩))]) (by simp [results, Tryd.results17, go_sem]) rfl ⟨_, rfl, q1.trans (b2.mono q1.size)⟩

/-- Which of four. -/
def pick4 (c : Int) : Int := if c < 0 then (-(c + 1)).tmod 4 else c.tmod 4
set_option maxRecDepth 100000 in
set_option maxHeartbeats 2000000 in
theorem pick_any (c : Int) (w : World) (h0 : -9223372036854775808 ≤ c) (h1 : c ≤ 9223372036854775807) : Calls Tryd.prog 16 #[.int .i64 c, .int .i64 4] w fun r w' => r = .returned (.int .i64 (pick4 c)) ∧ w' = w := by
  unfold pick4
  go_enter Tryd.func16, Tryd.ntmps16
  go_wp2
  · go_ret
    exact ⟨rfl, rfl⟩
  · go_ret
    refine ⟨?_, rfl⟩
    rw [Int.tmod_eq_emod_of_nonneg (by omega)]
    rfl
theorem pick4_cases (c : Int) : pick4 c = 0 ∨ pick4 c = 1 ∨ pick4 c = 2 ∨ pick4 c = 3 := by
  unfold pick4
  split
  · rw [Int.tmod_eq_emod_of_nonneg (by omega)]; omega
  · rw [Int.tmod_eq_emod_of_nonneg (by omega)]; omega
end Go.Proofs.YtnhbpcmiolkllabDoor
