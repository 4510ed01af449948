/-
  ownOf: a datum without all that its kind has not.
-/
import Derived.Test.YtnhbpcmiolkllabDoorB
namespace Go.Proofs.YtnhbpcmiolkllabDoor
open Go.RowKit
attribute [local go_sem] refold2 cell3_0 cell3_1 b28_0 b28_01

set_option maxRecDepth 100000 in
set_option maxHeartbeats 1000000 in
theorem ownOf_nil (t : ByteArray) (a f : Int) (s : ByteArray) (r0 r1 r2 r3 : Int) (p i : Value) (w : World) :
    Calls Tryd.prog 35 #[D 0 t a f s r0 r1 r2 r3 p i] w fun r w' => r = .returned (dat 0 t 0 0 ⟨#[]⟩) ∧ Below w.heap.size w w' := by
  simp only [dat, D]
  go_enter Tryd.func35, Tryd.ntmps35
  go_wp2
  refine bodyPost_ret (v := dat 0 t 0 0 ⟨#[]⟩) (by simp [results, Tryd.results35, go_sem, dat, D]) rfl ⟨rfl, below3 _ _ _ _⟩
set_option maxRecDepth 100000 in
set_option maxHeartbeats 1000000 in
theorem ownOf_int (t : ByteArray) (a f : Int) (s : ByteArray) (r0 r1 r2 r3 : Int) (p i : Value) (w : World) :
    Calls Tryd.prog 35 #[D 2 t a f s r0 r1 r2 r3 p i] w fun r w' => r = .returned (dat 2 t a 0 ⟨#[]⟩) ∧ Below w.heap.size w w' := by
  simp only [dat, D]
  go_enter Tryd.func35, Tryd.ntmps35
  go_wp2
  refine bodyPost_ret (v := dat 2 t a 0 ⟨#[]⟩) (by simp [results, Tryd.results35, go_sem, dat, D]) rfl ⟨rfl, below3 _ _ _ _⟩
set_option maxRecDepth 100000 in
set_option maxHeartbeats 1000000 in
theorem ownOf_list (t : ByteArray) (a f : Int) (s : ByteArray) (r0 r1 r2 r3 : Int) (pp : Option Addr) (m c : Nat) (i : Value) (w : World) :
    Calls Tryd.prog 35 #[D 5 t a f s r0 r1 r2 r3 (.slice pp m c) i] w fun r w' => r = .returned (D 5 t 0 0 ⟨#[]⟩ r0 r1 r2 r3 (.slice none 0 0) (.slice none 0 0)) ∧ Below w.heap.size w w' := by
  simp only [D]
  go_enter Tryd.func35, Tryd.ntmps35
  go_wp2
  refine bodyPost_ret (v := D 5 t 0 0 ⟨#[]⟩ r0 r1 r2 r3 (.slice none 0 0) (.slice none 0 0)) (by simp [results, Tryd.results35, go_sem, D]) rfl ⟨rfl, below3 _ _ _ _⟩
set_option maxRecDepth 100000 in
set_option maxHeartbeats 1000000 in
theorem ownOf_map (t : ByteArray) (a f : Int) (s : ByteArray) (r0 r1 r2 r3 : Int) (p i : Value) (w : World) :
    Calls Tryd.prog 35 #[D 6 t a f s r0 r1 r2 r3 p i] w fun r w' => r = .returned (D 6 t 0 0 ⟨#[]⟩ r0 0 0 0 (.slice none 0 0) (.slice none 0 0)) ∧ Below w.heap.size w w' := by
  simp only [D]
  go_enter Tryd.func35, Tryd.ntmps35
  go_wp2
  refine bodyPost_ret (v := D 6 t 0 0 ⟨#[]⟩ r0 0 0 0 (.slice none 0 0) (.slice none 0 0)) (by simp [results, Tryd.results35, go_sem, D]) rfl ⟨rfl, below3 _ _ _ _⟩
set_option maxRecDepth 100000 in
set_option maxHeartbeats 1000000 in
theorem ownOf_func (t : ByteArray) (a f : Int) (s : ByteArray) (r0 r1 r2 r3 : Int) (p i : Value) (w : World) :
    Calls Tryd.prog 35 #[D 7 t a f s r0 r1 r2 r3 p i] w fun r w' => r = .returned (D 7 t 0 0 ⟨#[]⟩ r0 0 0 0 (.slice none 0 0) (.slice none 0 0)) ∧ Below w.heap.size w w' := by
  simp only [D]
  go_enter Tryd.func35, Tryd.ntmps35
  go_wp2
  refine bodyPost_ret (v := D 7 t 0 0 ⟨#[]⟩ r0 0 0 0 (.slice none 0 0) (.slice none 0 0)) (by simp [results, Tryd.results35, go_sem, D]) rfl ⟨rfl, below3 _ _ _ _⟩
set_option maxRecDepth 100000 in
set_option maxHeartbeats 1000000 in
theorem ownOf_ptr (t : ByteArray) (a f : Int) (s : ByteArray) (r0 r1 r2 r3 : Int) (pp : Option Addr) (m c : Nat) (i : Value) (w : World) :
    Calls Tryd.prog 35 #[D 9 t a f s r0 r1 r2 r3 (.slice pp m c) i] w fun r w' => r = .returned (D 9 t 0 0 ⟨#[]⟩ r0 0 0 0 (.slice pp m c) (.slice none 0 0)) ∧ Below w.heap.size w w' := by
  simp only [D]
  go_enter Tryd.func35, Tryd.ntmps35
  go_wp2
  go_region
  go_wp2
  refine bodyPost_ret (v := D 9 t 0 0 ⟨#[]⟩ r0 0 0 0 (.slice pp m c) (.slice none 0 0)) (by simp [results, Tryd.results35, go_sem, D]) rfl ⟨rfl, (below3 _ _ _ _).drew⟩
end Go.Proofs.YtnhbpcmiolkllabDoor
