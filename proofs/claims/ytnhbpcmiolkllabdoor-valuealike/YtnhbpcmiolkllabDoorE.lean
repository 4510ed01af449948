/-
  rightType and right, of data without Items.
-/
import Derived.Test.YtnhbpcmiolkllabDoorC
import Derived.Test.YtnhbpcmiolkllabDoorCo
import Derived.BigQuiet
namespace Go.Proofs.YtnhbpcmiolkllabDoor
open Go.RowKit
attribute [local go_sem] refold2 cell3_0 cell3_1 b28_0 b28_01
theorem belowN1 (w : World) (a : Obj) (n : Nat) : Below w.heap.size w ((w.alloc a).drewN n) := (below1 w a).trans ⟨rfl, rfl, rfl, Nat.le_refl _, fun _ _ => rfl⟩
theorem NamesAt.drewN {w : World} (h : NamesAt w) (n : Nat) : NamesAt (w.drewN n) := ⟨h.cells, h.lt⟩

set_option maxRecDepth 100000 in
set_option maxHeartbeats 1000000 in
theorem rightType_nil (a f : Int) (s : ByteArray) (r0 r1 r2 r3 : Int) (p i : Value) (w : World) :
    Calls Tryd.prog 34 #[D 0 ⟨#[]⟩ a f s r0 r1 r2 r3 p i] w fun r w' => r = .returned (.bool true) ∧ Below w.heap.size w w' := by
  simp only [D]
  go_enter Tryd.func34, Tryd.ntmps34
  go_wp2
  go_ret
  exact ⟨rfl, below1 _ _⟩

set_option maxRecDepth 100000 in
set_option maxHeartbeats 1000000 in
theorem rightType_1 (t : ByteArray) (a f : Int) (s : ByteArray) (r0 r1 r2 r3 : Int) (p i : Value) (w : World) (hN : NamesAt w) :
    Calls Tryd.prog 34 #[D 1 t a f s r0 r1 r2 r3 p i] w fun r w' => r = .returned (.bool (t.toList == [98, 111, 111, 108] || declB t)) ∧ Below w.heap.size w w' := by
  have n : w.cell? ⟨0, 1, none⟩ = some (.string ⟨#[98, 111, 111, 108]⟩) := hN.cells 1
  have hl := hN.lt
  simp only [D]
  go_enter Tryd.func34, Tryd.ntmps34
  go_wp2_with fail
  go_quiet (fail)
  go_wp2_with (go_at_call 48; refine (declared_any _ _ ((hN.kept (below1 _ _)).drewN _)).mono ?_; rintro r w' ⟨rfl, rfl⟩)
  all_goals (go_ret; refine ⟨?_, belowN1 _ _ _⟩; simp_all)

set_option maxRecDepth 100000 in
set_option maxHeartbeats 1000000 in
theorem rightType_2 (t : ByteArray) (a f : Int) (s : ByteArray) (r0 r1 r2 r3 : Int) (p i : Value) (w : World) (hN : NamesAt w) :
    Calls Tryd.prog 34 #[D 2 t a f s r0 r1 r2 r3 p i] w fun r w' => r = .returned (.bool (t.toList == [105, 110, 116] || declB t)) ∧ Below w.heap.size w w' := by
  have n : w.cell? ⟨0, 2, none⟩ = some (.string ⟨#[105, 110, 116]⟩) := hN.cells 2
  have hl := hN.lt
  simp only [D]
  go_enter Tryd.func34, Tryd.ntmps34
  go_wp2_with fail
  go_quiet (fail)
  go_wp2_with (go_at_call 48; refine (declared_any _ _ ((hN.kept (below1 _ _)).drewN _)).mono ?_; rintro r w' ⟨rfl, rfl⟩)
  all_goals (go_ret; refine ⟨?_, belowN1 _ _ _⟩; simp_all)

set_option maxRecDepth 100000 in
set_option maxHeartbeats 1000000 in
theorem rightType_3 (t : ByteArray) (a f : Int) (s : ByteArray) (r0 r1 r2 r3 : Int) (p i : Value) (w : World) (hN : NamesAt w) :
    Calls Tryd.prog 34 #[D 3 t a f s r0 r1 r2 r3 p i] w fun r w' => r = .returned (.bool (t.toList == [102, 108, 111, 97, 116] || declB t)) ∧ Below w.heap.size w w' := by
  have n : w.cell? ⟨0, 3, none⟩ = some (.string ⟨#[102, 108, 111, 97, 116]⟩) := hN.cells 3
  have hl := hN.lt
  simp only [D]
  go_enter Tryd.func34, Tryd.ntmps34
  go_wp2_with fail
  go_quiet (fail)
  go_wp2_with (go_at_call 48; refine (declared_any _ _ ((hN.kept (below1 _ _)).drewN _)).mono ?_; rintro r w' ⟨rfl, rfl⟩)
  all_goals (go_ret; refine ⟨?_, belowN1 _ _ _⟩; simp_all)

set_option maxRecDepth 100000 in
set_option maxHeartbeats 1000000 in
theorem rightType_4 (t : ByteArray) (a f : Int) (s : ByteArray) (r0 r1 r2 r3 : Int) (p i : Value) (w : World) (hN : NamesAt w) :
    Calls Tryd.prog 34 #[D 4 t a f s r0 r1 r2 r3 p i] w fun r w' => r = .returned (.bool (t.toList == [116, 101, 120, 116] || declB t)) ∧ Below w.heap.size w w' := by
  have n : w.cell? ⟨0, 4, none⟩ = some (.string ⟨#[116, 101, 120, 116]⟩) := hN.cells 4
  have hl := hN.lt
  simp only [D]
  go_enter Tryd.func34, Tryd.ntmps34
  go_wp2_with fail
  go_quiet (fail)
  go_wp2_with (go_at_call 48; refine (declared_any _ _ ((hN.kept (below1 _ _)).drewN _)).mono ?_; rintro r w' ⟨rfl, rfl⟩)
  all_goals (go_ret; refine ⟨?_, belowN1 _ _ _⟩; simp_all)

set_option maxRecDepth 100000 in
set_option maxHeartbeats 1000000 in
theorem rightType_5 (t : ByteArray) (a f : Int) (s : ByteArray) (r0 r1 r2 r3 : Int) (p i : Value) (w : World) (hN : NamesAt w) :
    Calls Tryd.prog 34 #[D 5 t a f s r0 r1 r2 r3 p i] w fun r w' => r = .returned (.bool (t.toList == [108, 105, 115, 116] || declB t)) ∧ Below w.heap.size w w' := by
  have n : w.cell? ⟨0, 5, none⟩ = some (.string ⟨#[108, 105, 115, 116]⟩) := hN.cells 5
  have hl := hN.lt
  simp only [D]
  go_enter Tryd.func34, Tryd.ntmps34
  go_wp2_with fail
  go_quiet (fail)
  go_wp2_with (go_at_call 48; refine (declared_any _ _ ((hN.kept (below1 _ _)).drewN _)).mono ?_; rintro r w' ⟨rfl, rfl⟩)
  all_goals (go_ret; refine ⟨?_, belowN1 _ _ _⟩; simp_all)

set_option maxRecDepth 100000 in
set_option maxHeartbeats 1000000 in
theorem rightType_6 (t : ByteArray) (a f : Int) (s : ByteArray) (r0 r1 r2 r3 : Int) (p i : Value) (w : World) (hN : NamesAt w) :
    Calls Tryd.prog 34 #[D 6 t a f s r0 r1 r2 r3 p i] w fun r w' => r = .returned (.bool (t.toList == [109, 97, 112] || declB t)) ∧ Below w.heap.size w w' := by
  have n : w.cell? ⟨0, 6, none⟩ = some (.string ⟨#[109, 97, 112]⟩) := hN.cells 6
  have hl := hN.lt
  simp only [D]
  go_enter Tryd.func34, Tryd.ntmps34
  go_wp2_with fail
  go_quiet (fail)
  go_wp2_with (go_at_call 48; refine (declared_any _ _ ((hN.kept (below1 _ _)).drewN _)).mono ?_; rintro r w' ⟨rfl, rfl⟩)
  all_goals (go_ret; refine ⟨?_, belowN1 _ _ _⟩; simp_all)

set_option maxRecDepth 100000 in
set_option maxHeartbeats 1000000 in
theorem rightType_7 (t : ByteArray) (a f : Int) (s : ByteArray) (r0 r1 r2 r3 : Int) (p i : Value) (w : World) (hN : NamesAt w) :
    Calls Tryd.prog 34 #[D 7 t a f s r0 r1 r2 r3 p i] w fun r w' => r = .returned (.bool (t.toList == [102, 117, 110, 99] || declB t)) ∧ Below w.heap.size w w' := by
  have n : w.cell? ⟨0, 7, none⟩ = some (.string ⟨#[102, 117, 110, 99]⟩) := hN.cells 7
  have hl := hN.lt
  simp only [D]
  go_enter Tryd.func34, Tryd.ntmps34
  go_wp2_with fail
  go_quiet (fail)
  go_wp2_with (go_at_call 48; refine (declared_any _ _ ((hN.kept (below1 _ _)).drewN _)).mono ?_; rintro r w' ⟨rfl, rfl⟩)
  all_goals (go_ret; refine ⟨?_, belowN1 _ _ _⟩; simp_all)

set_option maxRecDepth 100000 in
set_option maxHeartbeats 1000000 in
theorem rightType_8 (t : ByteArray) (a f : Int) (s : ByteArray) (r0 r1 r2 r3 : Int) (p i : Value) (w : World) (hN : NamesAt w) :
    Calls Tryd.prog 34 #[D 8 t a f s r0 r1 r2 r3 p i] w fun r w' => r = .returned (.bool (declB t)) ∧ Below w.heap.size w w' := by
  simp only [D]
  go_enter Tryd.func34, Tryd.ntmps34
  go_wp2_with fail
  go_quiet (fail)
  go_wp2_with (go_at_call 48; refine (declared_any _ _ ((hN.kept (below1 _ _)).drewN _)).mono ?_; rintro r w' ⟨rfl, rfl⟩)
  all_goals (go_ret; exact ⟨rfl, belowN1 _ _ _⟩)

set_option maxRecDepth 100000 in
set_option maxHeartbeats 1000000 in
theorem rightType_9 (t : ByteArray) (a f : Int) (s : ByteArray) (r0 r1 r2 r3 : Int) (p i : Value) (w : World) (hN : NamesAt w) :
    Calls Tryd.prog 34 #[D 9 t a f s r0 r1 r2 r3 p i] w fun r w' => r = .returned (.bool (declB t)) ∧ Below w.heap.size w w' := by
  simp only [D]
  go_enter Tryd.func34, Tryd.ntmps34
  go_wp2_with fail
  go_quiet (fail)
  go_wp2_with (go_at_call 48; refine (declared_any _ _ ((hN.kept (below1 _ _)).drewN _)).mono ?_; rintro r w' ⟨rfl, rfl⟩)
  all_goals (go_ret; exact ⟨rfl, belowN1 _ _ _⟩)

end Go.Proofs.YtnhbpcmiolkllabDoor
