/-
  The walk of tree.alike, at every two trees.
-/
import Derived.Test.YthbnegggohegkaaGreatDoorFr
namespace Go.Proofs.YthbnegggohegkaaGreatDoor
open Go.RowKit

set_option maxHeartbeats 1000000 in
theorem alike_any (a b : MT) (w : World) :
    Calls Tryz.prog 35 #[nodeV a, nodeV b] w fun e w' => ∃ r : Bool, e = .returned (.bool r) ∧ Hid (r = MT.like a b) ∧ Below w.heap.size w w' := by
  obtain ⟨b1, e1⟩ : ∃ x, (a.kind == b.kind) = x := ⟨_, rfl⟩
  obtain ⟨b2, e2⟩ : ∃ x, (a.text.toList == b.text.toList) = x := ⟨_, rfl⟩
  obtain ⟨b3, e3⟩ : ∃ x, (a.num == b.num) = x := ⟨_, rfl⟩
  obtain ⟨b4, e4⟩ : ∃ x, ((a.kids.length : Int) == b.kids.length) = x := ⟨_, rfl⟩
  have HL : Hid (MT.like a b = (b1 && b2 && b3 && b4)) := by
    show _ = _
    rw [← e1, ← e2, ← e3, ← e4, MT.like, ByteArray.toList_eq, ByteArray.toList_eq]
    congr 1
    rw [Bool.eq_iff_iff]; simp; omega
  go_enter Tryz.func35, Tryz.ntmps35
  cases b1 <;> cases b2 <;> cases b3 <;> cases b4
  all_goals go_wp2_with fail
  all_goals go_ret
  all_goals exact ⟨_, rfl, HL.out.symm, ((Below.refl _ _).alloc (Nat.le_refl _) _).alloc (by simp) _⟩

end Go.Proofs.YthbnegggohegkaaGreatDoor
