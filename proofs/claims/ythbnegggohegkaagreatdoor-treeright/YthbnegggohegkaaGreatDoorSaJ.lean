/-
  The walks of guiseref2.alike and guiseref2.Same, at every two trees.
  The walk of guiseref2.Same, at every two trees.
-/
import Derived.Test.YthbnegggohegkaaGreatDoorRsJ
import Derived.Deep.RegionWith
import Derived.Deep.LoopGhost
namespace Go.Proofs.YthbnegggohegkaaGreatDoor
open Go.RowKit

theorem MT.like_iff (a b : MT) : MT.like a b = true ↔ a.kind = b.kind ∧ a.text.toList = b.text.toList ∧ a.num = b.num ∧ a.kids.length = b.kids.length := by
  rw [ByteArray.toList_eq, ByteArray.toList_eq]
  simp [MT.like, and_assoc]
theorem MT.alikeL_nil (ys : List MT) : MT.alikeL [] ys = true := by rw [MT.alikeL]
theorem MT.In.later {B : Nat} {w w' : World} {t : MT} (h : MT.In B w t) (hB : B ≤ w.heap.size) (hb : Below w.heap.size w w') : MT.In w'.heap.size w' t :=
  MT.In.mono (Nat.le_trans hB hb.size) t (MT.In.below (hb.mono hB) t h)

end Go.Proofs.YthbnegggohegkaaGreatDoor
namespace Go.Proofs.YthbnegggohegkaaGreatDoor
open Go.RowKit

mutual
end

/-- Same, as the document has it. -/
def MT.same (a b : MT) : Bool := decide (a.size ≤ 1000000) && MT.alike a b

end Go.Proofs.YthbnegggohegkaaGreatDoor
