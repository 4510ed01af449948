/-
  .
-/
import Derived.Test.YtdbijkgnddcneaaGreatDoorEeJ
import Derived.Laws.AppendOwn
namespace Go.Proofs.YtdbijkgnddcneaaGreatDoor
open Go.RowKit
attribute [local go_sem] refold2 cell3_0 cell3_1 b28_0 b28_01
def MD.right (n : Nat) (d : MD) : Bool := MD.full n d && decide (MD.size n d ≤ 100)
end Go.Proofs.YtdbijkgnddcneaaGreatDoor
