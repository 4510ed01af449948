/-
  .
-/
import Derived.Test.YtdbijkgnddcneaaGreatDoorLxBJ
import Derived.Lib.Strings
import Derived.Lib.UnsafeStr
import Derived.Lib.BufferWrite
import Derived.Lib.Walk
import Derived.Lib.Hide
namespace Go.Proofs.YtdbijkgnddcneaaGreatDoor.Lx
open Go.RowKit
theorem empty_toList (s : ByteArray) (h : s.size = 0) : s = ⟨#[]⟩ := ByteArray.ext (Array.eq_empty_of_size_eq_zero h)
end Go.Proofs.YtdbijkgnddcneaaGreatDoor.Lx
