/-
  No struct type holds itself; sizes.
  types.Make at a program with two types.
  The law's own table.
-/
import Derived.Test.YtdbijkgnddcneaaGreatDoorLxN2J
import Derived.Stop.Asserts
namespace Go.Proofs.YtdbijkgnddcneaaGreatDoor.Lx
open Go.RowKit Go.ChangeMaps Go.Extern

end Go.Proofs.YtdbijkgnddcneaaGreatDoor.Lx
namespace Go.Proofs.YtdbijkgnddcneaaGreatDoor.Lx
open Go.RowKit Go.ChangeMaps

end Go.Proofs.YtdbijkgnddcneaaGreatDoor.Lx
namespace Go.Proofs.YtdbijkgnddcneaaGreatDoor.Lx
open Go.RowKit Go.ChangeMaps

end Go.Proofs.YtdbijkgnddcneaaGreatDoor.Lx
