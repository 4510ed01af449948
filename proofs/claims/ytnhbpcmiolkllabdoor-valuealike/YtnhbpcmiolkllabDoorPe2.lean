/-
  How two ordered data stand to one another: rank, broken, Equal.
-/
import Derived.Test.YtnhbpcmiolkllabDoorPb2
import Derived.Test.YtnhbpcmiolkllabDoorPh2J
import Derived.Test.YtnhbpcmiolkllabDoorI
import Derived.Laws.IdiomStrings
import Derived.Lib.BufferRead
import Derived.Test.YtnhbpcmiolkllabDoorPt2J
import Derived.Laws.Cover1
import Derived.Test.YtnhbpcmiolkllabDoorHa2J
import Derived.Test.YtnhbpcmiolkllabDoorXJ
namespace Go.Proofs.YtnhbpcmiolkllabDoor
open Go.RowKit
attribute [local go_sem] refold2 cell3_0 cell3_1 b28_0 b28_01

theorem wrap4096 (f : Int) : IntKind.u64.wrap (f * 4096) = f * 4096 % 18446744073709551616 := by simp [IntKind.wrap, IntKind.bits, IntKind.signed]
end Go.Proofs.YtnhbpcmiolkllabDoor
