/-
  A simple datum, made, of whatever kind.
-/
import Derived.Test.YtnhbpcmiolkllabDoorPk2
import Derived.Test.YtnhbpcmiolkllabDoorPl2
import Derived.Test.YtnhbpcmiolkllabDoorPm2
import Derived.Test.YtnhbpcmiolkllabDoorPn2
namespace Go.Proofs.YtnhbpcmiolkllabDoor
open Go.RowKit

theorem simple_any (kb : Nat) (rp : Option Addr) (raw : List Int) (rc at_ : Nat) (w : World) (hM : MakerAt w kb rp raw rc at_) (ha : at_ ≤ 90000) :
    Calls Tryd.prog 21 #[.pointer (some ⟨kb, 0, none⟩)] w (SimP kb rp raw rc at_ w) := by
  have h := nv_range raw at_ 9 (by decide)
  obtain e | e | e | e | e | e | e | e | e : nv raw at_ 9 = 0 ∨ nv raw at_ 9 = 1 ∨ nv raw at_ 9 = 2 ∨ nv raw at_ 9 = 3 ∨ nv raw at_ 9 = 4 ∨ nv raw at_ 9 = 5 ∨ nv raw at_ 9 = 6 ∨ nv raw at_ 9 = 7 ∨ nv raw at_ 9 = 8 := by omega
  · exact simple_0 kb rp raw rc at_ w hM ha e
  · exact simple_1 kb rp raw rc at_ w hM ha e
  · exact simple_2 kb rp raw rc at_ w hM ha e
  · exact simple_3 kb rp raw rc at_ w hM ha e
  · exact simple_4 kb rp raw rc at_ w hM ha e
  · exact simple_5 kb rp raw rc at_ w hM ha e
  · exact simple_6 kb rp raw rc at_ w hM ha e
  · exact simple_7 kb rp raw rc at_ w hM ha e
  · exact simple_9 kb rp raw rc at_ w hM ha e
end Go.Proofs.YtnhbpcmiolkllabDoor
