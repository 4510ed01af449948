/-
  ValueNone's law at every kind and name.
-/
import Derived.Test.YtnhbpcmiolkllabDoorZ
namespace Go.Proofs.YtnhbpcmiolkllabDoor
open Go.RowKit

theorem noneLaw_any (c : Int) (t : ByteArray) (w : World) (hN : NamesAt w) (ht : t.size ≤ 140737488351232) (h0 : -9223372036854775808 ≤ c) (h1 : c ≤ 9223372036854775807) :
    Calls Tryd.prog 5 #[.int .i64 c, .string t] w fun r w' => r = .returned (.bool true) ∧ Below w.heap.size w w' := by
  rcases pick4_cases c with hp | hp | hp | hp
  · cases hr : (t.toList == [108, 105, 115, 116] || declB t) with
    | true => exact noneLaw_list c t w hN ht h0 h1 hp hr
    | false => exact noneLaw_bad_list c t w hN h0 h1 hp hr
  · cases hr : (t.toList == [109, 97, 112] || declB t) with
    | true => exact noneLaw_map c t w hN ht h0 h1 hp hr
    | false => exact noneLaw_bad_map c t w hN h0 h1 hp hr
  · cases hr : (t.toList == [102, 117, 110, 99] || declB t) with
    | true => exact noneLaw_func c t w hN ht h0 h1 hp hr
    | false => exact noneLaw_bad_func c t w hN h0 h1 hp hr
  · cases hr : declB t with
    | true => exact noneLaw_ptr c t w hN ht h0 h1 hp hr
    | false => exact noneLaw_bad_ptr c t w hN h0 h1 hp hr
end Go.Proofs.YtnhbpcmiolkllabDoor
