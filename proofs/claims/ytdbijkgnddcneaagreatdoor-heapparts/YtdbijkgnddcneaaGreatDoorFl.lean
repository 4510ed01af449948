/-
  .
-/
import Derived.Test.YtdbijkgnddcneaaGreatDoorCoJ
import Derived.Laws.BitsAllLaws
namespace Go.Proofs.YtdbijkgnddcneaaGreatDoor
section
open Ieee
def isNan (x : Nat) : Bool := decide (9218868437227405312 < x % 9223372036854775808)
theorem read_double (x : Nat) : double.read x =
  if x % 9223372036854775808 < 4503599627370496 then .number (x / 9223372036854775808 % 2 == 1) (x % 9223372036854775808) (-1074)
  else if x % 9223372036854775808 < 9218868437227405312 then
   .number (x / 9223372036854775808 % 2 == 1) (4503599627370496 + x % 9223372036854775808 % 4503599627370496) (-1074 + (x % 9223372036854775808 / 4503599627370496 - 1 : Nat))
  else if x % 9223372036854775808 = 9218868437227405312 then .infinity (x / 9223372036854775808 % 2 == 1)
  else .nan (x / 9223372036854775808 % 2 == 1) (x % 9223372036854775808 - 9218868437227405312) := rfl
theorem read_isNan (x : Nat) : (double.read x).isNaN = isNan x := by
 rw [read_double]; unfold isNan
 split
 ·simp [Datum.isNaN]; omega
 ·split
  ·simp [Datum.isNaN]; omega
  ·split
   ·simp [Datum.isNaN]; omega
   ·simp [Datum.isNaN]; omega
theorem compare_swap_int (a b : Int) : compare b a = (compare a b).swap := by
 simp only [compare, compareOfLessAndEq]
 by_cases h1 : a < b
 ·have : ¬ b < a := by omega
  have h3 : ¬ b = a := by omega
  simp [h1, this, h3]
 ·by_cases h2 : a = b
  ·subst h2; simp
  ·have : b < a := by omega
   simp [h1, h2, this]
theorem order_swap_datum (d e : Datum) : e.order d = (d.order e).map Ordering.swap := by
 cases d with
 | nan s f => cases e <;> rfl
 | infinity s =>
  cases e with
  | nan => rfl
  | infinity t => cases s <;> cases t <;> rfl
  | number t n j => cases s <;> rfl
 | number s m i =>
  cases e with
  | nan => rfl
  | infinity t => cases t <;> rfl
  | number t n j =>
   simp only [Datum.order, Option.map_some, Option.some.injEq]
   rw [Int.min_comm j i]
   exact compare_swap_int _ _
theorem order_none_datum (d e : Datum) : d.order e = none ↔ d.isNaN = true ∨ e.isNaN = true := by
 cases d <;> cases e <;> simp [Datum.order, Datum.isNaN]
theorem order_swap (x y : Nat) : double.order y x = (double.order x y).map Ordering.swap := order_swap_datum _ _
theorem order_none (x y : Nat) : double.order x y = none ↔ isNan x = true ∨ isNan y = true := by
 rw [← read_isNan, ← read_isNan]; exact order_none_datum _ _
end
end Go.Proofs.YtdbijkgnddcneaaGreatDoor
