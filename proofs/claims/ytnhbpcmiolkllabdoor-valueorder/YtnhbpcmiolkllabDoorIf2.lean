/-
  The order of two floats is that of their ranks (plain facts).
-/
import Derived.Test.YtnhbpcmiolkllabDoorIe2
namespace Go.Proofs.YtnhbpcmiolkllabDoor
section
open Ieee

theorem eB_mono {b c : Nat} (h : eB b < eB c) : b < c := by
  unfold eB at h
  by_cases hb : b < 4503599627370496 <;> by_cases hc : c < 4503599627370496 <;> simp only [hb, hc, if_true, if_false] at h <;> omega
theorem mB_lt_iff (b c : Nat) (h2 : eB b = eB c) : mB b < mB c ↔ b < c := by
  unfold mB; unfold eB at h2
  by_cases hb : b < 4503599627370496 <;> by_cases hc : c < 4503599627370496 <;> simp only [hb, hc, if_true, if_false] at h2 ⊢ <;> omega
theorem me_lt1 (b c d : Nat) (he : eB c = eB b + d) : mB b < mB c * 2 ^ d ↔ b < c := by
  cases d with
  | zero => rw [Nat.pow_zero, Nat.mul_one]; exact mB_lt_iff b c (by omega)
  | succ d =>
    have h1 := mB_ge c (by omega)
    have h2 := mB_lt b
    have h3 : 1 ≤ 2 ^ d := Nat.one_le_two_pow
    have h4 : mB c * 2 ^ (d + 1) = mB c * 2 ^ d * 2 := by rw [Nat.pow_succ, Nat.mul_assoc]
    have h5 : mB c * 1 ≤ mB c * 2 ^ d := Nat.mul_le_mul_left _ h3
    have h6 := eB_mono (b := b) (c := c) (by omega)
    exact ⟨fun _ => h6, fun _ => by omega⟩
theorem me_lt (b c : Nat) : mB b * 2 ^ ((-1074 + (eB b : Int)) - min (-1074 + (eB b : Int)) (-1074 + (eB c : Int))).toNat < mB c * 2 ^ ((-1074 + (eB c : Int)) - min (-1074 + (eB b : Int)) (-1074 + (eB c : Int))).toNat ↔ b < c := by
  have he := me_eq b c
  rcases Nat.le_total (eB b) (eB c) with hl | hl
  · rw [show ((-1074 + (eB b : Int)) - min (-1074 + (eB b : Int)) (-1074 + (eB c : Int))).toNat = 0 by omega, show ((-1074 + (eB c : Int)) - min (-1074 + (eB b : Int)) (-1074 + (eB c : Int))).toNat = eB c - eB b by omega, Nat.pow_zero, Nat.mul_one]
    exact me_lt1 b c _ (by omega)
  · rw [show ((-1074 + (eB c : Int)) - min (-1074 + (eB b : Int)) (-1074 + (eB c : Int))).toNat = 0 by omega, show ((-1074 + (eB b : Int)) - min (-1074 + (eB b : Int)) (-1074 + (eB c : Int))).toNat = eB b - eB c by omega, Nat.pow_zero, Nat.mul_one] at he ⊢
    have h := me_lt1 c b (eB b - eB c) (by omega)
    generalize mB b * 2 ^ (eB b - eB c) = A at he h ⊢
    generalize mB c = B at he h ⊢
    omega
theorem mB_zero (b : Nat) : mB b = 0 ↔ b = 0 := by unfold mB; split <;> omega
theorem signed_form (s : Bool) (A i : Nat) : signed s A i = (if s then -((A * 2 ^ i : Nat) : Int) else ((A * 2 ^ i : Nat) : Int)) := by unfold signed; rw [Nat.shiftLeft_eq]
theorem cmp_int_lt (a b : Int) : compare a b = .lt ↔ a < b := by
  simp only [compare, compareOfLessAndEq]
  by_cases h1 : a < b
  · simp [h1]
  · by_cases h2 : a = b
    · simp [h2]
    · simp [h1, h2]
theorem rk_form (x : Nat) (hx : x < 18446744073709551616) : rk x = (if (x / 9223372036854775808 % 2 == 1) = true then -((x % 9223372036854775808 : Nat) : Int) else ((x % 9223372036854775808 : Nat) : Int)) := by
  have e : (x / 9223372036854775808 % 2 == 1) = decide (9223372036854775808 ≤ x) := by rw [Bool.eq_iff_iff]; simp; omega
  rw [e]
  unfold rk
  by_cases h : x < 9223372036854775808
  · rw [if_pos h, if_neg (by simp; omega)]; omega
  · rw [if_neg h, if_pos (by simp; omega)]; omega
theorem signs_lt (s t : Bool) (A B b c : Nat) (h1 : A < B ↔ b < c) (h2 : A = B ↔ b = c) (hA : A = 0 ↔ b = 0) (hB : B = 0 ↔ c = 0) :
    ((if s = true then -(A : Int) else (A : Int)) < (if t = true then -(B : Int) else (B : Int))) ↔ ((if s = true then -(b : Int) else (b : Int)) < (if t = true then -(c : Int) else (c : Int))) := by
  cases s <;> cases t <;> simp only [if_true, if_false, Bool.false_eq_true] <;> omega
theorem pow_zero_iff (m i : Nat) : m * 2 ^ i = 0 ↔ m = 0 := by
  constructor
  · intro h
    rcases Nat.mul_eq_zero.1 h with z | z
    · exact z
    · exact absurd z (Nat.ne_of_gt (Nat.two_pow_pos _))
  · intro h; rw [h, Nat.zero_mul]
theorem order_lt (x y : Nat) (hx : x < 18446744073709551616) (hy : y < 18446744073709551616) (nx : isNan x = false) (ny : isNan y = false) : double.order x y = some .lt ↔ rk x < rk y := by
  rw [rk_form x hx, rk_form y hy]
  unfold isNan at nx ny
  have nx' := of_decide_eq_false nx
  have ny' := of_decide_eq_false ny
  unfold Format.order
  by_cases h1 : x % 9223372036854775808 < 9218868437227405312
  · rw [read_fin x h1]
    by_cases h2 : y % 9223372036854775808 < 9218868437227405312
    · rw [read_fin y h2]
      simp only [Datum.order, Option.some.injEq]
      rw [cmp_int_lt, signed_form, signed_form]
      exact signs_lt _ _ _ _ _ _ (me_lt _ _) (me_eq _ _) ((pow_zero_iff _ _).trans (mB_zero _)) ((pow_zero_iff _ _).trans (mB_zero _))
    · rw [read_double y, if_neg (by omega), if_neg h2, if_pos (by omega)]
      simp only [Datum.order, Option.some.injEq]
      generalize (x / 9223372036854775808 % 2 == 1) = s
      generalize (y / 9223372036854775808 % 2 == 1) = t
      cases s <;> cases t <;> simp <;> omega
  · rw [read_double x, if_neg (by omega), if_neg h1, if_pos (by omega)]
    by_cases h2 : y % 9223372036854775808 < 9218868437227405312
    · rw [read_fin y h2]
      simp only [Datum.order, Option.some.injEq]
      generalize (x / 9223372036854775808 % 2 == 1) = s
      generalize (y / 9223372036854775808 % 2 == 1) = t
      cases s <;> cases t <;> simp <;> omega
    · rw [read_double y, if_neg (by omega), if_neg h2, if_pos (by omega)]
      have e1 : x % 9223372036854775808 = 9218868437227405312 := by omega
      have e2 : y % 9223372036854775808 = 9218868437227405312 := by omega
      rw [e1, e2]
      generalize (x / 9223372036854775808 % 2 == 1) = s
      generalize (y / 9223372036854775808 % 2 == 1) = t
      simp only [Datum.order, Option.some.injEq]
      cases s <;> cases t <;> decide
theorem order_some (x y : Nat) (nx : isNan x = false) (ny : isNan y = false) : double.order x y ≠ none := fun h => by
  rcases (order_none x y).1 h with e | e
  · rw [nx] at e; cases e
  · rw [ny] at e; cases e
end
/-- Floats are ranked as their ranks are. -/
theorem rankF_rnk (f g : Int) (f0 : 0 ≤ f) (f1 : f ≤ 18446744073709551615) (g0 : 0 ≤ g) (g1 : g ≤ 18446744073709551615) : rankF f g = if isNan f.toNat = true ∨ isNan g.toNat = true then (0, false) else rankP (rnk f) (rnk g) := by
  have e : ∀ z : Int, 0 ≤ z → rnk z = rk z.toNat := fun z hz => by unfold rnk rk; split <;> split <;> omega
  rw [e f f0, e g g0]
  unfold rankF
  show (match Ieee.double.order f.toNat g.toNat with | some .lt => _ | some .gt => _ | some .eq => _ | none => _) = _
  by_cases hn : isNan f.toNat = true ∨ isNan g.toNat = true
  · rw [if_pos hn, (order_none _ _).2 hn]
  · rw [if_neg hn]
    have nx : isNan f.toNat = false := by cases h : isNan f.toNat with | false => rfl | true => exact absurd (.inl h) hn
    have ny : isNan g.toNat = false := by cases h : isNan g.toNat with | false => rfl | true => exact absurd (.inr h) hn
    have h1 := order_lt f.toNat g.toNat (by omega) (by omega) nx ny
    have h2 := order_eq f.toNat g.toNat (by omega) (by omega) nx ny
    have h3 := order_some f.toNat g.toNat nx ny
    unfold rankP rankI
    rcases hq : Ieee.double.order f.toNat g.toNat with _ | (_ | _ | _)
    · exact absurd hq h3
    · rw [if_pos (h1.1 hq)]
    · have a2 := h2.1 hq
      rw [if_neg (by omega), if_neg (by omega)]
    · have a1 : ¬ rk f.toNat < rk g.toNat := fun h => by rw [h1.2 h] at hq; cases hq
      have a2 : ¬ rk f.toNat = rk g.toNat := fun h => by rw [h2.2 h] at hq; cases hq
      rw [if_neg a1, if_pos (by omega)]
end Go.Proofs.YtnhbpcmiolkllabDoor
