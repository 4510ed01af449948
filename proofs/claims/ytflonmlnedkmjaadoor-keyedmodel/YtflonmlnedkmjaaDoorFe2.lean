/-
  Two floats are equal just if neither is a NaN and their ranks are (plain facts).
-/
import Derived.Test.YtflonmlnedkmjaaDoorEb2
namespace Go.Proofs.YtflonmlnedkmjaaDoor
section
open Ieee

def eB (b : Nat) : Nat := if b < 4503599627370496 then 0 else b / 4503599627370496 - 1
def mB (b : Nat) : Nat := if b < 4503599627370496 then b else 4503599627370496 + b % 4503599627370496

theorem mB_lt (b : Nat) : mB b < 9007199254740992 := by unfold mB; split <;> omega
theorem mB_ge (b : Nat) (h : 1 ≤ eB b) : 4503599627370496 ≤ mB b := by 
  unfold eB at h; unfold mB
  by_cases hb : b < 4503599627370496
  · rw [if_pos hb] at h; omega
  · rw [if_neg hb]; omega
theorem me_inj (b c : Nat) (h1 : mB b = mB c) (h2 : eB b = eB c) : b = c := by
  unfold mB at h1; unfold eB at h2
  by_cases hb : b < 4503599627370496 <;> by_cases hc : c < 4503599627370496 <;> simp only [hb, hc, if_true, if_false] at h1 h2 <;> omega
theorem me_step (b c d : Nat) (he : eB c = eB b + d) (h : mB b = mB c * 2 ^ d) : b = c := by
  cases d with
  | zero => exact me_inj b c (by simpa using h) (by omega)
  | succ d =>
    have h1 := mB_ge c (by omega)
    have h2 := mB_lt b
    have h3 : 1 ≤ 2 ^ d := Nat.one_le_two_pow
    have h4 : mB c * 2 ^ (d + 1) = mB c * 2 ^ d * 2 := by rw [Nat.pow_succ, Nat.mul_assoc]
    have h5 : mB c * 1 ≤ mB c * 2 ^ d := Nat.mul_le_mul_left _ h3
    omega
theorem me_eq (b c : Nat) : mB b * 2 ^ ((-1074 + (eB b : Int)) - min (-1074 + (eB b : Int)) (-1074 + (eB c : Int))).toNat = mB c * 2 ^ ((-1074 + (eB c : Int)) - min (-1074 + (eB b : Int)) (-1074 + (eB c : Int))).toNat ↔ b = c := by
  constructor
  · intro h
    rcases Nat.le_total (eB b) (eB c) with hl | hl
    · rw [show ((-1074 + (eB b : Int)) - min (-1074 + (eB b : Int)) (-1074 + (eB c : Int))).toNat = 0 by omega, show ((-1074 + (eB c : Int)) - min (-1074 + (eB b : Int)) (-1074 + (eB c : Int))).toNat = eB c - eB b by omega, Nat.pow_zero, Nat.mul_one] at h
      exact me_step b c _ (by omega) h
    · rw [show ((-1074 + (eB c : Int)) - min (-1074 + (eB b : Int)) (-1074 + (eB c : Int))).toNat = 0 by omega, show ((-1074 + (eB b : Int)) - min (-1074 + (eB b : Int)) (-1074 + (eB c : Int))).toNat = eB b - eB c by omega, Nat.pow_zero, Nat.mul_one] at h
      exact (me_step c b _ (by omega) h.symm).symm
  · rintro rfl; rfl
theorem read_fin (x : Nat) (h : x % 9223372036854775808 < 9218868437227405312) : double.read x = .number (x / 9223372036854775808 % 2 == 1) (mB (x % 9223372036854775808)) (-1074 + (eB (x % 9223372036854775808) : Int)) := by
  rw [read_double]; unfold mB eB
  by_cases hb : x % 9223372036854775808 < 4503599627370496
  · simp only [hb, if_true]; rfl
  · simp only [hb, if_false, h, if_true]
theorem signed_eq (s t : Bool) (A B i j : Nat) : signed s A i = signed t B j ↔ A * 2 ^ i = B * 2 ^ j ∧ (s = t ∨ A * 2 ^ i = 0) := by
  have e : ∀ (s : Bool) (A i : Nat), signed s A i = (if s then -((A * 2 ^ i : Nat) : Int) else ((A * 2 ^ i : Nat) : Int)) := fun s A i => by unfold signed; rw [Nat.shiftLeft_eq]
  rw [e, e]
  generalize A * 2 ^ i = a
  generalize B * 2 ^ j = b
  cases s <;> cases t <;> simp only [if_true, if_false, Bool.false_eq_true] <;> simp <;> omega
theorem cmp_int (a b : Int) : compare a b = .eq ↔ a = b := by
  simp only [compare, compareOfLessAndEq]
  by_cases h1 : a < b
  · simp [h1]; omega
  · by_cases h2 : a = b
    · simp [h2]
    · simp [h1, h2]
def rk (x : Nat) : Int := if x < 9223372036854775808 then x else 9223372036854775808 - x
theorem rk_eq (x y : Nat) (hx : x < 18446744073709551616) (hy : y < 18446744073709551616) : rk x = rk y ↔ x % 9223372036854775808 = y % 9223372036854775808 ∧ ((x / 9223372036854775808 % 2 == 1) = (y / 9223372036854775808 % 2 == 1) ∨ x % 9223372036854775808 = 0) := by
  have e : ∀ z : Nat, z < 18446744073709551616 → (z / 9223372036854775808 % 2 == 1) = decide (9223372036854775808 ≤ z) := fun z hz => by
    rw [Bool.eq_iff_iff]; simp; omega
  rw [e x hx, e y hy, decide_eq_decide]
  unfold rk
  by_cases h1 : x < 9223372036854775808 <;> by_cases h2 : y < 9223372036854775808 <;> simp only [h1, h2, if_true, if_false] <;> omega
theorem order_eq (x y : Nat) (hx : x < 18446744073709551616) (hy : y < 18446744073709551616) (nx : isNan x = false) (ny : isNan y = false) : double.order x y = some .eq ↔ rk x = rk y := by
  rw [rk_eq x y hx hy]
  unfold isNan at nx ny
  have nx' := of_decide_eq_false nx
  have ny' := of_decide_eq_false ny
  unfold Format.order
  by_cases h1 : x % 9223372036854775808 < 9218868437227405312
  · rw [read_fin x h1]
    by_cases h2 : y % 9223372036854775808 < 9218868437227405312
    · rw [read_fin y h2]
      simp only [Datum.order, Option.some.injEq]
      rw [cmp_int, signed_eq, me_eq]
      constructor
      · rintro ⟨e, q⟩
        refine ⟨e, q.imp id fun z => ?_⟩
        rcases Nat.mul_eq_zero.1 z with z | z
        · unfold mB at z; split at z <;> omega
        · exact absurd z (Nat.ne_of_gt (Nat.two_pow_pos _))
      · rintro ⟨e, q⟩
        refine ⟨e, q.imp id fun z => ?_⟩
        rw [z]; simp [mB]
    · rw [read_double y, if_neg (by omega), if_neg h2, if_pos (by omega)]
      simp only [Datum.order]
      constructor
      · intro h; split at h <;> cases h
      · rintro ⟨e, _⟩; omega
  · rw [read_double x, if_neg (by omega), if_neg h1, if_pos (by omega)]
    by_cases h2 : y % 9223372036854775808 < 9218868437227405312
    · rw [read_fin y h2]
      simp only [Datum.order]
      constructor
      · intro h; split at h <;> cases h
      · rintro ⟨e, _⟩; omega
    · rw [read_double y, if_neg (by omega), if_neg h2, if_pos (by omega)]
      generalize (x / 9223372036854775808 % 2 == 1) = s
      generalize (y / 9223372036854775808 % 2 == 1) = t
      simp only [Datum.order, Option.some.injEq]
      constructor
      · intro h; refine ⟨by omega, .inl ?_⟩; revert h; cases s <;> cases t <;> decide
      · rintro ⟨e, h⟩
        rcases h with rfl | h
        · cases s <;> decide
        · omega
end
def rnk (f : Int) : Int := if f < 9223372036854775808 then f else 9223372036854775808 - f
theorem feq_rank (f g : Int) (f0 : 0 ≤ f) (f1 : f ≤ 18446744073709551615) (g0 : 0 ≤ g) (g1 : g ≤ 18446744073709551615) : feq f g = (!isNan f.toNat && !isNan g.toNat && decide (rnk f = rnk g)) := by
  have e : ∀ z : Int, 0 ≤ z → rnk z = rk z.toNat := fun z hz => by unfold rnk rk; split <;> split <;> omega
  rw [e f f0, e g g0]
  show (Ieee.double.order f.toNat g.toNat == some .eq) = _
  by_cases nx : isNan f.toNat = true
  · rw [(order_none f.toNat g.toNat).2 (.inl nx), nx]; rfl
  · by_cases ny : isNan g.toNat = true
    · rw [(order_none f.toNat g.toNat).2 (.inr ny), ny]; simp
    · have h := order_eq f.toNat g.toNat (by omega) (by omega) (by simpa using nx) (by simpa using ny)
      rw [Bool.not_eq_true] at nx ny
      rw [nx, ny, Bool.eq_iff_iff]
      simp [h]
end Go.Proofs.YtflonmlnedkmjaaDoor
