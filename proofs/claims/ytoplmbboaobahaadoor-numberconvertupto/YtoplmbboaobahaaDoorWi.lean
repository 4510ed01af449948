/-
  A float made an int: number's answer is the whole part by its bits.
-/
import Derived.Test.YtoplmbboaobahaaDoorWh
namespace Go.Proofs.YtoplmbboaobahaaDoor
section
open Ieee

theorem toInt_num (g : Bool) (m : Nat) (i : Int) : (Datum.number g m i).toInt .zero = some (signed g ((m <<< i.toNat) / 2 ^ (-i).toNat) 0) := by
  simp only [Datum.toInt, Datum.integral, cutz]

theorem sgn0 (g : Bool) (x : Nat) : signed g x 0 = if g then -(x : Int) else (x : Int) := by unfold signed; simp

theorem shl_mono (k : Nat) : 9007199254740992 ≤ 4503599627370496 <<< (1 + k) := by
  rw [Nat.shiftLeft_eq, Nat.pow_add]
  have := Nat.one_le_two_pow (n := k)
  have h2 : 4503599627370496 * (2 ^ 1 * 1) ≤ 4503599627370496 * (2 ^ 1 * 2 ^ k) := Nat.mul_le_mul_left _ (Nat.mul_le_mul_left _ this)
  omega

theorem sgnT (m q : Nat) : signed true m q = -((m <<< q : Nat) : Int) := rfl
theorem sgnF (m q : Nat) : signed false m q = ((m <<< q : Nat) : Int) := rfl

theorem ord_small (g : Bool) (m : Nat) (i : Int) (hm : m < 9007199254740992) (hi : i ≤ 10) :
    (Datum.number g m i).order (.number true 4503599627370496 11) = some .gt ∧ (Datum.number g m i).order (.number false 4503599627370496 11) = some .lt := by
  obtain ⟨k, hk⟩ : ∃ k : Nat, ((11 : Int) - i).toNat = 1 + k := ⟨((10 : Int) - i).toNat, by omega⟩
  have hb := shl_mono k
  have hs0 : signed g m (0 : Int).toNat = if g then -(m : Int) else (m : Int) := sgn0 g m
  simp only [Datum.order, Option.some.injEq]
  rw [Int.min_eq_left (by omega : i ≤ 11), Int.sub_self, hk, hs0]
  have hr : signed true 4503599627370496 (1 + k) = -((4503599627370496 <<< (1 + k) : Nat) : Int) := rfl
  have hr2 : signed false 4503599627370496 (1 + k) = ((4503599627370496 <<< (1 + k) : Nat) : Int) := rfl
  rw [hr, hr2]
  generalize 4503599627370496 <<< (1 + k) = X at hb
  simp only [compare, compareOfLessAndEq]
  cases g
  · simp only [Bool.false_eq_true, ↓reduceIte]
    exact ⟨by rw [if_neg (by omega), if_neg (by omega)], by rw [if_pos (by omega)]⟩
  · simp only [↓reduceIte]
    exact ⟨by rw [if_neg (by omega), if_neg (by omega)], by rw [if_pos (by omega)]⟩

theorem ord_big (g : Bool) (m : Nat) (i : Int) (hi : 11 ≤ i) :
    (Datum.number g m i).order (.number true 4503599627370496 11) = some (compare (signed g m (i - 11).toNat) (-4503599627370496)) ∧ (Datum.number g m i).order (.number false 4503599627370496 11) = some (compare (signed g m (i - 11).toNat) 4503599627370496) := by
  simp only [Datum.order]
  rw [Int.min_eq_right (by omega : (11 : Int) ≤ i), Int.sub_self]
  exact ⟨rfl, rfl⟩

/-- The two that a float is held against. -/
def cLo (f : Nat) : Bool := (double.order f 14114281232179134464 == some .gt || double.order f 14114281232179134464 == some .eq)
def cHi (f : Nat) : Bool := double.order f 4890909195324358656 == some .lt

theorem rlo : double.read 14114281232179134464 = .number true 4503599627370496 11 := by decide
theorem rhi : double.read 4890909195324358656 = .number false 4503599627370496 11 := by decide

theorem mn : IntKind.i64.min = -9223372036854775808 := by decide
theorem mx : IntKind.i64.max = 9223372036854775807 := by decide

theorem toVal (f : Nat) (n : Int) (h : (double.read f).toInt .zero = some n) (h0 : -9223372036854775808 ≤ n) (h1 : n ≤ 9223372036854775807) : floatToIntVal .f64 f .i64 = some n := by
  unfold floatToIntVal
  have : (FloatKind.f64.decode f).toInt .zero = some n := h
  rw [this]
  simp only
  rw [if_pos ⟨by rw [mn]; omega, by rw [mx]; omega⟩]

theorem whole_cases (f : Nat) (hf : f < 18446744073709551616) : (cLo f = true ∧ cHi f = true ∧ floatToIntVal .f64 f .i64 = some (wv f)) ∨ ((cLo f && cHi f) = false ∧ wv f = -9223372036854775808) := by
  have hrd := read_double f
  have hE : eW f = f % 9223372036854775808 / 4503599627370496 := by unfold eW; omega
  have hM : mW f = f % 9223372036854775808 % 4503599627370496 + 4503599627370496 := by unfold mW; omega
  have hS : (f / 9223372036854775808 % 2 == 1) = decide (f / 9223372036854775808 = 1) := by rw [Bool.eq_iff_iff]; simp; omega
  have hm53 : mW f < 9007199254740992 := by unfold mW; omega
  rw [hS] at hrd
  obtain ⟨g, hg⟩ : ∃ g, g = decide (f / 9223372036854775808 = 1) := ⟨_, rfl⟩
  rw [← hg] at hrd
  have ho1 : double.order f 14114281232179134464 = (double.read f).order (.number true 4503599627370496 11) := by rw [← rlo]; rfl
  have ho2 : double.order f 4890909195324358656 = (double.read f).order (.number false 4503599627370496 11) := by rw [← rhi]; rfl
  have hsg : ∀ x : Nat, (if f / 9223372036854775808 = 1 then -(x : Int) else (x : Int)) = signed g x 0 := fun x => by rw [sgn0, hg]; simp
  by_cases h0 : f % 9223372036854775808 < 4503599627370496
  · -- the small ones
    rw [if_pos h0] at hrd
    have hE0 : eW f = 0 := by omega
    have hm0 : magW f = 0 := by
      unfold magW; rw [if_pos (by omega)]
      have hp : 2 ^ 53 ≤ 2 ^ (1075 - eW f) := Nat.pow_le_pow_right (by decide) (by omega)
      exact Nat.div_eq_of_lt (Nat.lt_of_lt_of_le hm53 hp)
    have hw : wv f = 0 := by unfold wv; rw [if_neg (by omega), hm0]; simp
    obtain ⟨o1, o2⟩ := ord_small g (f % 9223372036854775808) (-1074) (by omega) (by omega)
    refine .inl ⟨?_, ?_, ?_⟩
    · unfold cLo; rw [ho1, hrd, o1]; rfl
    · unfold cHi; rw [ho2, hrd, o2]; rfl
    · rw [hw]
      refine toVal f 0 ?_ (by omega) (by omega)
      rw [hrd, toInt_num]
      obtain ⟨K, hK, hK2⟩ : ∃ K : Nat, (-(-1074 : Int)).toNat = K ∧ 52 ≤ K := ⟨_, rfl, by decide⟩
      have hp : 2 ^ 52 ≤ 2 ^ K := Nat.pow_le_pow_right (by decide) hK2
      rw [hK, show ((-1074 : Int)).toNat = 0 by decide, Nat.shiftLeft_zero, Nat.div_eq_of_lt (Nat.lt_of_lt_of_le h0 hp), sgn0]
      cases g <;> rfl
  · rw [if_neg h0] at hrd
    by_cases h1 : f % 9223372036854775808 < 9218868437227405312
    · rw [if_pos h1] at hrd
      have hi : (-1074 : Int) + ((f % 9223372036854775808 / 4503599627370496 - 1 : Nat) : Int) = (eW f : Int) - 1075 := by omega
      have hmm : 4503599627370496 + f % 9223372036854775808 % 4503599627370496 = mW f := by omega
      rw [hi, hmm] at hrd
      by_cases h10 : eW f ≤ 1085
      · obtain ⟨o1, o2⟩ := ord_small g (mW f) ((eW f : Int) - 1075) hm53 (by omega)
        have hmag : (mW f <<< ((eW f : Int) - 1075).toNat) / 2 ^ (-((eW f : Int) - 1075)).toNat = magW f := by
          unfold magW
          by_cases hle : eW f ≤ 1075
          · rw [if_pos hle, show ((eW f : Int) - 1075).toNat = 0 by omega, show (-((eW f : Int) - 1075)).toNat = 1075 - eW f by omega, Nat.shiftLeft_zero]
          · rw [if_neg hle, show ((eW f : Int) - 1075).toNat = eW f - 1075 by omega, show (-((eW f : Int) - 1075)).toNat = 0 by omega, Nat.shiftLeft_eq]; simp
        have hlt : magW f < 9223372036854775808 := by
          unfold magW
          split
          · exact Nat.lt_of_le_of_lt (Nat.div_le_self _ _) (by omega)
          · have h2 : 2 ^ (eW f - 1075) ≤ 2 ^ 10 := Nat.pow_le_pow_right (by decide) (by omega)
            have h3 : mW f * 2 ^ (eW f - 1075) ≤ mW f * 2 ^ 10 := Nat.mul_le_mul_left _ h2
            omega
        have hw : wv f = signed g (magW f) 0 := by unfold wv; rw [if_neg (by omega), hsg]
        refine .inl ⟨?_, ?_, ?_⟩
        · unfold cLo; rw [ho1, hrd, o1]; rfl
        · unfold cHi; rw [ho2, hrd, o2]; rfl
        · rw [hw]
          refine toVal f _ ?_ ?_ ?_
          · rw [hrd, toInt_num, hmag]
          · rw [sgn0]; cases g <;> simp <;> omega
          · rw [sgn0]; cases g <;> simp <;> omega
      · obtain ⟨o1, o2⟩ := ord_big g (mW f) ((eW f : Int) - 1075) (by omega)
        have hs : ((eW f : Int) - 1075 - 11).toNat = eW f - 1086 := by omega
        rw [hs] at o1 o2
        have hX : 4503599627370496 ≤ mW f <<< (eW f - 1086) := by
          rw [Nat.shiftLeft_eq]
          have h1 : mW f * 1 ≤ mW f * 2 ^ (eW f - 1086) := Nat.mul_le_mul_left _ Nat.one_le_two_pow
          omega
        have hw : wv f = -9223372036854775808 := by
          unfold wv
          by_cases hE2 : 1086 < eW f
          · rw [if_pos (.inr (.inl hE2))]
          · have he : eW f = 1086 := by omega
            have : 9223372036854775808 ≤ magW f := by unfold magW; rw [if_neg (by omega), he]; omega
            rw [if_pos (.inr (.inr this))]
        cases g
        · refine .inr ⟨?_, hw⟩
          have : cHi f = false := by
            unfold cHi; rw [ho2, hrd, o2]
            rw [sgnF]
            generalize mW f <<< (eW f - 1086) = X at hX
            simp only [compare, compareOfLessAndEq]
            rw [if_neg (by omega)]
            split <;> rfl
          rw [this, Bool.and_false]
        · rw [sgnT] at o1 o2
          by_cases heq : mW f <<< (eW f - 1086) = 4503599627370496
          · refine .inl ⟨?_, ?_, ?_⟩
            · unfold cLo; rw [ho1, hrd, o1, heq]; simp [compare, compareOfLessAndEq]
            · unfold cHi; rw [ho2, hrd, o2, heq]; simp [compare, compareOfLessAndEq]
            · have he : eW f = 1086 := by
                rcases Nat.lt_or_ge 1086 (eW f) with h2 | h2
                · exfalso
                  rw [Nat.shiftLeft_eq, show eW f - 1086 = (eW f - 1087) + 1 by omega, Nat.pow_succ] at heq
                  have h1 : mW f * (1 * 2) ≤ mW f * (2 ^ (eW f - 1087) * 2) := Nat.mul_le_mul_left _ (Nat.mul_le_mul_right _ Nat.one_le_two_pow)
                  omega
                · omega
              have hme : mW f = 4503599627370496 := by rw [he] at heq; simpa using heq
              rw [hw]
              refine toVal f _ ?_ (by omega) (by omega)
              rw [hrd, toInt_num, he, hme, show (((1086 : Nat) : Int) - 1075).toNat = 11 by omega, show (-(((1086 : Nat) : Int) - 1075)).toNat = 0 by omega, Nat.shiftLeft_eq, Nat.pow_zero, Nat.div_one, sgn0]
              simp
          · refine .inr ⟨?_, hw⟩
            have : cLo f = false := by
              unfold cLo; rw [ho1, hrd, o1]
              generalize mW f <<< (eW f - 1086) = X at hX heq
              simp only [compare, compareOfLessAndEq]
              rw [if_pos (by omega)]
              rfl
            rw [this, Bool.false_and]
    · rw [if_neg h1] at hrd
      have hE2 : eW f = 2047 := by omega
      have hw : wv f = -9223372036854775808 := by unfold wv; rw [if_pos (.inl hE2)]
      refine .inr ⟨?_, hw⟩
      by_cases h2 : f % 9223372036854775808 = 9218868437227405312
      · rw [if_pos h2] at hrd
        cases g
        · have : cHi f = false := by unfold cHi; rw [ho2, hrd]; rfl
          rw [this, Bool.and_false]
        · have : cLo f = false := by unfold cLo; rw [ho1, hrd]; rfl
          rw [this, Bool.false_and]
      · rw [if_neg h2] at hrd
        have : cLo f = false := by unfold cLo; rw [ho1, hrd]; rfl
        rw [this, Bool.false_and]
end
open Go.RowKit

set_option maxRecDepth 100000 in
set_option maxHeartbeats 1000000 in
theorem whole_float (f : Nat) (w : World) (hf : f < 18446744073709551616) : Calls Tryd.prog 55 #[.float .f64 f] w fun r w' => r = .returned (.int .i64 (wv f)) ∧ w' = w := by
  rcases whole_cases f hf with ⟨h1, h2, h3⟩ | ⟨h1, h2⟩
  · have h4 : ∀ W : World, (convert 83 3 (.float .f64 f)).run Tryd.prog W = .ok (.int .i64 (wv f)) W := fun W => run_convert_float_int W 83 3 .f64 .i64 _ _ (by rw [Tryd.underlying83]; rfl) Tryd.underlying3 h3
    have k1 : (FloatKind.f64.format.order f 14114281232179134464 == some .gt || FloatKind.f64.format.order f 14114281232179134464 == some .eq) = true := h1
    have k2 : (FloatKind.f64.format.order f 4890909195324358656 == some .lt) = true := h2
    clear h1 h2 h3
    go_enter Tryd.func55, Tryd.ntmps55
    go_wp2
    go_ret
    exact ⟨rfl, rfl⟩
  · rw [h2]
    cases h3 : cLo f
    · have k1 : (FloatKind.f64.format.order f 14114281232179134464 == some .gt || FloatKind.f64.format.order f 14114281232179134464 == some .eq) = false := h3
      clear h1 h2 h3
      go_enter Tryd.func55, Tryd.ntmps55
      go_wp2
      go_ret
      exact ⟨rfl, rfl⟩
    · have k1 : (FloatKind.f64.format.order f 14114281232179134464 == some .gt || FloatKind.f64.format.order f 14114281232179134464 == some .eq) = true := h3
      have k2 : (FloatKind.f64.format.order f 4890909195324358656 == some .lt) = false := by rw [h3, Bool.true_and] at h1; exact h1
      clear h1 h2 h3
      go_enter Tryd.func55, Tryd.ntmps55
      go_wp2
      go_ret
      exact ⟨rfl, rfl⟩
end Go.Proofs.YtoplmbboaobahaaDoor
