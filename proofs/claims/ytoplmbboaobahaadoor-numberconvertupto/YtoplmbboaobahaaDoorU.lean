/-
  Floats by their bits; the walks of isNaN, floatOf, whole, and of Convert between ints and floats.
-/
import Derived.Test.YtoplmbboaobahaaDoorH
import Derived.Laws.BitsAllLaws
namespace Go.Proofs.YtoplmbboaobahaaDoor
section
open Ieee

/-- Is it a NaN, by its bits? -/
def isNan (x : Nat) : Bool := decide (9218868437227405312 < x % 9223372036854775808)

theorem read_double (x : Nat) : double.read x =
    if x % 9223372036854775808 < 4503599627370496 then .number (x / 9223372036854775808 % 2 == 1) (x % 9223372036854775808) (-1074)
    else if x % 9223372036854775808 < 9218868437227405312 then
      .number (x / 9223372036854775808 % 2 == 1) (4503599627370496 + x % 9223372036854775808 % 4503599627370496) (-1074 + (x % 9223372036854775808 / 4503599627370496 - 1 : Nat))
    else if x % 9223372036854775808 = 9218868437227405312 then .infinity (x / 9223372036854775808 % 2 == 1)
    else .nan (x / 9223372036854775808 % 2 == 1) (x % 9223372036854775808 - 9218868437227405312) := rfl

theorem read_isNan (x : Nat) : (double.read x).isNaN = isNan x := by
  rw [read_double]; unfold isNan
  split
  · simp [Datum.isNaN]; omega
  · split
    · simp [Datum.isNaN]; omega
    · split
      · simp [Datum.isNaN]; omega
      · simp [Datum.isNaN]; omega

theorem compare_swap_int (a b : Int) : compare b a = (compare a b).swap := by
  simp only [compare, compareOfLessAndEq]
  by_cases h1 : a < b
  · have : ¬ b < a := by omega
    have h3 : ¬ b = a := by omega
    simp [h1, this, h3]
  · by_cases h2 : a = b
    · subst h2; simp
    · have : b < a := by omega
      simp [h1, h2, this]

theorem order_swap_datum (d e : Datum) : e.order d = (d.order e).map Ordering.swap := by
  cases d with
  | nan s f => cases e <;> rfl
  | infinity s =>
    cases e with
    | nan => rfl
    | infinity t => cases s <;> cases t <;> rfl
    | number t n j => cases s <;> rfl
  | number s m i =>
    cases e with
    | nan => rfl
    | infinity t => cases t <;> rfl
    | number t n j =>
      simp only [Datum.order, Option.map_some, Option.some.injEq]
      rw [Int.min_comm j i]
      exact compare_swap_int _ _

theorem order_none_datum (d e : Datum) : d.order e = none ↔ d.isNaN = true ∨ e.isNaN = true := by
  cases d <;> cases e <;> simp [Datum.order, Datum.isNaN]

theorem order_swap (x y : Nat) : double.order y x = (double.order x y).map Ordering.swap := order_swap_datum _ _

theorem order_none (x y : Nat) : double.order x y = none ↔ isNan x = true ∨ isNan y = true := by
  rw [← read_isNan, ← read_isNan]; exact order_none_datum _ _

theorem cut0 (way : Toward) (neg : Bool) (n : Nat) : way.cut neg n 0 = n := by
  cases way <;> simp [Toward.cut, Nat.mod_one]

theorem cutz (neg : Bool) (n drop : Nat) : Toward.zero.cut neg n drop = n / 2 ^ drop := by
  simp only [Toward.cut, Bool.toNat_false, Nat.add_zero, Nat.one_shiftLeft]
  by_cases h : drop ≤ n.log2 + 2
  · rw [Nat.min_eq_left h]
  · rw [Nat.min_eq_right (by omega)]
    have h1 : n < 2 ^ (n.log2 + 2) := Nat.lt_of_lt_of_le Nat.lt_log2_self (Nat.pow_le_pow_right (by decide) (by omega))
    have h2 : n < 2 ^ drop := Nat.lt_of_lt_of_le h1 (Nat.pow_le_pow_right (by decide) (by omega))
    rw [Nat.div_eq_of_lt h1, Nat.div_eq_of_lt h2]

/-- The rung of a whole number of at most 53 bits. -/
theorem nearest_small (neg : Bool) (m : Nat) (h0 : m ≠ 0) (h : m < 9007199254740992) :
    ∃ r L, L = m.log2 ∧ L ≤ 52 ∧ r < 4503599627370496 ∧ 4503599627370496 + r = m * 2 ^ (52 - L) ∧ double.nearest neg m 0 = double.word neg ((L + 1023) * 4503599627370496 + r) := by
  have hL : m.log2 ≤ 52 := by
    have := (Nat.log2_lt h0 (k := 53)).2 h
    omega
  have hlo : 2 ^ m.log2 ≤ m := Nat.log2_self_le h0
  have hhi : m < 2 ^ (m.log2 + 1) := Nat.lt_log2_self
  obtain ⟨L, eL⟩ : ∃ L, L = m.log2 := ⟨_, rfl⟩
  rw [← eL] at hL hlo hhi
  have e52 : (4503599627370496 : Nat) = 2 ^ L * 2 ^ (52 - L) := by rw [← Nat.pow_add, show L + (52 - L) = 52 by omega]
  have k1 : 4503599627370496 ≤ m * 2 ^ (52 - L) := by rw [e52]; exact Nat.mul_le_mul_right _ hlo
  have k2 : m * 2 ^ (52 - L) < 9007199254740992 := by
    have : (9007199254740992 : Nat) = 2 ^ (L + 1) * 2 ^ (52 - L) := by rw [← Nat.pow_add, show L + 1 + (52 - L) = 53 by omega]
    rw [this]; exact Nat.mul_lt_mul_of_pos_right hhi (Nat.two_pow_pos _)
  refine ⟨m * 2 ^ (52 - L) - 4503599627370496, L, eL, hL, by omega, by omega, ?_⟩
  unfold Format.nearest
  rw [if_neg h0, ← eL]
  have hmax : max ((0 : Int) + (L : Int) - (double.fractionBits : Int)) double.leastPlace = (L : Int) - 52 := by
    have a : (double.fractionBits : Int) = 52 := rfl
    have b : double.leastPlace = -1074 := by decide
    rw [a, b]; omega
  dsimp only
  rw [hmax]
  have b : double.leastPlace = -1074 := by decide
  have c : double.binade = 4503599627370496 := by decide
  have d : double.infRung = 9218868437227405312 := by decide
  rw [b, c, d]
  have e1 : ((0 : Int) - ((L : Int) - 52)).toNat = 52 - L := by omega
  have e2 : (((L : Int) - 52) - 0).toNat = 0 := by omega
  have e3 : ((L : Int) - 52 - -1074).toNat = L + 1022 := by omega
  rw [e1, e2, e3, cut0, Nat.shiftLeft_eq]
  obtain ⟨X, hX⟩ : ∃ X, X = m * 2 ^ (52 - L) := ⟨_, rfl⟩
  rw [← hX] at k1 k2 ⊢
  have e4 : (L + 1022) * 4503599627370496 + X = (L + 1023) * 4503599627370496 + (X - 4503599627370496) := by omega
  have e5 : (L + 1022) * 4503599627370496 + X ≤ 9218868437227405312 := by omega
  rw [Nat.min_eq_left e5, e4]

/-- An int of at most 53 bits is the same behind float and back. -/
theorem back53 (n : Int) (h : n.natAbs < 9007199254740992) : floatToIntVal .f64 (floatOfInt .f64 n) .i64 = some n := by
  have key : (double.read (double.nearest (decide (n < 0)) n.natAbs 0)).toInt .zero = some n := by
    by_cases h0 : n.natAbs = 0
    · have : n = 0 := by omega
      subst this; decide
    · obtain ⟨r, L, eL, hL, hr, hk, hn⟩ := nearest_small (decide (n < 0)) n.natAbs h0 h
      rw [hn]
      have hw : ∀ (b : Bool), double.word b ((L + 1023) * 4503599627370496 + r) = (if b then 9223372036854775808 else 0) + ((L + 1023) * 4503599627370496 + r) := by
        intro b; cases b
        · simp [Format.word]
        · have e : double.signWeight = 9223372036854775808 := by decide
          simp only [Format.word, ↓reduceIte, e]
      have hread : double.read (double.word (decide (n < 0)) ((L + 1023) * 4503599627370496 + r)) = .number (decide (n < 0)) (4503599627370496 + r) ((L : Int) - 52) := by
        rw [hw, read_double]
        cases decide (n < 0)
        · simp only [Bool.false_eq_true, ↓reduceIte, Nat.zero_add]
          have a1 : ((L + 1023) * 4503599627370496 + r) % 9223372036854775808 = (L + 1023) * 4503599627370496 + r := by omega
          have a2 : ((L + 1023) * 4503599627370496 + r) / 9223372036854775808 = 0 := by omega
          have a3 : ((L + 1023) * 4503599627370496 + r) % 4503599627370496 = r := by omega
          have a4 : ((L + 1023) * 4503599627370496 + r) / 4503599627370496 = L + 1023 := by omega
          have a5 : (-1074 : Int) + ((L + 1023 - 1 : Nat) : Int) = (L : Int) - 52 := by omega
          rw [a1, a2, a3, a4, if_neg (by omega), if_pos (by omega), a5]
          rfl
        · simp only [↓reduceIte]
          obtain ⟨R, hR⟩ : ∃ R, R = (L + 1023) * 4503599627370496 + r := ⟨_, rfl⟩
          rw [← hR]
          have hRl : R < 9223372036854775808 := by omega
          have a1 : (9223372036854775808 + R) % 9223372036854775808 = R := by rw [Nat.add_mod_left, Nat.mod_eq_of_lt hRl]
          have a2 : (9223372036854775808 + R) / 9223372036854775808 = 1 := by rw [Nat.add_div_left _ (by decide), Nat.div_eq_of_lt hRl]
          have a3 : R % 4503599627370496 = r := by omega
          have a4 : R / 4503599627370496 = L + 1023 := by omega
          have a5 : (-1074 : Int) + ((L + 1023 - 1 : Nat) : Int) = (L : Int) - 52 := by omega
          rw [a1, a2, a3, a4, if_neg (by omega), if_pos (by omega), a5]
          rfl
      rw [hread]
      simp only [Datum.toInt, Datum.integral, cutz]
      have e1 : ((L : Int) - 52).toNat = 0 := by omega
      have e2 : (-((L : Int) - 52)).toNat = 52 - L := by omega
      rw [e1, e2, Nat.shiftLeft_zero, hk, Nat.mul_div_cancel _ (Nat.two_pow_pos _)]
      simp only [signed, Nat.shiftLeft_zero, Option.some.injEq]
      split <;> simp_all <;> omega
  unfold floatToIntVal
  have : (FloatKind.f64.decode (floatOfInt .f64 n)).toInt .zero = some n := key
  rw [this]
  simp only
  have m1 : IntKind.i64.min = -9223372036854775808 := by decide
  have m2 : IntKind.i64.max = 9223372036854775807 := by decide
  rw [if_pos ⟨by rw [m1]; omega, by rw [m2]; omega⟩]

/-- A float that tells an int of at most 53 bits lies between the ints' bounds, and is no NaN. -/
theorem read53 (n : Int) (h : n.natAbs < 9007199254740992) : ∃ g m i, double.read (floatOfInt .f64 n) = .number g m i ∧ m < 9007199254740992 ∧ -1074 ≤ i ∧ i ≤ 0 := by
  by_cases h0 : n.natAbs = 0
  · obtain rfl : n = 0 := by omega
    exact ⟨false, 0, -1074, by decide, by decide, by decide, by decide⟩
  · obtain ⟨r, L, eL, hL, hr, hk, hn⟩ := nearest_small (decide (n < 0)) n.natAbs h0 h
    have hf : floatOfInt .f64 n = double.word (decide (n < 0)) ((L + 1023) * 4503599627370496 + r) := hn
    have hw : ∀ (b : Bool), double.word b ((L + 1023) * 4503599627370496 + r) = (if b then 9223372036854775808 else 0) + ((L + 1023) * 4503599627370496 + r) := by
      intro b; cases b
      · simp [Format.word]
      · have e : double.signWeight = 9223372036854775808 := by decide
        simp only [Format.word, ↓reduceIte, e]
    rw [hf, hw]
    obtain ⟨R, hR⟩ : ∃ R, R = (L + 1023) * 4503599627370496 + r := ⟨_, rfl⟩
    rw [← hR]
    have hRl : R < 9223372036854775808 := by omega
    have hRi : R < 9218868437227405312 := by omega
    have hRg : ¬ R < 4503599627370496 := by omega
    have a3 : R % 4503599627370496 = r := by omega
    have a4 : R / 4503599627370496 = L + 1023 := by omega
    have a0 : ∀ b : Bool, ((if b = true then 9223372036854775808 else 0) + R) % 9223372036854775808 = R := by
      intro b; cases b
      · simp only [Bool.false_eq_true, ↓reduceIte, Nat.zero_add]; exact Nat.mod_eq_of_lt hRl
      · simp only [↓reduceIte]; rw [Nat.add_mod_left, Nat.mod_eq_of_lt hRl]
    rw [read_double, a0, if_neg hRg, if_pos hRi, a3, a4]
    exact ⟨_, _, _, rfl, by omega, by omega, by omega⟩

theorem isNan53 (n : Int) (h : n.natAbs < 9007199254740992) : isNan (floatOfInt .f64 n) = false := by
  obtain ⟨g, m, i, e, _, _, _⟩ := read53 n h
  rw [← read_isNan, e]; rfl

theorem shl11 (m k : Nat) (h : m < 9007199254740992) : m < 4503599627370496 <<< (11 + k) := by
  rw [Nat.shiftLeft_eq, Nat.pow_add]
  have : 1 ≤ 2 ^ k := Nat.one_le_two_pow
  have h2 : 4503599627370496 * (2 ^ 11 * 1) ≤ 4503599627370496 * (2 ^ 11 * 2 ^ k) := Nat.mul_le_mul_left _ (Nat.mul_le_mul_left _ this)
  omega

theorem order_lo (n : Int) (h : n.natAbs < 9007199254740992) : FloatKind.f64.format.order (floatOfInt .f64 n) 14114281232179134464 = some .gt := by
  obtain ⟨g, m, i, e, hm, hi0, hi1⟩ := read53 n h
  show (double.read _).order (double.read _) = _
  rw [e, show double.read 14114281232179134464 = .number true 4503599627370496 11 by decide]
  simp only [Datum.order, Option.some.injEq]
  rw [Int.min_eq_left (by omega : i ≤ 11), Int.sub_self]
  obtain ⟨k, hk⟩ : ∃ k : Nat, ((11 : Int) - i).toNat = 11 + k := ⟨((0 : Int) - i).toNat, by omega⟩
  rw [hk]
  have hb := shl11 m k hm
  have hs : -(m : Int) ≤ signed g m (0 : Int).toNat := by unfold signed; cases g <;> simp
  have hr : signed true 4503599627370496 (11 + k) = -((4503599627370496 <<< (11 + k) : Nat) : Int) := rfl
  rw [hr]
  generalize 4503599627370496 <<< (11 + k) = X at hb
  generalize signed g m (0 : Int).toNat = Y at hs
  simp only [compare, compareOfLessAndEq]
  rw [if_neg (by omega), if_neg (by omega)]

theorem order_hi (n : Int) (h : n.natAbs < 9007199254740992) : FloatKind.f64.format.order (floatOfInt .f64 n) 4890909195324358656 = some .lt := by
  obtain ⟨g, m, i, e, hm, hi0, hi1⟩ := read53 n h
  show (double.read _).order (double.read _) = _
  rw [e, show double.read 4890909195324358656 = .number false 4503599627370496 11 by decide]
  simp only [Datum.order, Option.some.injEq]
  rw [Int.min_eq_left (by omega : i ≤ 11), Int.sub_self]
  obtain ⟨k, hk⟩ : ∃ k : Nat, ((11 : Int) - i).toNat = 11 + k := ⟨((0 : Int) - i).toNat, by omega⟩
  rw [hk]
  have hb := shl11 m k hm
  have hs : signed g m (0 : Int).toNat ≤ (m : Int) := by unfold signed; cases g <;> simp <;> omega
  have hr : signed false 4503599627370496 (11 + k) = ((4503599627370496 <<< (11 + k) : Nat) : Int) := rfl
  rw [hr]
  generalize 4503599627370496 <<< (11 + k) = X at hb
  generalize signed g m (0 : Int).toNat = Y at hs
  simp only [compare, compareOfLessAndEq]
  rw [if_pos (by omega)]
end

theorem andnot_sign (f : Int) (h0 : 0 ≤ f) (h1 : f ≤ 18446744073709551615) : bits .andNot .u64 f 9223372036854775808 = f % 9223372036854775808 := by
  obtain ⟨n, rfl⟩ : ∃ n : Nat, f = n := ⟨f.toNat, by omega⟩
  show IntKind.u64.wrap ((BitVec.ofInt 64 (n : Int) &&& ~~~ BitVec.ofInt 64 9223372036854775808).toNat : Int) = _
  have e1 : ~~~ BitVec.ofInt 64 9223372036854775808 = BitVec.ofNat 64 (2 ^ 63 - 1) := by decide
  rw [e1, BitVec.toNat_and, BitVec.toNat_ofInt, BitVec.toNat_ofNat]
  have e2 : ((n : Int) % ((2 ^ 64 : Nat) : Int)).toNat = n := by
    have : (n : Int) % ((2 ^ 64 : Nat) : Int) = n := by rw [show ((2 ^ 64 : Nat) : Int) = 18446744073709551616 by decide]; omega
    rw [this]; rfl
  rw [e2, Nat.mod_eq_of_lt (by decide : 2 ^ 63 - 1 < 2 ^ 64), Nat.and_two_pow_sub_one_eq_mod]
  have h2 : n % 2 ^ 63 < 18446744073709551616 := by omega
  simp [IntKind.wrap, IntKind.bits, IntKind.signed]
  omega

open Go.RowKit

attribute [local go_sem] refold2 cell3_0 cell3_1 b28_0 b28_01 b28_012 b28_013 b28_014 b35_01 b35_0 b35 mkI69 x56 x57

theorem isNaN_any (f : Int) (w : World) (h0 : 0 ≤ f) (h1 : f ≤ 18446744073709551615) : Calls Tryd.prog 70 #[.int .u64 f] w fun r w' => r = .returned (.bool (isNan f.toNat)) ∧ w' = w := by
  go_enter Tryd.func70, Tryd.ntmps70
  go_wp2
  have e : decide (9218868437227405312 < bits BinOp.andNot IntKind.u64 f 9223372036854775808) = isNan f.toNat := by
    rw [andnot_sign f h0 h1]; unfold isNan; apply decide_eq_decide.2; omega
  go_ret
  exact ⟨congrArg (fun x => Ending.returned (.bool x)) e, rfl⟩

/-- The bits that come out. -/
def canon (f : Int) : Int := if isNan f.toNat then 9221120237041090561 else f

set_option maxRecDepth 100000 in
set_option maxHeartbeats 1000000 in
theorem floatOf_any (t : ByteArray) (f : Int) (w : World) (ht : t.size ≤ 140737488351232) (h0 : 0 ≤ f) (h1 : f ≤ 18446744073709551615) :
    Calls Tryd.prog 34 #[.string t, .int .u64 f] w fun r w' => r = .returned (dat 3 t 0 (canon f) ⟨#[]⟩) ∧ Below w.heap.size w w' := by
  have HN : Hid (∀ W, Calls Tryd.prog 70 #[.int .u64 f] W fun r w' => r = .returned (.bool (isNan f.toNat)) ∧ w' = W) := fun W => isNaN_any f W h0 h1
  unfold canon
  generalize isNan f.toNat = v at HN ⊢
  clear h0 h1
  cases v <;> simp only [Bool.false_eq_true, ↓reduceIte, dat, D]
  · go_enter Tryd.func34, Tryd.ntmps34
    go_wp2_with (first
      | (go_at_call 70; refine (HN.out _).mono ?_; rintro r w' ⟨rfl, rfl⟩)
      | (go_at_call 69; refine (clone_any _ _ ht).mono ?_; rintro r w' ⟨rfl, hb⟩; obtain ⟨hc, hf⟩ := bcell hb; have hz : w.heap.size < w'.heap.size := by (have := hb.size; simp at this; omega)))
    refine bodyPost_ret (v := .agg #[.int .i64 3, .string t, .int .i64 0, .int .u64 f, .string ⟨#[]⟩, .int .i64 0, .int .i64 0, .int .i64 0, .int .i64 0, .slice none 0 0, .slice none 0 0]) (by simp [results, Tryd.results34, go_sem, hc]) rfl ⟨rfl, ?_⟩
    exact bset ((below1 w _).trans (hb.mono (by simp))) (Nat.le_refl _) _ _ _ _ _ _ _ _ _ _ _
  · go_enter Tryd.func34, Tryd.ntmps34
    go_wp2_with (first
      | (go_at_call 70; refine (HN.out _).mono ?_; rintro r w' ⟨rfl, rfl⟩)
      | (go_at_call 69; refine (clone_any _ _ ht).mono ?_; rintro r w' ⟨rfl, hb⟩; obtain ⟨hc, hf⟩ := bcell hb; have hz : w.heap.size < w'.heap.size := by (have := hb.size; simp at this; omega)))
    refine bodyPost_ret (v := .agg #[.int .i64 3, .string t, .int .i64 0, .int .u64 9221120237041090561, .string ⟨#[]⟩, .int .i64 0, .int .i64 0, .int .i64 0, .int .i64 0, .slice none 0 0, .slice none 0 0]) (by simp [results, Tryd.results34, go_sem, hc]) rfl ⟨rfl, ?_⟩
    exact bset ((below1 w _).trans (hb.mono (by simp))) (Nat.le_refl _) _ _ _ _ _ _ _ _ _ _ _

set_option maxRecDepth 100000 in
set_option maxHeartbeats 1000000 in
theorem renamed_float (u : ByteArray) (t : ByteArray) (a f : Int) (s : ByteArray) (r0 r1 r2 r3 : Int) (p i : Value) (w : World) (hu : u.size ≤ 140737488351232) (h0 : 0 ≤ f) (h1 : f ≤ 18446744073709551615) :
    Calls Tryd.prog 54 #[.string u, D 3 t a f s r0 r1 r2 r3 p i] w fun r w' => r = .returned (dat 3 u 0 (canon f) ⟨#[]⟩) ∧ Below w.heap.size w w' := by
  have HF : Hid (∀ W, Calls Tryd.prog 34 #[.string u, .int .u64 f] W fun r w' => r = .returned (dat 3 u 0 (canon f) ⟨#[]⟩) ∧ Below W.heap.size W w') := fun W => floatOf_any u f W hu h0 h1
  generalize canon f = v at HF ⊢
  clear hu h0 h1
  simp only [dat, D] at HF ⊢
  go_enter Tryd.func54, Tryd.ntmps54
  go_wp2_with (go_at_call 34; refine (HF.out _).mono ?_; rintro r w' ⟨rfl, hb⟩; obtain ⟨⟨c0, c1, c2, c3, c4, c5, c6, c7, c8, c9, c10⟩, hf2⟩ := box_kept ((hb.block (w.heap.size + 1) (by simp)).trans (heap2_1 _ _ _)))
  refine bodyPost_ret (v := .agg #[.int .i64 3, .string u, .int .i64 0, .int .u64 v, .string ⟨#[]⟩, .int .i64 0, .int .i64 0, .int .i64 0, .int .i64 0, .slice none 0 0, .slice none 0 0]) (by simp [results, Tryd.results54, go_sem, c0, c1, c2, c3, c4, c5, c6, c7, c8, c9, c10]) rfl ⟨rfl, ?_⟩
  exact bset ((below2 w _ _).trans (hb.mono (by simp; omega))) (by omega) _ _ _ _ _ _ _ _ _ _ _

set_option maxRecDepth 100000 in
set_option maxHeartbeats 1000000 in
theorem convert_ff (u : ByteArray) (t : ByteArray) (a f : Int) (s : ByteArray) (r0 r1 r2 r3 : Int) (p i : Value) (w : World) (hu : u.size ≤ 140737488351232) (h0 : 0 ≤ f) (h1 : f ≤ 18446744073709551615) :
    Calls Tryd.prog 18 #[.int .i64 3, .string u, D 3 t a f s r0 r1 r2 r3 p i] w fun r w' => r = .returned (.tuple #[dat 3 u 0 (canon f) ⟨#[]⟩, .nilIface]) ∧ Below w.heap.size w w' := by
  have HR : Hid (∀ W, Calls Tryd.prog 54 #[.string u, D 3 t a f s r0 r1 r2 r3 p i] W fun r w' => r = .returned (dat 3 u 0 (canon f) ⟨#[]⟩) ∧ Below W.heap.size W w') := fun W => renamed_float u t a f s r0 r1 r2 r3 p i W hu h0 h1
  generalize canon f = v at HR ⊢
  clear hu h0 h1
  simp only [dat, D] at HR ⊢
  go_enter Tryd.func18, Tryd.ntmps18
  go_wp2_with (go_at_call 54; refine (HR.out _).mono ?_; rintro r w' ⟨rfl, hb⟩; obtain ⟨⟨c0, c1, c2, c3, c4, c5, c6, c7, c8, c9, c10⟩, hf2⟩ := box_kept ((hb.block (w.heap.size + 1) (by simp)).trans (heap2_1 _ _ _)))
  refine bodyPost_ret (v := .tuple #[.agg #[.int .i64 3, .string u, .int .i64 0, .int .u64 v, .string ⟨#[]⟩, .int .i64 0, .int .i64 0, .int .i64 0, .int .i64 0, .slice none 0 0, .slice none 0 0], .nilIface]) (by simp [results, Tryd.results18, go_sem, c0, c1, c2, c3, c4, c5, c6, c7, c8, c9, c10]) rfl ⟨rfl, ?_⟩
  exact bset ((below2 w _ _).trans (hb.mono (by simp; omega))) (by omega) _ _ _ _ _ _ _ _ _ _ _

theorem flt_lt (n : Int) : (floatOfInt .f64 n : Int) ≤ 18446744073709551615 := by
  have h := floatOfInt_wf .f64 n
  simp [Lit.wf] at h
  omega

set_option maxRecDepth 100000 in
set_option maxHeartbeats 1000000 in
theorem convert_if (u : ByteArray) (t : ByteArray) (a f : Int) (s : ByteArray) (r0 r1 r2 r3 : Int) (p i : Value) (w : World) (hu : u.size ≤ 140737488351232) :
    Calls Tryd.prog 18 #[.int .i64 3, .string u, D 2 t a f s r0 r1 r2 r3 p i] w fun r w' => r = .returned (.tuple #[dat 3 u 0 (canon (floatOfInt .f64 a)) ⟨#[]⟩, .nilIface]) ∧ Below w.heap.size w w' := by
  have HR : Hid (∀ W, Calls Tryd.prog 34 #[.string u, .int .u64 (floatOfInt .f64 a)] W fun r w' => r = .returned (dat 3 u 0 (canon (floatOfInt .f64 a)) ⟨#[]⟩) ∧ Below W.heap.size W w') := fun W => floatOf_any u _ W hu (by omega) (flt_lt a)
  generalize canon (floatOfInt .f64 a) = v at HR ⊢
  clear hu
  simp only [dat, D] at HR ⊢
  go_enter Tryd.func18, Tryd.ntmps18
  go_wp2_with (go_at_call 34; refine (HR.out _).mono ?_; rintro r w' ⟨rfl, hb⟩; obtain ⟨⟨c0, c1, c2, c3, c4, c5, c6, c7, c8, c9, c10⟩, hf2⟩ := box_kept ((hb.block (w.heap.size + 1) (by simp)).trans (heap2_1 _ _ _)))
  refine bodyPost_ret (v := .tuple #[.agg #[.int .i64 3, .string u, .int .i64 0, .int .u64 v, .string ⟨#[]⟩, .int .i64 0, .int .i64 0, .int .i64 0, .int .i64 0, .slice none 0 0, .slice none 0 0], .nilIface]) (by simp [results, Tryd.results18, go_sem, c0, c1, c2, c3, c4, c5, c6, c7, c8, c9, c10]) rfl ⟨rfl, ?_⟩
  exact bset ((below2 w _ _).trans (hb.mono (by simp; omega))) (by omega) _ _ _ _ _ _ _ _ _ _ _

set_option maxRecDepth 100000 in
set_option maxHeartbeats 1000000 in
/-- A float that tells an int of at most 53 bits, made an int. -/
theorem whole53 (n : Int) (w : World) (h : n.natAbs < 9007199254740992) : Calls Tryd.prog 55 #[.float .f64 (floatOfInt .f64 n)] w fun r w' => r = .returned (.int .i64 n) ∧ w' = w := by
  have h1 := order_lo n h
  have h2 := order_hi n h
  have h3 : ∀ W : World, (convert 83 3 (.float .f64 (floatOfInt .f64 n))).run Tryd.prog W = .ok (.int .i64 n) W := fun W => run_convert_float_int W 83 3 .f64 .i64 _ n (by rw [Tryd.underlying83]; rfl) Tryd.underlying3 (back53 n h)
  clear h
  generalize floatOfInt .f64 n = x at h1 h2 h3 ⊢
  go_enter Tryd.func55, Tryd.ntmps55
  go_wp2
  go_ret
  exact ⟨rfl, rfl⟩

set_option maxRecDepth 100000 in
set_option maxHeartbeats 1000000 in
theorem convert_fi (u : ByteArray) (n : Int) (hn : n.natAbs < 9007199254740992) (t : ByteArray) (a : Int) (s : ByteArray) (r0 r1 r2 r3 : Int) (p i : Value) (w : World) (hu : u.size ≤ 140737488351232) :
    Calls Tryd.prog 18 #[.int .i64 2, .string u, D 3 t a (floatOfInt .f64 n) s r0 r1 r2 r3 p i] w fun r w' => r = .returned (.tuple #[dat 2 u n 0 ⟨#[]⟩, .nilIface]) ∧ Below w.heap.size w w' := by
  have HR : Hid (∀ W, Calls Tryd.prog 35 #[.string u, .int .i64 n] W fun r w' => r = .returned (dat 2 u n 0 ⟨#[]⟩) ∧ Below W.heap.size W w') := fun W => intOf_any u n W hu
  have HW : Hid (∀ W, Calls Tryd.prog 55 #[.float .f64 (floatOfInt .f64 n)] W fun r w' => r = .returned (.int .i64 n) ∧ w' = W) := fun W => whole53 n W hn
  clear hu hn
  generalize floatOfInt .f64 n = x at HW ⊢
  simp only [dat, D] at HR ⊢
  go_enter Tryd.func18, Tryd.ntmps18
  go_wp2_with (first
    | (go_at_call 55; refine (HW.out _).mono ?_; rintro r w' ⟨rfl, rfl⟩)
    | (go_at_call 35; refine (HR.out _).mono ?_; rintro r w' ⟨rfl, hb⟩; obtain ⟨⟨c0, c1, c2, c3, c4, c5, c6, c7, c8, c9, c10⟩, hf2⟩ := box_kept ((hb.block (w.heap.size + 1) (by simp)).trans (heap2_1 _ _ _))))
  refine bodyPost_ret (v := .tuple #[.agg #[.int .i64 2, .string u, .int .i64 n, .int .u64 0, .string ⟨#[]⟩, .int .i64 0, .int .i64 0, .int .i64 0, .int .i64 0, .slice none 0 0, .slice none 0 0], .nilIface]) (by simp [results, Tryd.results18, go_sem, c0, c1, c2, c3, c4, c5, c6, c7, c8, c9, c10]) rfl ⟨rfl, ?_⟩
  exact bset ((below2 w _ _).trans (hb.mono (by simp; omega))) (by omega) _ _ _ _ _ _ _ _ _ _ _

theorem cell4_0 (w : World) (cs : Array Value) (t : TypeId) (o2 o3 o4 : Obj) (i : Nat) : ((((w.alloc (.cells cs t)).alloc o2).alloc o3).alloc o4).cell? ⟨w.heap.size, i, none⟩ = cs[i]? := by
  rw [World.cell?_alloc_lt _ _ _ (by simp; omega), cell3_0]
theorem cell4_1 (w : World) (cs : Array Value) (t : TypeId) (o1 o3 o4 : Obj) (i : Nat) : ((((w.alloc o1).alloc (.cells cs t)).alloc o3).alloc o4).cell? ⟨w.heap.size + 1, i, none⟩ = cs[i]? := by
  rw [World.cell?_alloc_lt _ _ _ (by simp), cell3_1]

attribute [local go_sem] cell4_0 cell4_1

set_option maxRecDepth 100000 in
set_option maxHeartbeats 2000000 in
theorem same_refl (k : Int) (t : ByteArray) (n f : Int) (s : ByteArray) (w : World) : Calls Tryd.prog 12 #[dat k t n f s, dat k t n f s] w fun r w' => r = .returned (.bool true) ∧ Below w.heap.size w w' := by
  simp only [dat, D]
  go_enter Tryd.func12, Tryd.ntmps12
  go_wp2
  go_loop [4, 7] (fun _ i => i = .int .i64 0) (fun _ _ => 0)
  case atStart => rfl
  case round =>
    obtain rfl := hrel
    go_wp2
    go_ret
    exact ⟨rfl, below4 _ _ _ _ _⟩
end Go.Proofs.YtoplmbboaobahaaDoor
