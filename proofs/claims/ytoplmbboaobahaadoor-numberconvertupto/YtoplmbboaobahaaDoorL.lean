/-
  Numbers modulo 2^64, and the walks of does and pick.
-/
import Derived.Test.YtoplmbboaobahaaDoorK
import Derived.Laws.BitsAllLaws
namespace Go.Proofs.YtoplmbboaobahaaDoor
open Go.RowKit

theorem wr_id (a : Int) (h0 : -9223372036854775808 ≤ a) (h1 : a ≤ 9223372036854775807) : wr a = a := by unfold wr; omega
theorem wr_lo (a : Int) : -9223372036854775808 ≤ wr a := by unfold wr; omega
theorem wr_hi (a : Int) : wr a ≤ 9223372036854775807 := by unfold wr; omega
theorem wr_eq (x : Int) : ∃ k, wr x = x + 18446744073709551616 * k := ⟨-((x + 9223372036854775808) / 18446744073709551616), by unfold wr; omega⟩
theorem wr_add (x k : Int) : wr (x + 18446744073709551616 * k) = wr x := by unfold wr; omega
theorem wr_wr_mul (x y : Int) : wr (wr x * y) = wr (x * y) := by
  obtain ⟨k, hk⟩ := wr_eq x
  rw [hk, Int.add_mul, Int.mul_assoc, wr_add]
theorem wr_wr_add (x y : Int) : wr (wr x + y) = wr (x + y) := by
  obtain ⟨k, hk⟩ := wr_eq x
  rw [hk, show x + 18446744073709551616 * k + y = x + y + 18446744073709551616 * k by omega, wr_add]
theorem ring1 (a b : Int) (h0 : -9223372036854775808 ≤ a) (h1 : a ≤ 9223372036854775807) : wr (wr (a + b) - b) = a := by unfold wr; omega
theorem ring2 (a b : Int) (h0 : -9223372036854775808 ≤ a) (h1 : a ≤ 9223372036854775807) : wr (wr (a + b) + wr (-b)) = a := by unfold wr; omega
theorem ring3 (a : Int) : wr (a + (-1 - a)) = -1 := by
  rw [show a + (-1 - a) = -1 by omega]; decide
theorem not_i64 (a : Int) (h0 : -9223372036854775808 ≤ a) (h1 : a ≤ 9223372036854775807) : bits .xor .i64 (-1) a = -1 - a := by
  show IntKind.i64.wrap ((BitVec.ofInt 64 (-1) ^^^ BitVec.ofInt 64 a).toNat : Int) = _
  have e1 : BitVec.ofInt 64 (-1) = BitVec.allOnes 64 := by decide
  rw [e1, BitVec.allOnes_xor, BitVec.toNat_not, BitVec.toNat_ofInt]
  simp [IntKind.wrap, IntKind.bits, IntKind.signed]
  omega
theorem not_i64' (a : Int) (h0 : -9223372036854775808 ≤ a) (h1 : a ≤ 9223372036854775807) : bits .xor .i64 a (-1) = -1 - a := by
  rw [← not_i64 a h0 h1]
  show IntKind.i64.wrap ((BitVec.ofInt 64 a ^^^ BitVec.ofInt 64 (-1)).toNat : Int) = IntKind.i64.wrap ((BitVec.ofInt 64 (-1) ^^^ BitVec.ofInt 64 a).toNat : Int)
  rw [BitVec.xor_comm]
theorem ring4 (a b : Int) (h0 : -9223372036854775808 ≤ a) (h1 : a ≤ 9223372036854775807) : wr (wr (wr (a.tdiv b) * b) + a.tmod b) = a := by
  rw [wr_wr_mul, wr_wr_add, Int.mul_comm, Int.mul_tdiv_add_tmod, wr_id a h0 h1]
theorem ring5 (a b : Int) (hm : a.tmod b ≠ 0) : decide (a.tmod b < 0) = decide (a < 0) := by
  by_cases h : a < 0
  · have : 0 ≤ (-a).tmod b := Int.tmod_nonneg _ (by omega)
    rw [Int.neg_tmod] at this
    simp [h]; omega
  · have : 0 ≤ a.tmod b := Int.tmod_nonneg _ (by omega)
    simp [h]; omega
theorem shl_step (a : Int) (k : Nat) : wr (wr (a * 2 ^ k) * 2 ^ (min (1 : Int).toNat 64)) = wr (a * 2 ^ (k + 1)) := by
  rw [wr_wr_mul, show min (1 : Int).toNat 64 = 1 by decide, show (2 : Int) ^ 1 = 2 by decide, Int.mul_assoc, Int.pow_succ]
theorem shr_step (a : Int) (k : Nat) : (a.fdiv (2 ^ k)).fdiv (2 ^ (min (1 : Int).toNat 64)) = a.fdiv (2 ^ (k + 1)) := by
  have h1 : (0 : Int) ≤ 2 ^ k := Int.pow_nonneg (by decide)
  have h2 : (0 : Int) ≤ 2 ^ (k + 1) := Int.pow_nonneg (by decide)
  rw [show min (1 : Int).toNat 64 = 1 by decide, show (2 : Int) ^ 1 = 2 by decide, Int.fdiv_eq_ediv_of_nonneg _ h1, Int.fdiv_eq_ediv_of_nonneg _ (by decide : (0 : Int) ≤ 2), Int.fdiv_eq_ediv_of_nonneg _ h2, Int.ediv_ediv_of_nonneg h1, Int.pow_succ]
theorem shl_end (a : Int) (n : Nat) : wr (a * 2 ^ (min (n : Int).toNat 64)) = wr (a * 2 ^ n) := by
  rw [Int.toNat_natCast]
  by_cases h : n ≤ 64
  · rw [Nat.min_eq_left h]
  · rw [Nat.min_eq_right (by omega)]
    obtain ⟨m, rfl⟩ : ∃ m, n = 64 + m := ⟨n - 64, by omega⟩
    have e1 : a * 2 ^ 64 = 0 + 18446744073709551616 * a := by omega
    have e2 : a * 2 ^ (64 + m) = 0 + 18446744073709551616 * (a * 2 ^ m) := by
      rw [Int.pow_add, show (2 : Int) ^ 64 = 18446744073709551616 by decide, Int.zero_add, ← Int.mul_assoc, Int.mul_comm a, Int.mul_assoc]
    rw [e1, e2, wr_add, wr_add]
theorem shr_end (a : Int) (n : Nat) (h0 : -9223372036854775808 ≤ a) (h1 : a ≤ 9223372036854775807) : a.fdiv (2 ^ (min (n : Int).toNat 64)) = a.fdiv (2 ^ n) := by
  rw [Int.toNat_natCast]
  by_cases h : n ≤ 64
  · rw [Nat.min_eq_left h]
  · rw [Nat.min_eq_right (by omega)]
    have p : (18446744073709551616 : Int) ≤ 2 ^ n := by
      have := Nat.pow_le_pow_right (n := 2) (by decide) (show 64 ≤ n by omega)
      have h2 : ((2 ^ 64 : Nat) : Int) ≤ ((2 ^ n : Nat) : Int) := by exact_mod_cast this
      simpa using h2
    have hp : (0 : Int) ≤ 2 ^ n := by omega
    rw [Int.fdiv_eq_ediv_of_nonneg _ (by decide), Int.fdiv_eq_ediv_of_nonneg _ hp]
    by_cases ha : 0 ≤ a
    · rw [Int.ediv_eq_zero_of_lt ha (by omega), Int.ediv_eq_zero_of_lt ha (by omega)]
    · rw [Int.ediv_eq_neg_one_of_neg_of_le (by omega) (by omega), Int.ediv_eq_neg_one_of_neg_of_le (by omega) (by omega)]

attribute [local go_sem] refold2 cell3_0 cell3_1 b28_0 b28_01 b28_012 b28_013 b28_014 b35_01 b35_0 b35 mkI69

set_option maxRecDepth 100000 in
set_option maxHeartbeats 2000000 in
theorem does_any (o : IOp) (t : ByteArray) (a b : Int) (w : World) (ht : t.size ≤ 140737488351232) (hok : o.ok b) :
    Calls Tryd.prog 30 #[.string t, .string o.txt, .int .i64 a, .int .i64 b] w fun r w' => r = .returned (.tuple #[.int .i64 (o.val a b), .bool true]) ∧ Below w.heap.size w w' := by
  have HB : Hid (∀ W, Calls Tryd.prog 15 #[.string o.txt, D 2 t a 0 ⟨#[]⟩ 0 0 0 0 (.slice none 0 0) (.slice none 0 0), D 2 t b 0 ⟨#[]⟩ 0 0 0 0 (.slice none 0 0) (.slice none 0 0)] W fun r w' => r = .returned (.tuple #[dat 2 t (o.val a b) 0 ⟨#[]⟩, .nilIface]) ∧ Below W.heap.size W w') := fun W => binary_int o t a b 0 0 ⟨#[]⟩ ⟨#[]⟩ 0 0 0 0 (.slice none 0 0) (.slice none 0 0) 0 0 0 0 (.slice none 0 0) (.slice none 0 0) W ht hok
  obtain ⟨c, hc⟩ : ∃ c, c = o.val a b := ⟨_, rfl⟩
  obtain ⟨u, hu⟩ : ∃ u, u = o.txt := ⟨_, rfl⟩
  rw [← hc, ← hu] at HB ⊢
  clear hc hu hok
  simp only [dat, D] at HB
  go_enter Tryd.func30, Tryd.ntmps30
  go_wp2_with fail
  refine (of_any _ _ _).mono ?_
  simp only [dat, D]
  rintro r w1 ⟨rfl, b1⟩
  go_wp2_with fail
  refine (of_any _ _ _).mono ?_
  simp only [dat, D]
  rintro r w2 ⟨rfl, b2⟩
  go_wp2_with fail
  refine (HB.out _).mono ?_
  rintro r w3 ⟨rfl, b3⟩
  have q : Below w.heap.size w w3 := b1.trans ((b2.trans (b3.mono b2.size)).mono b1.size)
  clear b1 b2 b3
  go_wp2_with fail
  go_region
  go_wp2_with fail
  refine bodyPost_ret (v := .tuple #[.int .i64 c, .bool true]) (by simp [results, Tryd.results30, go_sem]) rfl ⟨rfl, ?_⟩
  exact (q.alloc q.size _).drew

/-- Which of n things a number speaks of. -/
theorem pick70 (c : Int) (w : World) (h0 : -9223372036854775808 ≤ c) (h1 : c ≤ 9223372036854775807) :
    Calls Tryd.prog 32 #[.int .i64 c, .int .i64 70] w fun r w' => ∃ n : Nat, r = .returned (.int .i64 n) ∧ n < 70 ∧ w' = w := by
  by_cases h : c < 0
  · go_enter Tryd.func32, Tryd.ntmps32
    go_wp2
    have e : -(c + 1).tmod 70 = (((-(c + 1)) % 70).toNat : Int) := by
      rw [← Int.neg_tmod, Int.tmod_eq_emod_of_nonneg (by omega)]; omega
    go_ret
    exact ⟨((-(c + 1)) % 70).toNat, congrArg (fun x => Ending.returned (.int .i64 x)) e, by omega, rfl⟩
  · go_enter Tryd.func32, Tryd.ntmps32
    go_wp2
    go_ret
    exact ⟨(c % 70).toNat, congrArg (fun x => Ending.returned (.int .i64 x)) (by omega), by omega, rfl⟩
end Go.Proofs.YtoplmbboaobahaaDoor
