/-
  The second Binary's shifts.
-/
import Derived.Test.YtoplmbboaobahaaDoorL
namespace Go.Proofs.YtoplmbboaobahaaDoor
open Go.RowKit

theorem wrap64_wr' (x : Int) : wrap64 x = wr x := by simp only [wrap64, wr]

theorem shr_next (a X : Int) (k : Nat) (h : X = a.fdiv (2 ^ k)) : X / 2 = a.fdiv (2 ^ (k + 1)) := by
  have := shr_step a k
  rw [← h, show min (1 : Int).toNat 64 = 1 by decide, show (2 : Int) ^ 1 = 2 by decide, Int.fdiv_eq_ediv_of_nonneg _ (by decide)] at this
  exact this

theorem double_wr (a : Int) (k : Nat) : wr (wr (a * 2 ^ k) + wr (a * 2 ^ k)) = wr (a * 2 ^ (k + 1)) := by
  have h := wr_wr_mul (a * 2 ^ k) 2
  rw [show wr (a * 2 ^ k) * 2 = wr (a * 2 ^ k) + wr (a * 2 ^ k) by omega] at h
  rw [h, Int.mul_assoc, Int.pow_succ]

set_option maxRecDepth 100000 in
set_option maxHeartbeats 1000000 in
theorem left_any (a b : Int) (w : World) (ha0 : -9223372036854775808 ≤ a) (ha1 : a ≤ 9223372036854775807) (hb : 0 ≤ b) :
    Calls Tryd.prog 76 #[.int .i64 a, .int .i64 b] w fun r w' => r = .returned (.int .i64 (wr (a * 2 ^ (min b.toNat 64)))) ∧ w' = w := by
  obtain ⟨o, ho⟩ : ∃ o, Hid (o = wr (a * 2 ^ (min b.toNat 64))) := ⟨_, rfl⟩
  rw [← ho.out]
  go_enter Tryd.func76, Tryd.ntmps76
  go_wp2
  go_loop [0, 5] (fun x i => ∃ k : Nat, k ≤ min b.toNat 64 ∧ i = .int .i64 k ∧ ∃ X : Int, x = .int .i64 X ∧ Hid (X = wr (a * 2 ^ k))) (fun _ i => 64 - (intOf i).toNat)
  case atStart => exact ⟨0, Nat.zero_le _, rfl, a, rfl, by show a = _; rw [Int.pow_zero, Int.mul_one, wr_id a ha0 ha1]⟩
  case round =>
    obtain ⟨k, hk, rfl, X, rfl, hX⟩ := hrel
    by_cases hlt : k < min b.toNat 64
    · have g1 : (k : Int) < b := by omega
      have g2 : (k : Int) < 64 := by omega
      go_wp2
      refine ⟨⟨k + 1, by omega, rfl, _, rfl, ?_⟩, by simp [intOf]; omega⟩
      show _ = _
      rw [wrap64_wr', hX.out, double_wr]
    · have e : k = min b.toNat 64 := by omega
      by_cases g1 : (k : Int) < b
      · have g2 : ¬ (k : Int) < 64 := by omega
        have hR : Hid (X = o) := by rw [ho.out, ← e]; exact hX.out
        clear e hlt hk
        go_wp2
        go_ret
        exact ⟨by rw [hR.out]; rfl, rfl⟩
      · have hR : Hid (X = o) := by rw [ho.out, ← e]; exact hX.out
        clear e hlt hk
        go_wp2
        go_ret
        exact ⟨by rw [hR.out]; rfl, rfl⟩

theorem half_odd (X : Int) (h : X < 0) (h2 : X.tmod 2 ≠ 0) : (X - 1).tdiv 2 = X / 2 := by
  obtain ⟨n, rfl⟩ : ∃ n : Nat, X = -(n : Int) := ⟨(-X).toNat, by omega⟩
  rw [show -(n : Int) - 1 = -((n + 1 : Nat) : Int) by omega, Int.neg_tdiv]
  rw [Int.neg_tmod] at h2
  have e1 : ((n + 1 : Nat) : Int).tdiv 2 = ((n + 1 : Nat) : Int) / 2 := Int.tdiv_eq_ediv_of_nonneg (by omega)
  have e2 : (n : Int).tmod 2 = (n : Int) % 2 := Int.tmod_eq_emod_of_nonneg (by omega)
  rw [e1]; rw [e2] at h2
  omega
theorem half_even (X : Int) (h : ¬ (X < 0 ∧ X.tmod 2 ≠ 0)) : X.tdiv 2 = X / 2 := by
  by_cases h0 : X < 0
  · obtain ⟨n, rfl⟩ : ∃ n : Nat, X = -(n : Int) := ⟨(-X).toNat, by omega⟩
    have h2 : (-(n : Int)).tmod 2 = 0 := Classical.byContradiction fun hh => h ⟨h0, hh⟩
    rw [Int.neg_tmod] at h2
    rw [Int.neg_tdiv]
    have e1 : (n : Int).tdiv 2 = (n : Int) / 2 := Int.tdiv_eq_ediv_of_nonneg (by omega)
    have e2 : (n : Int).tmod 2 = (n : Int) % 2 := Int.tmod_eq_emod_of_nonneg (by omega)
    rw [e1]; rw [e2] at h2
    omega
  · exact Int.tdiv_eq_ediv_of_nonneg (by omega)

set_option maxRecDepth 100000 in
set_option maxHeartbeats 1000000 in
theorem right_any (a b : Int) (w : World) (ha0 : -9223372036854775808 ≤ a) (ha1 : a ≤ 9223372036854775807) (hb : 0 ≤ b) :
    Calls Tryd.prog 77 #[.int .i64 a, .int .i64 b] w fun r w' => r = .returned (.int .i64 (a.fdiv (2 ^ (min b.toNat 64)))) ∧ w' = w := by
  obtain ⟨o, ho⟩ : ∃ o, Hid (o = a.fdiv (2 ^ (min b.toNat 64))) := ⟨_, rfl⟩
  rw [← ho.out]
  go_enter Tryd.func77, Tryd.ntmps77
  go_wp2
  go_loop [0, 5] (fun x i => ∃ k : Nat, k ≤ min b.toNat 64 ∧ i = .int .i64 k ∧ ∃ X : Int, x = .int .i64 X ∧ -9223372036854775808 ≤ X ∧ X ≤ 9223372036854775807 ∧ Hid (X = a.fdiv (2 ^ k))) (fun _ i => 64 - (intOf i).toNat)
  case atStart => exact ⟨0, Nat.zero_le _, rfl, a, rfl, ha0, ha1, by show a = _; rw [Int.pow_zero, Int.fdiv_one]⟩
  case round =>
    obtain ⟨k, hk, rfl, X, rfl, hx0, hx1, hX⟩ := hrel
    by_cases hlt : k < min b.toNat 64
    · have g1 : (k : Int) < b := by omega
      have g2 : (k : Int) < 64 := by omega
      by_cases h0 : X < 0
      · by_cases h2 : X.tmod 2 = 0
        · go_wp2
          refine ⟨⟨k + 1, by omega, rfl, X / 2, by rw [half_even X (fun h => h.2 h2)], by omega, by omega, shr_next a X k hX.out⟩, by simp [intOf]; omega⟩
        · have h2' : (X.tmod 2 != 0) = true := by simpa using h2
          go_wp2
          have hne : X ≠ -9223372036854775808 := fun e => h2 (by rw [e]; decide)
          have e1 : wrap64 (X - 1) = X - 1 := by rw [wrap64_wr']; exact wr_id _ (by omega) (by omega)
          have e2 : wrap64 (X / 2) = X / 2 := by rw [wrap64_wr']; exact wr_id _ (by omega) (by omega)
          refine ⟨⟨k + 1, by omega, rfl, X / 2, by rw [e1, half_odd X h0 h2, e2], by omega, by omega, shr_next a X k hX.out⟩, by simp [intOf]; omega⟩
      · go_wp2
        refine ⟨⟨k + 1, by omega, rfl, X / 2, rfl, by omega, by omega, shr_next a X k hX.out⟩, by simp [intOf]; omega⟩
    · have e : k = min b.toNat 64 := by omega
      have hR : Hid (X = o) := by rw [ho.out, ← e]; exact hX.out
      by_cases g1 : (k : Int) < b
      · have g2 : ¬ (k : Int) < 64 := by omega
        clear e hlt hk
        go_wp2
        go_ret
        exact ⟨by rw [hR.out]; rfl, rfl⟩
      · clear e hlt hk
        go_wp2
        go_ret
        exact ⟨by rw [hR.out]; rfl, rfl⟩
end Go.Proofs.YtoplmbboaobahaaDoor
