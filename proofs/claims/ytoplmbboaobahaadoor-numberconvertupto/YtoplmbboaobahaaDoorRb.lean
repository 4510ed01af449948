/-
  The walk of the second Int.
-/
import Derived.Test.YtoplmbboaobahaaDoorRa
namespace Go.Proofs.YtoplmbboaobahaaDoor
open Go.RowKit

attribute [local go_sem] refold2 cell3_0 cell3_1 b28_0 b28_01 b28_012 b28_013 b28_014 b35_01 b35_0 b35 mkI69

set_option maxRecDepth 100000 in
set_option maxHeartbeats 1000000 in
theorem refInt_long (s : ByteArray) (c0 : UInt8) (w : World) (h5 : 0 < s.size) (h1 : ¬ (s.size : Int) < 1) (h2 : ¬ 19 < (s.size : Int)) (h3 : (1 : Int) < s.size) (hg0 : ∀ h, (s[0]'h).toNat = c0.toNat) (h4 : ¬ (c0.toNat : Int) = 48) :
    Calls Tryd.prog 23 #[.string s] w fun r w' => r = .returned (litI (rdig s.data.toList 0)) ∧ Below w.heap.size w w' := by
  obtain ⟨o, ho⟩ : ∃ o, Hid (o = litI (rdig s.data.toList 0)) := ⟨_, rfl⟩
  rw [← ho.out]
  go_enter Tryd.func23, Tryd.ntmps23
  go_wp2
  clear hg0 h4
  go_loop [3, 4, 5, 6] (fun _ n i _ => ∃ k : Nat, k ≤ s.size ∧ i = .int .i64 k ∧ ∃ m : Nat, n = .int .i64 m ∧ m ≤ 9223372036854775807 ∧ Hid (rdig (s.data.toList.drop k) m = rdig s.data.toList 0)) (fun _ _ i _ => s.size - (intOf i).toNat)
  case atStart => exact ⟨0, Nat.zero_le _, rfl, 0, rfl, Nat.zero_le _, rfl⟩
  case round =>
    obtain ⟨k, hk, rfl, m, rfl, hm, hd⟩ := hrel
    by_cases hlt : k < s.size
    · have hb : Hid (s.data.toList.drop k = s[k] :: s.data.toList.drop (k + 1)) := byte_at s k hlt
      obtain ⟨c, hc⟩ : ∃ c : UInt8, c = s[k] := ⟨_, rfl⟩
      have hub : c.toNat < 256 := c.toNat_lt
      have hget : (s[k]'hlt).toNat = c.toNat := by rw [hc]
      rw [← hc] at hb
      clear hc
      by_cases h48 : 48 ≤ c.toNat ∧ c.toNat ≤ 57
      · obtain ⟨h48a, h48b⟩ := h48
        have g1 : ¬ (c.toNat : Int) < 48 := by omega
        have g2 : ¬ 57 < (c.toNat : Int) := by omega
        obtain ⟨d, hdd⟩ : ∃ d : Nat, c.toNat = 48 + d := ⟨c.toNat - 48, by omega⟩
        have hd9 : d ≤ 9 := by omega
        rw [hdd] at hget g1 g2
        by_cases hq : m ≤ (9223372036854775807 - d) / 10
        · have hq3 : 10 * (m : Int) + d ≤ 9223372036854775807 := by omega
          have hq4 : (m : Int) ≤ 922337203685477580 := by omega
          have hq5 : ¬ (9223372036854775807 - (48 + (d : Int) - 48)) / 10 < m := by omega
          have hqH : Hid (m ≤ (9223372036854775807 - d) / 10) := hq
          clear hq hm
          go_wp2
          refine ⟨⟨k + 1, by omega, rfl, m * 10 + d, by rw [show 10 * (m : Int) + (48 + (d : Int) - 48) = ((m * 10 + d : Nat) : Int) by omega], by omega, ?_⟩, by simp [intOf]; omega⟩
          have hd' := hd.out
          rw [hb.out, rdig, if_pos ⟨h48a, h48b⟩, hdd, Nat.add_sub_cancel_left, if_pos hqH.out] at hd'
          exact hd'
        · have hq2 : (((9223372036854775807 - d) / 10 : Nat) : Int) < m := by omega
          have hqH : Hid (¬ m ≤ (9223372036854775807 - d) / 10) := hq
          clear hq
          go_wp2
          have e3 : rdig s.data.toList 0 = none := by
            rw [← hd.out, hb.out, rdig, if_pos ⟨h48a, h48b⟩, if_neg (by rw [hdd, Nat.add_sub_cancel_left]; exact hqH.out)]
          refine bodyPost_ret (v := .tuple #[.agg #[.int .i64 0, .string ⟨#[]⟩, .int .i64 0, .int .u64 0, .string ⟨#[]⟩, .int .i64 0, .int .i64 0, .int .i64 0, .int .i64 0, .slice none 0 0, .slice none 0 0], .bool false]) (by simp [results, Tryd.results23, go_sem]) rfl ⟨by rw [ho.out]; exact congrArg Ending.returned (by rw [e3]; rfl), below1 w _⟩
      · have e3 : rdig s.data.toList 0 = none := by
          rw [← hd.out, hb.out, rdig, if_neg h48]
        by_cases h48a : c.toNat < 48
        · have g1 : (c.toNat : Int) < 48 := by omega
          go_wp2
          refine bodyPost_ret (v := .tuple #[.agg #[.int .i64 0, .string ⟨#[]⟩, .int .i64 0, .int .u64 0, .string ⟨#[]⟩, .int .i64 0, .int .i64 0, .int .i64 0, .int .i64 0, .slice none 0 0, .slice none 0 0], .bool false]) (by simp [results, Tryd.results23, go_sem]) rfl ⟨by rw [ho.out]; exact congrArg Ending.returned (by rw [e3]; rfl), below1 w _⟩
        · have g1 : ¬ (c.toNat : Int) < 48 := by omega
          have g2 : 57 < (c.toNat : Int) := by omega
          go_wp2
          refine bodyPost_ret (v := .tuple #[.agg #[.int .i64 0, .string ⟨#[]⟩, .int .i64 0, .int .u64 0, .string ⟨#[]⟩, .int .i64 0, .int .i64 0, .int .i64 0, .int .i64 0, .slice none 0 0, .slice none 0 0], .bool false]) (by simp [results, Tryd.results23, go_sem]) rfl ⟨by rw [ho.out]; exact congrArg Ending.returned (by rw [e3]; rfl), below1 w _⟩
    · have e : k = s.size := by omega
      subst e
      go_wp2
      have hd' := hd.out
      rw [List.drop_of_length_le (by simp)] at hd'
      refine bodyPost_ret (v := .tuple #[.agg #[.int .i64 2, .string ⟨#[105, 110, 116]⟩, .int .i64 m, .int .u64 0, .string ⟨#[]⟩, .int .i64 0, .int .i64 0, .int .i64 0, .int .i64 0, .slice none 0 0, .slice none 0 0], .bool true]) (by simp [results, Tryd.results23, go_sem]) rfl ⟨?_, ?_⟩
      · rw [ho.out, ← hd']; rfl
      · exact below1 w _

set_option maxRecDepth 100000 in
set_option maxHeartbeats 1000000 in
theorem refInt_short (s : ByteArray) (w : World) (h1 : ¬ (s.size : Int) < 1) (h2 : ¬ 19 < (s.size : Int)) (h3 : ¬ (1 : Int) < s.size) :
    Calls Tryd.prog 23 #[.string s] w fun r w' => r = .returned (litI (rdig s.data.toList 0)) ∧ Below w.heap.size w w' := by
  obtain ⟨o, ho⟩ : ∃ o, Hid (o = litI (rdig s.data.toList 0)) := ⟨_, rfl⟩
  rw [← ho.out]
  go_enter Tryd.func23, Tryd.ntmps23
  go_wp2
  go_loop [3, 4, 5, 6] (fun _ n i _ => ∃ k : Nat, k ≤ s.size ∧ i = .int .i64 k ∧ ∃ m : Nat, n = .int .i64 m ∧ m ≤ 9223372036854775807 ∧ Hid (rdig (s.data.toList.drop k) m = rdig s.data.toList 0)) (fun _ _ i _ => s.size - (intOf i).toNat)
  case atStart => exact ⟨0, Nat.zero_le _, rfl, 0, rfl, Nat.zero_le _, rfl⟩
  case round =>
    obtain ⟨k, hk, rfl, m, rfl, hm, hd⟩ := hrel
    by_cases hlt : k < s.size
    · have hb : Hid (s.data.toList.drop k = s[k] :: s.data.toList.drop (k + 1)) := byte_at s k hlt
      obtain ⟨c, hc⟩ : ∃ c : UInt8, c = s[k] := ⟨_, rfl⟩
      have hub : c.toNat < 256 := c.toNat_lt
      have hget : (s[k]'hlt).toNat = c.toNat := by rw [hc]
      rw [← hc] at hb
      clear hc
      by_cases h48 : 48 ≤ c.toNat ∧ c.toNat ≤ 57
      · obtain ⟨h48a, h48b⟩ := h48
        have g1 : ¬ (c.toNat : Int) < 48 := by omega
        have g2 : ¬ 57 < (c.toNat : Int) := by omega
        obtain ⟨d, hdd⟩ : ∃ d : Nat, c.toNat = 48 + d := ⟨c.toNat - 48, by omega⟩
        have hd9 : d ≤ 9 := by omega
        rw [hdd] at hget g1 g2
        by_cases hq : m ≤ (9223372036854775807 - d) / 10
        · have hq3 : 10 * (m : Int) + d ≤ 9223372036854775807 := by omega
          have hq4 : (m : Int) ≤ 922337203685477580 := by omega
          have hq5 : ¬ (9223372036854775807 - (48 + (d : Int) - 48)) / 10 < m := by omega
          have hqH : Hid (m ≤ (9223372036854775807 - d) / 10) := hq
          clear hq hm
          go_wp2
          refine ⟨⟨k + 1, by omega, rfl, m * 10 + d, by rw [show 10 * (m : Int) + (48 + (d : Int) - 48) = ((m * 10 + d : Nat) : Int) by omega], by omega, ?_⟩, by simp [intOf]; omega⟩
          have hd' := hd.out
          rw [hb.out, rdig, if_pos ⟨h48a, h48b⟩, hdd, Nat.add_sub_cancel_left, if_pos hqH.out] at hd'
          exact hd'
        · have hq2 : (((9223372036854775807 - d) / 10 : Nat) : Int) < m := by omega
          have hqH : Hid (¬ m ≤ (9223372036854775807 - d) / 10) := hq
          clear hq
          go_wp2
          have e3 : rdig s.data.toList 0 = none := by
            rw [← hd.out, hb.out, rdig, if_pos ⟨h48a, h48b⟩, if_neg (by rw [hdd, Nat.add_sub_cancel_left]; exact hqH.out)]
          refine bodyPost_ret (v := .tuple #[.agg #[.int .i64 0, .string ⟨#[]⟩, .int .i64 0, .int .u64 0, .string ⟨#[]⟩, .int .i64 0, .int .i64 0, .int .i64 0, .int .i64 0, .slice none 0 0, .slice none 0 0], .bool false]) (by simp [results, Tryd.results23, go_sem]) rfl ⟨by rw [ho.out]; exact congrArg Ending.returned (by rw [e3]; rfl), below1 w _⟩
      · have e3 : rdig s.data.toList 0 = none := by
          rw [← hd.out, hb.out, rdig, if_neg h48]
        by_cases h48a : c.toNat < 48
        · have g1 : (c.toNat : Int) < 48 := by omega
          go_wp2
          refine bodyPost_ret (v := .tuple #[.agg #[.int .i64 0, .string ⟨#[]⟩, .int .i64 0, .int .u64 0, .string ⟨#[]⟩, .int .i64 0, .int .i64 0, .int .i64 0, .int .i64 0, .slice none 0 0, .slice none 0 0], .bool false]) (by simp [results, Tryd.results23, go_sem]) rfl ⟨by rw [ho.out]; exact congrArg Ending.returned (by rw [e3]; rfl), below1 w _⟩
        · have g1 : ¬ (c.toNat : Int) < 48 := by omega
          have g2 : 57 < (c.toNat : Int) := by omega
          go_wp2
          refine bodyPost_ret (v := .tuple #[.agg #[.int .i64 0, .string ⟨#[]⟩, .int .i64 0, .int .u64 0, .string ⟨#[]⟩, .int .i64 0, .int .i64 0, .int .i64 0, .int .i64 0, .slice none 0 0, .slice none 0 0], .bool false]) (by simp [results, Tryd.results23, go_sem]) rfl ⟨by rw [ho.out]; exact congrArg Ending.returned (by rw [e3]; rfl), below1 w _⟩
    · have e : k = s.size := by omega
      subst e
      go_wp2
      have hd' := hd.out
      rw [List.drop_of_length_le (by simp)] at hd'
      refine bodyPost_ret (v := .tuple #[.agg #[.int .i64 2, .string ⟨#[105, 110, 116]⟩, .int .i64 m, .int .u64 0, .string ⟨#[]⟩, .int .i64 0, .int .i64 0, .int .i64 0, .int .i64 0, .slice none 0 0, .slice none 0 0], .bool true]) (by simp [results, Tryd.results23, go_sem]) rfl ⟨?_, ?_⟩
      · rw [ho.out, ← hd']; rfl
      · exact below1 w _

set_option maxRecDepth 100000 in
set_option maxHeartbeats 1000000 in
theorem refInt_none (s : ByteArray) (w : World) (h : (s.size : Int) < 1 ∨ ¬ (s.size : Int) < 1 ∧ 19 < (s.size : Int)) :
    Calls Tryd.prog 23 #[.string s] w fun r w' => r = .returned (.tuple #[.agg #[.int .i64 0, .string ⟨#[]⟩, .int .i64 0, .int .u64 0, .string ⟨#[]⟩, .int .i64 0, .int .i64 0, .int .i64 0, .int .i64 0, .slice none 0 0, .slice none 0 0], .bool false]) ∧ Below w.heap.size w w' := by
  rcases h with h | ⟨h, h'⟩
  all_goals
    go_enter Tryd.func23, Tryd.ntmps23
    go_wp2
    refine bodyPost_ret (v := .tuple #[.agg #[.int .i64 0, .string ⟨#[]⟩, .int .i64 0, .int .u64 0, .string ⟨#[]⟩, .int .i64 0, .int .i64 0, .int .i64 0, .int .i64 0, .slice none 0 0, .slice none 0 0], .bool false]) (by simp [results, Tryd.results23, go_sem]) rfl ⟨rfl, below1 w _⟩

set_option maxRecDepth 100000 in
set_option maxHeartbeats 1000000 in
theorem refInt_zero (s : ByteArray) (c0 : UInt8) (w : World) (h5 : 0 < s.size) (h1 : ¬ (s.size : Int) < 1) (h2 : ¬ 19 < (s.size : Int)) (h3 : (1 : Int) < s.size) (hg0 : ∀ h, (s[0]'h).toNat = c0.toNat) (h4 : (c0.toNat : Int) = 48) :
    Calls Tryd.prog 23 #[.string s] w fun r w' => r = .returned (.tuple #[.agg #[.int .i64 0, .string ⟨#[]⟩, .int .i64 0, .int .u64 0, .string ⟨#[]⟩, .int .i64 0, .int .i64 0, .int .i64 0, .int .i64 0, .slice none 0 0, .slice none 0 0], .bool false]) ∧ Below w.heap.size w w' := by
  go_enter Tryd.func23, Tryd.ntmps23
  go_wp2
  refine bodyPost_ret (v := .tuple #[.agg #[.int .i64 0, .string ⟨#[]⟩, .int .i64 0, .int .u64 0, .string ⟨#[]⟩, .int .i64 0, .int .i64 0, .int .i64 0, .int .i64 0, .slice none 0 0, .slice none 0 0], .bool false]) (by simp [results, Tryd.results23, go_sem]) rfl ⟨rfl, below1 w _⟩

theorem refInt_any (s : ByteArray) (w : World) : Calls Tryd.prog 23 #[.string s] w fun r w' => r = .returned (litI (intLit s.data.toList)) ∧ Below w.heap.size w w' := by
  rw [← rInt_eq]
  have hlen : s.data.toList.length = s.size := by rw [Array.length_toList]; rfl
  unfold rInt
  rw [hlen]
  by_cases h1 : s.size < 1
  · rw [if_pos (.inl h1)]; exact refInt_none s w (.inl (by omega))
  by_cases h2 : 19 < s.size
  · rw [if_pos (.inr (.inl h2))]; exact refInt_none s w (.inr ⟨by omega, by omega⟩)
  by_cases h3 : 1 < s.size
  · by_cases h4 : (s[0]'(by omega)).toNat = 48
    · have hp : plainB s.data.toList = false := by
        have hd := byte_at s 0 (by omega)
        have hd1 := byte_at s 1 h3
        rw [List.drop_zero] at hd
        rw [hd, hd1, show s[0]'(by omega) = 48 from UInt8.toNat_inj.mp h4]; rfl
      rw [if_pos (.inr (.inr hp))]
      exact refInt_zero s (s[0]'(by omega)) w (by omega) (by omega) (by omega) (by omega) (fun _ => rfl) (by omega)
    · have hp : plainB s.data.toList = true := by
        have hd := byte_at s 0 (by omega)
        have hd1 := byte_at s 1 h3
        rw [List.drop_zero] at hd
        rw [hd, hd1]
        have hc : s[0]'(by omega) ≠ 48 := fun e => h4 (by rw [e]; rfl)
        show (s[0]'(by omega) != 48) = true
        simpa using hc
      rw [if_neg (fun h => by rcases h with h | h | h; exact h1 h; exact h2 h; rw [hp] at h; cases h)]
      exact refInt_long s (s[0]'(by omega)) w (by omega) (by omega) (by omega) (by omega) (fun _ => rfl) (by omega)
  · have hp : plainB s.data.toList = true := by
      have hd := byte_at s 0 (by omega)
      rw [List.drop_zero, List.drop_of_length_le (by omega)] at hd
      rw [hd]; rfl
    rw [if_neg (fun h => by rcases h with h | h | h; exact h1 h; exact h2 h; rw [hp] at h; cases h)]
    exact refInt_short s w (by omega) (by omega) (by omega)
end Go.Proofs.YtoplmbboaobahaaDoor
