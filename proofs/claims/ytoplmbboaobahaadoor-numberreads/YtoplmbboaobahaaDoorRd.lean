/-
  The walk of the second Float.
-/
import Derived.Test.YtoplmbboaobahaaDoorRc
namespace Go.Proofs.YtoplmbboaobahaaDoor
open Go.RowKit

attribute [local go_sem] refold2 cell3_0 cell3_1 b28_0 b28_01 b28_012 b28_013 b28_014 b35_01 b35_0 b35 mkI69 x56 x57

set_option maxRecDepth 100000 in
set_option maxHeartbeats 4000000 in
theorem refFloat_any (s : ByteArray) (w : World) :
    Calls Tryd.prog 25 #[.string s] w fun r w' => r = .returned (litF (fEnd s.data.toList (rfl' s.data.toList 0 (-1) 0 0 0))) ∧ Below w.heap.size w w' := by
  obtain ⟨o, ho⟩ : ∃ o, Hid (o = litF (fEnd s.data.toList (rfl' s.data.toList 0 (-1) 0 0 0))) := ⟨_, rfl⟩
  rw [← ho.out]
  go_enter Tryd.func25, Tryd.ntmps25
  go_wp2
  go_loop [3, 4, 5, 6, 7, 8] (fun _ pv nv dv mv iv => ∃ (k n j m : Nat) (p : Int), iv = .int .i64 k ∧ pv = .int .i64 p ∧ nv = .int .i64 n ∧ Hid (dv = .int .i64 ((10 ^ j : Nat) : Int)) ∧ mv = .int .i64 m ∧ k ≤ s.size ∧ m ≤ 15 ∧ j ≤ m ∧ Hid (n < 10 ^ m) ∧ (p = -1 ∧ k = m ∨ 0 ≤ p ∧ p < k ∧ k = m + 1) ∧ Hid (rfl' (s.data.toList.drop k) k p n j m = rfl' s.data.toList 0 (-1) 0 0 0)) (fun _ _ _ _ _ i => s.size - (intOf i).toNat)
  case atStart => exact ⟨0, 0, 0, 0, -1, rfl, rfl, rfl, rfl, rfl, Nat.zero_le _, by decide, by decide, Nat.one_pos, .inl ⟨rfl, rfl⟩, rfl⟩
  case round =>
    obtain ⟨k, n, j, m, p, rfl, rfl, rfl, hdv, rfl, hk, hm, hj, hn, hp, hd⟩ := hrel
    by_cases hlt : k < s.size
    · have hb : Hid (s.data.toList.drop k = s[k] :: s.data.toList.drop (k + 1)) := byte_at s k hlt
      obtain ⟨c, hc⟩ : ∃ c : UInt8, c = s[k] := ⟨_, rfl⟩
      have hub : c.toNat < 256 := c.toNat_lt
      have hget : (s[k]'hlt).toNat = c.toNat := by rw [hc]
      rw [← hc] at hb
      clear hc
      have hd' : Hid (rfl' (c :: s.data.toList.drop (k + 1)) k p n j m = rfl' s.data.toList 0 (-1) 0 0 0) := by
        have := hd.out
        rw [hb.out] at this
        exact this
      clear hd hb
      by_cases h46 : c.toNat = 46 ∧ p < 0
      · obtain ⟨h46a, h46b⟩ := h46
        rw [h46a] at hget
        have e46 : Hid (c.toNat = 46) := h46a
        clear h46a hub
        go_wp2
        refine ⟨⟨k + 1, n, j, m, k, rfl, rfl, rfl, hdv, rfl, by omega, hm, hj, hn, .inr ⟨by omega, by omega, by omega⟩, ?_⟩, by simp [intOf]; omega⟩
        have := hd'.out
        rw [rfl', if_pos ⟨e46.out, h46b⟩] at this
        exact this
      · by_cases h48 : 48 ≤ c.toNat ∧ c.toNat ≤ 57
        · obtain ⟨h48a, h48b⟩ := h48
          have h46' : ¬ (c.toNat : Int) = 46 := by omega
          have g1 : ¬ (c.toNat : Int) < 48 := by omega
          have g2 : ¬ 57 < (c.toNat : Int) := by omega
          by_cases h15 : m < 15
          · have hn15 : n < 1000000000000000 := Nat.lt_of_lt_of_le hn.out (Nat.le_trans (Nat.pow_le_pow_right (by decide) (show m ≤ 15 by omega)) (by decide))
            have hj15 : 10 ^ j ≤ 1000000000000000 := (Nat.le_trans (Nat.pow_le_pow_right (by decide) (show j ≤ 15 by omega)) (by decide))
            obtain ⟨D, hD⟩ : ∃ D : Nat, Hid (D = 10 ^ j) := ⟨_, rfl⟩
            have hdv2 := hdv.out
            rw [← hD.out] at hdv2 hj15
            subst hdv2
            have q1 : ¬ 15 < (m : Int) + 1 := by omega
            by_cases hpp : 0 ≤ p
            · go_wp2
              refine ⟨⟨k + 1, n * 10 + (c.toNat - 48), j + 1, m + 1, p, rfl, rfl, by rw [show 10 * (n : Int) + ((c.toNat : Int) - 48) = ((n * 10 + (c.toNat - 48) : Nat) : Int) by omega], ?_, rfl, by omega, by omega, by omega, ?_, by omega, ?_⟩, by simp [intOf]; omega⟩
              · show Value.int .i64 (10 * (D : Int)) = _
                rw [hD.out, Nat.pow_succ, Int.natCast_mul, Int.mul_comm]; rfl
              · have := hn.out
                show n * 10 + (c.toNat - 48) < 10 ^ (m + 1)
                rw [Nat.pow_succ]; omega
              · have := hd'.out
                rw [rfl', if_neg h46, if_pos ⟨h48a, h48b⟩, if_pos h15, if_pos hpp] at this
                exact this
            · go_wp2
              refine ⟨⟨k + 1, n * 10 + (c.toNat - 48), j, m + 1, p, rfl, rfl, by rw [show 10 * (n : Int) + ((c.toNat : Int) - 48) = ((n * 10 + (c.toNat - 48) : Nat) : Int) by omega], ?_, rfl, by omega, by omega, by omega, ?_, by omega, ?_⟩, by simp [intOf]; omega⟩
              · show Value.int .i64 (D : Int) = _
                rw [hD.out]
              · have := hn.out
                show n * 10 + (c.toNat - 48) < 10 ^ (m + 1)
                rw [Nat.pow_succ]; omega
              · have := hd'.out
                rw [rfl', if_neg h46, if_pos ⟨h48a, h48b⟩, if_pos h15, if_neg hpp] at this
                exact this
          · have hm15 : m = 15 := by omega
            have e3 : rfl' s.data.toList 0 (-1) 0 0 0 = none := by
              rw [← hd'.out, rfl', if_neg h46, if_pos ⟨h48a, h48b⟩, if_neg h15]
            subst hm15
            go_wp2
            refine bodyPost_ret (v := .tuple #[.agg #[.int .i64 0, .string ⟨#[]⟩, .int .i64 0, .int .u64 0, .string ⟨#[]⟩, .int .i64 0, .int .i64 0, .int .i64 0, .int .i64 0, .slice none 0 0, .slice none 0 0], .bool false]) (by simp [results, Tryd.results25, go_sem]) rfl ⟨by rw [ho.out, e3]; rfl, below1 w _⟩
        · have e3 : rfl' s.data.toList 0 (-1) 0 0 0 = none := by
            rw [← hd'.out, rfl', if_neg h46, if_neg h48]
          by_cases h46a : c.toNat = 46
          · have hp0 : ¬ p < 0 := fun h => h46 ⟨h46a, h⟩
            rw [h46a] at hget
            clear h46 h48 hub h46a
            go_wp2
            refine bodyPost_ret (v := .tuple #[.agg #[.int .i64 0, .string ⟨#[]⟩, .int .i64 0, .int .u64 0, .string ⟨#[]⟩, .int .i64 0, .int .i64 0, .int .i64 0, .int .i64 0, .slice none 0 0, .slice none 0 0], .bool false]) (by simp [results, Tryd.results25, go_sem]) rfl ⟨by rw [ho.out, e3]; rfl, below1 w _⟩
          · have h46b : ¬ (c.toNat : Int) = 46 := by omega
            by_cases h48a : c.toNat < 48
            · have g1 : (c.toNat : Int) < 48 := by omega
              go_wp2
              refine bodyPost_ret (v := .tuple #[.agg #[.int .i64 0, .string ⟨#[]⟩, .int .i64 0, .int .u64 0, .string ⟨#[]⟩, .int .i64 0, .int .i64 0, .int .i64 0, .int .i64 0, .slice none 0 0, .slice none 0 0], .bool false]) (by simp [results, Tryd.results25, go_sem]) rfl ⟨by rw [ho.out, e3]; rfl, below1 w _⟩
            · have g1 : ¬ (c.toNat : Int) < 48 := by omega
              have g2 : 57 < (c.toNat : Int) := by omega
              go_wp2
              refine bodyPost_ret (v := .tuple #[.agg #[.int .i64 0, .string ⟨#[]⟩, .int .i64 0, .int .u64 0, .string ⟨#[]⟩, .int .i64 0, .int .i64 0, .int .i64 0, .int .i64 0, .slice none 0 0, .slice none 0 0], .bool false]) (by simp [results, Tryd.results25, go_sem]) rfl ⟨by rw [ho.out, e3]; rfl, below1 w _⟩
    · have e : k = s.size := by omega
      subst e
      have hd' := hd.out
      rw [List.drop_of_length_le (by simp)] at hd'
      have hlen : s.data.toList.length = s.size := by rw [Array.length_toList]; rfl
      have hE : Hid (fEnd s.data.toList (rfl' s.data.toList 0 (-1) 0 0 0) = if p < 1 ∨ p = (s.size : Int) - 1 ∨ (1 < p ∧ s.data.toList.head? = some 48) then none else some (n, j)) := by
        rw [← hd', rfl', ← hlen]; rfl
      clear hd hd' hlen hlt hk
      by_cases hp1 : p < 1
      · have e4 := hE.out
        rw [if_pos (.inl hp1)] at e4
        go_wp2
        refine bodyPost_ret (v := .tuple #[.agg #[.int .i64 0, .string ⟨#[]⟩, .int .i64 0, .int .u64 0, .string ⟨#[]⟩, .int .i64 0, .int .i64 0, .int .i64 0, .int .i64 0, .slice none 0 0, .slice none 0 0], .bool false]) (by simp [results, Tryd.results25, go_sem]) rfl ⟨by rw [ho.out, e4]; rfl, below1 w _⟩
      by_cases hp2 : p = (s.size : Int) - 1
      · have e4 := hE.out
        rw [if_pos (.inr (.inl hp2))] at e4
        go_wp2
        refine bodyPost_ret (v := .tuple #[.agg #[.int .i64 0, .string ⟨#[]⟩, .int .i64 0, .int .u64 0, .string ⟨#[]⟩, .int .i64 0, .int .i64 0, .int .i64 0, .int .i64 0, .slice none 0 0, .slice none 0 0], .bool false]) (by simp [results, Tryd.results25, go_sem]) rfl ⟨by rw [ho.out, e4]; rfl, below1 w _⟩
      have hs0 : 0 < s.size := by omega
      have hh : s.data.toList.head? = some s[0] := by
        have := byte_at s 0 hs0
        rw [List.drop_zero] at this
        rw [this]; rfl
      obtain ⟨c, hc⟩ : ∃ c : UInt8, c = s[0] := ⟨_, rfl⟩
      have hub : c.toNat < 256 := c.toNat_lt
      have hget : (s[0]'hs0).toNat = c.toNat := by rw [hc]
      rw [← hc] at hh
      clear hc
      have hn15 : n < 9007199254740992 := Nat.lt_of_lt_of_le hn.out (Nat.le_trans (Nat.pow_le_pow_right (by decide) hm) (by decide))
      have hQ : Hid (∀ W : World, (binOp .quo 83 (.float .f64 (floatOfInt .f64 n)) (.float .f64 (floatOfInt .f64 ((10 ^ j : Nat) : Int)))).run Tryd.prog W = .ok (.float .f64 (fq n j)) W) := fun W => run_float_arith W .quo 83 .f64 _ _ _ (fq_some n j hn15 (by omega)).1
      have hdv2 := hdv.out
      clear hdv hn
      obtain ⟨D, hD⟩ : ∃ D : Nat, Hid (D = 10 ^ j) := ⟨_, rfl⟩
      rw [← hD.out] at hdv2 hQ
      subst hdv2
      obtain ⟨q, hq⟩ : ∃ q : Nat, Hid (q = fq n j) := ⟨_, rfl⟩
      rw [← hq.out] at hQ
      have hQ2 := hQ.out
      by_cases hp3 : 1 < p
      · by_cases h48 : c.toNat = 48
        · have e4 := hE.out
          rw [if_pos (.inr (.inr ⟨hp3, by rw [hh, show c = 48 from UInt8.toNat_inj.mp h48]⟩))] at e4
          rw [h48] at hget
          clear h48 hub hh hQ hQ2
          go_wp2
          refine bodyPost_ret (v := .tuple #[.agg #[.int .i64 0, .string ⟨#[]⟩, .int .i64 0, .int .u64 0, .string ⟨#[]⟩, .int .i64 0, .int .i64 0, .int .i64 0, .int .i64 0, .slice none 0 0, .slice none 0 0], .bool false]) (by simp [results, Tryd.results25, go_sem]) rfl ⟨by rw [ho.out, e4]; rfl, below1 w _⟩
        · have e4 := hE.out
          rw [if_neg (fun h => by rcases h with h | h | ⟨_, h⟩; exact hp1 h; exact hp2 h; rw [hh] at h; cases h; exact h48 rfl)] at e4
          have h48' : ((c.toNat : Int) == 48) = false := by simp; omega
          clear hh h48 hub
          go_wp2_with (go_at_call 53; refine (toBits_any _ _).mono ?_; rintro r w' ⟨rfl, rfl⟩)
          refine bodyPost_ret (v := .tuple #[.agg #[.int .i64 3, .string ⟨#[102, 108, 111, 97, 116]⟩, .int .i64 0, .int .u64 q, .string ⟨#[]⟩, .int .i64 0, .int .i64 0, .int .i64 0, .int .i64 0, .slice none 0 0, .slice none 0 0], .bool true]) (by simp [results, Tryd.results25, go_sem]) rfl ⟨by rw [ho.out, e4, hq.out]; rfl, below1 w _⟩
      · have e4 := hE.out
        rw [if_neg (fun h => by rcases h with h | h | ⟨h, _⟩; exact hp1 h; exact hp2 h; exact hp3 h)] at e4
        clear hh hub hget
        go_wp2_with (go_at_call 53; refine (toBits_any _ _).mono ?_; rintro r w' ⟨rfl, rfl⟩)
        refine bodyPost_ret (v := .tuple #[.agg #[.int .i64 3, .string ⟨#[102, 108, 111, 97, 116]⟩, .int .i64 0, .int .u64 q, .string ⟨#[]⟩, .int .i64 0, .int .i64 0, .int .i64 0, .int .i64 0, .slice none 0 0, .slice none 0 0], .bool true]) (by simp [results, Tryd.results25, go_sem]) rfl ⟨by rw [ho.out, e4, hq.out]; rfl, below1 w _⟩
end Go.Proofs.YtoplmbboaobahaaDoor
