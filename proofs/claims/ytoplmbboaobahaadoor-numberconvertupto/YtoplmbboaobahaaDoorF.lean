/-
  The walks of digits and plain, and of the library's Itoa at a small int.
-/
import Derived.Test.YtoplmbboaobahaaDoorB
import Derived.Lib.Strings
namespace Go.Proofs.YtoplmbboaobahaaDoor
open Go.RowKit

attribute [local go_sem] b28_0 b28_01 b28_012 b28_013 b28_014 b35_01 b35_0 b35 mkI69

/-- A row of digits as a number, behind what stands ahead of it. -/
def dig : List UInt8 → Nat → Option Nat
  | [], n => some n
  | c :: cs, n => if 48 ≤ c.toNat ∧ c.toNat ≤ 57 then dig cs (n * 10 + (c.toNat - 48)) else none

theorem dig_lt : ∀ (l : List UInt8) (n k r : Nat), n < 10 ^ k → dig l n = some r → r < 10 ^ (k + l.length)
  | [], n, k, r, hn, h => by simp only [dig, Option.some.injEq] at h; subst h; simpa using hn
  | c :: cs, n, k, r, hn, h => by
    unfold dig at h
    split at h
    · rename_i hc
      have := dig_lt cs _ (k + 1) r (by rw [Nat.pow_succ]; omega) h
      rw [List.length_cons, show k + (cs.length + 1) = k + 1 + cs.length by omega]; exact this
    · cases h

theorem itoa5 (w : World) : Calls Tryd.prog 63 #[.int .i64 5] w fun r w' => r = .returned (.string ⟨#[53]⟩) ∧ w' = w := by
  go_enter Tryd.func63, Tryd.ntmps63
  go_wp2
  go_ret
  exact ⟨rfl, rfl⟩

theorem byte_at (s : ByteArray) (k : Nat) (hk : k < s.size) : s.data.toList.drop k = s[k] :: s.data.toList.drop (k + 1) := by
  rw [List.drop_eq_getElem_cons (by simpa using hk)]; rfl

/-- Is it a row of digits; and which number is it, if so? -/
def digB (l : List UInt8) : Bool := (dig l 0).isSome
def digN (l : List UInt8) : Nat := (dig l 0).getD 0

theorem dig_bad (l : List UInt8) (c : UInt8) (cs : List UInt8) (m k : Nat) (h : l.drop k = c :: cs) (hd : dig (l.drop k) m = dig l 0) (hc : ¬ (48 ≤ c.toNat ∧ c.toNat ≤ 57)) : digB l = false ∧ digN l = 0 := by
  have e : dig (c :: cs) m = none := by unfold dig; rw [if_neg hc]
  unfold digB digN
  rw [← hd, h, e]
  exact ⟨rfl, rfl⟩

set_option maxRecDepth 100000 in
set_option maxHeartbeats 1000000 in
theorem digits_any (s : ByteArray) (w : World) (hs : s.size ≤ 19) :
    Calls Tryd.prog 59 #[.string s] w fun r w' => r = .returned (.tuple #[.int .u64 (digN s.data.toList), .bool (digB s.data.toList)]) ∧ w' = w := by
  obtain ⟨n0, hn0⟩ : ∃ n0 : Nat, Hid (n0 = digN s.data.toList) := ⟨_, rfl⟩
  obtain ⟨b0, hb0⟩ : ∃ b0 : Bool, Hid (b0 = digB s.data.toList) := ⟨_, rfl⟩
  rw [← hn0.out, ← hb0.out]
  go_enter Tryd.func59, Tryd.ntmps59
  go_wp2
  go_loop [2, 3, 4, 5, 11] (fun _ _ n _ i => ∃ k : Nat, k ≤ s.size ∧ i = .int .i64 k ∧ ∃ m : Nat, n = .int .u64 m ∧ Hid (m < 10 ^ k) ∧ Hid (dig (s.data.toList.drop k) m = dig s.data.toList 0)) (fun _ _ _ _ i => s.size - (intOf i).toNat)
  case atStart => exact ⟨0, Nat.zero_le _, rfl, 0, rfl, Nat.one_pos, rfl⟩
  case round =>
    obtain ⟨k, hk, rfl, m, rfl, hm, hd⟩ := hrel
    by_cases hlt : k < s.size
    · have hm2 : m < 1000000000000000000 := Nat.lt_of_lt_of_le hm.out (by
        have := Nat.pow_le_pow_right (n := 10) (by decide) (show k ≤ 18 by omega); simpa using this)
      have hb : Hid (s.data.toList.drop k = s[k] :: s.data.toList.drop (k + 1)) := byte_at s k hlt
      obtain ⟨c, hc⟩ : ∃ c : UInt8, c = s[k] := ⟨_, rfl⟩
      have hub : c.toNat < 256 := c.toNat_lt
      have hget : (s[k]'hlt).toNat = c.toNat := by rw [hc]
      rw [← hc] at hb
      clear hc
      go_wp2
      · have h3 : (c.toNat : Int) < 48 ∨ 57 < (c.toNat : Int) := by assumption
        obtain ⟨e1, e2⟩ := dig_bad _ _ _ _ _ hb.out hd.out (by omega)
        refine bodyPost_ret (v := .tuple #[.int .u64 (n0 : Nat), .bool b0]) (by simp [results, Tryd.results59, go_sem, hn0.out, hb0.out, e1, e2]) rfl ⟨rfl, rfl⟩
      · have h3 : 48 ≤ (c.toNat : Int) ∧ (c.toNat : Int) ≤ 57 := by assumption
        have hw1 : IntKind.u64.wrap (IntKind.u64.wrap ((m : Int) * 10) + IntKind.u64.wrap (((c.toNat : Int) - 48) % 256)) = ((m * 10 + (c.toNat - 48) : Nat) : Int) := by
          rw [wrap_u64 ((m : Int) * 10) (by omega) (by omega), wrap_u64 (((c.toNat : Int) - 48) % 256) (by omega) (by omega), wrap_u64 _ (by omega) (by omega)]; omega
        have hw2 : ((k : Int) + 1 + 9223372036854775808) % 18446744073709551616 - 9223372036854775808 = ((k + 1 : Nat) : Int) := by omega
        refine ⟨⟨_, _, _, _, _, ?_, rfl, rfl, rfl, rfl, rfl⟩, ?_⟩
        · refine ⟨k + 1, by omega, by rw [hw2], m * 10 + (c.toNat - 48), by rw [hw1], ?_, ?_⟩
          · have := hm.out
            show m * 10 + (c.toNat - 48) < 10 ^ (k + 1)
            rw [Nat.pow_succ]; omega
          · have hd' := hd.out
            rw [hb.out] at hd'
            have e3 : dig (c :: s.data.toList.drop (k + 1)) m = dig (s.data.toList.drop (k + 1)) (m * 10 + (c.toNat - 48)) := by
              rw [dig, if_pos (by omega)]
            exact e3.symm.trans hd'
        · rw [hw2]; simp [intOf]; omega
      · have h3 : (c.toNat : Int) < 48 := by assumption
        obtain ⟨e1, e2⟩ := dig_bad _ _ _ _ _ hb.out hd.out (by omega)
        refine bodyPost_ret (v := .tuple #[.int .u64 (n0 : Nat), .bool b0]) (by simp [results, Tryd.results59, go_sem, hn0.out, hb0.out, e1, e2]) rfl ⟨rfl, rfl⟩
    · have e : k = s.size := by omega
      subst e
      go_wp2
      have hd' := hd.out
      rw [List.drop_of_length_le (by simp)] at hd'
      have e1 : digN s.data.toList = m := by unfold digN; rw [← hd']; rfl
      have e2 : digB s.data.toList = true := by unfold digB; rw [← hd']; rfl
      refine bodyPost_ret (v := .tuple #[.int .u64 (n0 : Nat), .bool b0]) (by simp [results, Tryd.results59, go_sem, hn0.out, hb0.out, e1, e2]) rfl ⟨rfl, rfl⟩
end Go.Proofs.YtoplmbboaobahaaDoor
