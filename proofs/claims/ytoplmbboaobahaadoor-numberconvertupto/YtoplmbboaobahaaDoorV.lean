/-
  A number's digits, read as a number; the walks of plain, Int and Show at them.
-/
import Derived.Test.YtoplmbboaobahaaDoorU
import Derived.Test.YtoplmbboaobahaaDoorIt
namespace Go.Proofs.YtoplmbboaobahaaDoor
open Go.RowKit

theorem dig_append : ∀ (l : List UInt8) (c : UInt8) (n m : Nat), dig l n = some m → 48 ≤ c.toNat → c.toNat ≤ 57 → dig (l ++ [c]) n = some (m * 10 + (c.toNat - 48))
  | [], c, n, m, h, h1, h2 => by
    have e : n = m := by simpa [dig] using h
    subst e
    show dig [c] n = _
    rw [dig, if_pos ⟨h1, h2⟩, dig]
  | x :: xs, c, n, m, h, h1, h2 => by
    rw [List.cons_append, dig]
    rw [dig] at h
    split at h
    · rename_i hx
      rw [if_pos hx]; exact dig_append xs c _ m h h1 h2
    · cases h

theorem ofNat48 (k : Nat) (h : k < 10) : (UInt8.ofNat (48 + k)).toNat = 48 + k := by
  rw [UInt8.toNat_ofNat']; omega

theorem dig_dec (u : Nat) : dig (Lib.decDigits u) 0 = some u := by
  induction u using Nat.strongRecOn with
  | _ u ih =>
    rw [Lib.decDigits]
    split
    · rename_i h
      have e := ofNat48 u h
      rw [dig, if_pos ⟨by omega, by omega⟩, dig, e]
      congr 1; omega
    · rename_i h
      have e := ofNat48 (u % 10) (by omega)
      rw [dig_append _ _ _ _ (ih (u / 10) (by omega)) (by omega) (by omega), e]
      congr 1; omega

theorem dec_len (k : Nat) : ∀ u, u < 10 ^ (k + 1) → (Lib.decDigits u).length ≤ k + 1 := by
  induction k with
  | zero => intro u h; rw [Lib.decDigits, dif_pos (by simpa using h)]; simp
  | succ k ih =>
    intro u h
    rw [Lib.decDigits]
    split
    · simp
    · have h2 : u / 10 < 10 ^ (k + 1) := by rw [Nat.pow_succ] at h; omega
      have := ih _ h2
      simp; omega

theorem dec_head (u : Nat) : ∃ c r, Lib.decDigits u = c :: r ∧ (u ≠ 0 → c.toNat ≠ 48) ∧ (u = 0 → c = 48 ∧ r = []) := by
  induction u using Nat.strongRecOn with
  | _ u ih =>
    rw [Lib.decDigits]
    split
    · rename_i h
      refine ⟨_, _, rfl, fun h0 => by rw [ofNat48 u h]; omega, fun h0 => ?_⟩
      subst h0; exact ⟨rfl, rfl⟩
    · rename_i h
      obtain ⟨c, r, e, h1, _⟩ := ih (u / 10) (by omega)
      rw [e]
      exact ⟨c, r ++ [UInt8.ofNat (48 + u % 10)], rfl, fun _ => h1 (by omega), fun h0 => by omega⟩

attribute [local go_sem] refold2 cell3_0 cell3_1 b28_0 b28_01 b28_012 b28_013 b28_014 b35_01 b35_0 b35 mkI69

/-- The text of a number that is not below 0. -/
def decT (u : Nat) : ByteArray := ⟨(Lib.decDigits u).toArray⟩

set_option maxRecDepth 100000 in
set_option maxHeartbeats 1000000 in
theorem plain_dec (u : Nat) (w : World) : Calls Tryd.prog 60 #[.string (decT u)] w fun r w' => r = .returned (.bool true) ∧ w' = w := by
  obtain ⟨c, r, e, h1, h2⟩ := dec_head u
  have es : decT u = ⟨(c :: r).toArray⟩ := by unfold decT; rw [e]
  by_cases h0 : u = 0
  · obtain ⟨rfl, rfl⟩ := h2 h0
    rw [es]
    go_enter Tryd.func60, Tryd.ntmps60
    go_wp2
    go_ret
    exact ⟨rfl, rfl⟩
  · have h3 := h1 h0
    rw [es]
    have hsz : 0 < (⟨(c :: r).toArray⟩ : ByteArray).size := by simp [ByteArray.size]
    have hne : (⟨(c :: r).toArray⟩ : ByteArray).toList.isEmpty = false := by rw [ByteArray.toList_eq]; rfl
    have hl : (⟨(c :: r).toArray⟩ : ByteArray).toList = c :: r := by rw [ByteArray.toList_eq]
    have hne2 : ((c :: r) == [48]) = false := by
      have : c ≠ 48 := fun e => h3 (by rw [e]; rfl)
      simp [this]
    have hget : ∀ h, ((⟨(c :: r).toArray⟩ : ByteArray)[0]'h).toNat = c.toNat := fun _ => rfl
    have h4 : ((c.toNat : Int) != 48) = true := by simp; omega
    generalize (⟨(c :: r).toArray⟩ : ByteArray) = s at hsz hne hl hget
    go_enter Tryd.func60, Tryd.ntmps60
    go_wp2
    go_ret
    exact ⟨rfl, rfl⟩

set_option maxRecDepth 100000 in
set_option maxHeartbeats 1000000 in
theorem int_dec (u : Nat) (w : World) (hu : u ≤ 9223372036854775807) : Calls Tryd.prog 22 #[.string (decT u)] w fun r w' => r = .returned (.tuple #[dat 2 ⟨#[105, 110, 116]⟩ u 0 ⟨#[]⟩, .bool true]) ∧ Below w.heap.size w w' := by
  have hsz : (decT u).size ≤ 19 := by
    have := dec_len 18 u (by omega)
    show (Lib.decDigits u).toArray.size ≤ 19
    simpa using this
  have hl : (decT u).data.toList = Lib.decDigits u := by simp [decT]
  have HD : Hid (∀ W, Calls Tryd.prog 59 #[.string (decT u)] W fun r w' => r = .returned (.tuple #[.int .u64 u, .bool true]) ∧ w' = W) := fun W => by
    have h := digits_any (decT u) W hsz
    rw [hl, show digN (Lib.decDigits u) = u by unfold digN; rw [dig_dec]; rfl, show digB (Lib.decDigits u) = true by unfold digB; rw [dig_dec]; rfl] at h
    exact h
  have HP : Hid (∀ W, Calls Tryd.prog 60 #[.string (decT u)] W fun r w' => r = .returned (.bool true) ∧ w' = W) := fun W => plain_dec u W
  clear hsz hl
  generalize decT u = s at HD HP ⊢
  have h1 : ¬ (9223372036854775807 : Int) < u := by omega
  simp only [dat, D]
  go_enter Tryd.func22, Tryd.ntmps22
  go_wp2_with (first
    | (go_at_call 59; refine (HD.out _).mono ?_; rintro r w' ⟨rfl, rfl⟩)
    | (go_at_call 60; refine (HP.out _).mono ?_; rintro r w' ⟨rfl, rfl⟩)
    | (go_at_call 35; refine (intOf_any _ _ _ (by decide)).mono ?_; simp only [dat, D]; rintro r w' ⟨rfl, hb⟩; obtain ⟨hc, hf⟩ := bcell hb; have hz : w.heap.size < w'.heap.size := by (have := hb.size; simp at this; omega)))
  refine bodyPost_ret (v := .tuple #[.agg #[.int .i64 2, .string ⟨#[105, 110, 116]⟩, .int .i64 u, .int .u64 0, .string ⟨#[]⟩, .int .i64 0, .int .i64 0, .int .i64 0, .int .i64 0, .slice none 0 0, .slice none 0 0], .bool true]) (by simp [results, Tryd.results22, go_sem, hc]) rfl ⟨rfl, ?_⟩
  exact bset ((below1 w _).trans (hb.mono (by simp))) (Nat.le_refl _) _ _ _ _ _ _ _ _ _ _ _

set_option maxRecDepth 100000 in
set_option maxHeartbeats 1000000 in
theorem show_int (n : Int) (w : World) (h0 : -9223372036854775808 ≤ n) (h1 : n ≤ 9223372036854775807) (htab : ∀ W, Below w.heap.size w W → Lib.TabIs Tryd.prog W "internal/strconv.uint64pow10" .u64 Lib.pow10Tab) :
    Calls Tryd.prog 26 #[dat 2 ⟨#[105, 110, 116]⟩ n 0 ⟨#[]⟩] w fun r w' => r = .returned (.string ⟨(Lib.itoa n).toArray⟩) ∧ Below w.heap.size w w' := by
  have HI : Hid (∀ W, Below w.heap.size w W → Calls Tryd.prog 63 #[.int .i64 n] W fun r w' => r = .returned (.string ⟨(Lib.itoa n).toArray⟩) ∧ ∃ k os, w' = Sort.grow (W.drewN k) os) := fun W hW => itoa_any n h0 h1 W (htab W hW)
  clear htab h0 h1
  generalize (⟨(Lib.itoa n).toArray⟩ : ByteArray) = s at HI ⊢
  simp only [dat, D]
  go_enter Tryd.func26, Tryd.ntmps26
  go_wp2_with fail
  refine (HI.out _ (below1 _ _)).mono ?_
  rintro r w1 ⟨rfl, k, os, hw⟩
  have b1 : Below (w.heap.size + 1) (w.alloc (.cells #[.int .i64 2, .string ⟨#[105, 110, 116]⟩, .int .i64 n, .int .u64 0, .string ⟨#[]⟩, .int .i64 0, .int .i64 0, .int .i64 0, .int .i64 0, .slice none 0 0, .slice none 0 0] 28)) w1 := by
    rw [hw]
    refine ⟨rfl, rfl, rfl, by simp [Sort.grow, World.drewN], fun j hj => ?_⟩
    show (_ ++ os)[j]? = _
    rw [Array.getElem?_append_left (by simpa [World.drewN] using hj)]; rfl
  clear hw
  have hc := fun j => (b1.cell (p := ⟨w.heap.size, j, none⟩) (Nat.lt_succ_self _)).trans (World.cell?_alloc_new _ _ _ j)
  go_wp2_with fail
  go_ret
  exact ⟨rfl, (below1 w _).trans (b1.mono (by omega))⟩
end Go.Proofs.YtoplmbboaobahaaDoor
