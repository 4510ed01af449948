/-
  Plain facts on a text's literal: what it says, and the place behind it, or what is wrong first.
-/
import Derived.Test.YthbnegggohegkaaGreatDoorG
namespace Go.Proofs.YthbnegggohegkaaGreatDoor
open Go.RowKit

def litGo (l : Bytes) (src : Nat) : Nat → Nat → Bytes → Except (Nat × Nat) (Bytes × Nat)
  | 0, _, _ => .error (11, src)
  | f + 1, k, acc =>
    if k < l.length then
      if (l.getD k 0).toNat = 10 then .error (11, src)
      else if (l.getD k 0).toNat = 34 then .ok (acc, k + 1)
      else if (l.getD k 0).toNat = 92 then
        if (esc (l.drop k)).2 = 0 then .error (11, k) else litGo l src f (k + (esc (l.drop k)).2) (acc ++ [UInt8.ofNat (esc (l.drop k)).1])
      else litGo l src f (k + 1) (acc ++ [l.getD k 0])
    else .error (11, src)

/-- The literal that began at src, read on from k; acc: what it has said so far. -/
def lit (l : Bytes) (src k : Nat) (acc : Bytes) : Except (Nat × Nat) (Bytes × Nat) := litGo l src (l.length + 1) k acc

theorem litGo_fuel (l : Bytes) (src : Nat) : ∀ (f g k : Nat) (acc : Bytes), l.length < k + f → l.length < k + g → litGo l src f k acc = litGo l src g k acc := by
  intro f
  induction f with
  | zero =>
    intro g k acc hf hg
    cases g with
    | zero => rfl
    | succ g => simp only [litGo]; rw [if_neg (by omega)]
  | succ f ih =>
    intro g k acc hf hg
    cases g with
    | zero => simp only [litGo]; rw [if_neg (by omega)]
    | succ g =>
      simp only [litGo]
      by_cases hk : k < l.length
      · rw [if_pos hk, if_pos hk]
        by_cases h1 : (l.getD k 0).toNat = 10
        · rw [if_pos h1, if_pos h1]
        rw [if_neg h1, if_neg h1]
        by_cases h2 : (l.getD k 0).toNat = 34
        · rw [if_pos h2, if_pos h2]
        rw [if_neg h2, if_neg h2]
        by_cases h3 : (l.getD k 0).toNat = 92
        · rw [if_pos h3, if_pos h3]
          by_cases h4 : (esc (l.drop k)).2 = 0
          · rw [if_pos h4, if_pos h4]
          rw [if_neg h4, if_neg h4]
          exact ih _ _ _ (by omega) (by omega)
        · rw [if_neg h3, if_neg h3]
          exact ih _ _ _ (by omega) (by omega)
      · rw [if_neg hk, if_neg hk]

theorem lit_end (l : Bytes) (src k : Nat) (acc : Bytes) (h : ¬ k < l.length) : lit l src k acc = .error (11, src) := by
  rw [lit, litGo, if_neg h]
theorem lit_feed (l : Bytes) (src k : Nat) (acc : Bytes) (h : k < l.length) (h1 : (l.getD k 0).toNat = 10) : lit l src k acc = .error (11, src) := by
  rw [lit, litGo, if_pos h, if_pos h1]
theorem lit_quote (l : Bytes) (src k : Nat) (acc : Bytes) (h : k < l.length) (h1 : (l.getD k 0).toNat = 34) : lit l src k acc = .ok (acc, k + 1) := by
  rw [lit, litGo, if_pos h, if_neg (by omega), if_pos h1]
theorem lit_none (l : Bytes) (src k : Nat) (acc : Bytes) (h : k < l.length) (h1 : (l.getD k 0).toNat = 92) (h2 : (esc (l.drop k)).2 = 0) : lit l src k acc = .error (11, k) := by
  rw [lit, litGo, if_pos h, if_neg (by omega), if_neg (by omega), if_pos h1, if_pos h2]
theorem lit_esc (l : Bytes) (src k b n : Nat) (acc : Bytes) (h : k < l.length) (h1 : (l.getD k 0).toNat = 92) (he : (b, n) = esc (l.drop k)) (h2 : n ≠ 0) : lit l src k acc = lit l src (k + n) (acc ++ [UInt8.ofNat b]) := by
  rw [lit, litGo, if_pos h, if_neg (by omega), if_neg (by omega), if_pos h1, ← he, if_neg h2]
  exact litGo_fuel _ _ _ _ _ _ (by omega) (by omega)
theorem lit_plain (l : Bytes) (src k : Nat) (acc : Bytes) (h : k < l.length) (h1 : (l.getD k 0).toNat ≠ 10) (h2 : (l.getD k 0).toNat ≠ 34) (h3 : (l.getD k 0).toNat ≠ 92) : lit l src k acc = lit l src (k + 1) (acc ++ [l.getD k 0]) := by
  rw [lit, litGo, if_pos h, if_neg h1, if_neg h2, if_neg h3]
  exact litGo_fuel _ _ _ _ _ _ (by omega) (by omega)

/-- A run of plain bytes. -/
theorem lit_run (l : Bytes) (src : Nat) : ∀ (d k : Nat) (acc : Bytes), k + d ≤ l.length → (∀ j, k ≤ j → j < k + d → (l.getD j 0).toNat ≠ 10 ∧ (l.getD j 0).toNat ≠ 34 ∧ (l.getD j 0).toNat ≠ 92) →
    lit l src k acc = lit l src (k + d) (acc ++ (l.drop k).take d) := by
  intro d
  induction d with
  | zero => intro k acc _ _; simp
  | succ d ih =>
    intro k acc hk hp
    obtain ⟨h1, h2, h3⟩ := hp k (Nat.le_refl _) (by omega)
    rw [lit_plain l src k acc (by omega) h1 h2 h3, ih (k + 1) _ (by omega) (fun j hj hj2 => hp j (by omega) (by omega))]
    have e : (l.drop k).take (d + 1) = l.getD k 0 :: (l.drop (k + 1)).take d := by
      rw [List.drop_eq_getElem_cons (show k < l.length by omega), List.take_succ_cons, List.getD_eq_getElem?_getD, List.getElem?_eq_getElem (show k < l.length by omega)]
      rfl
    rw [e, List.append_assoc]
    congr 1
    omega

theorem esc_fits (l : Bytes) : (esc l).2 ≤ l.length := by
  unfold esc
  repeat' split
  all_goals first | (simp; done) | (simp only; omega)

/-- The bytes of an escape are all below 128. -/
theorem esc_ascii (l : Bytes) (h0 : (l.getD 0 0).toNat = 92) (j : Nat) (hj : j < (esc l).2) : (l.getD j 0).toNat < 128 := by
  have s2 : 0 ≤ six (l.getD 2 0).toNat → (l.getD 2 0).toNat < 128 := by unfold six; repeat' split <;> omega
  have s3 : 0 ≤ six (l.getD 3 0).toNat → (l.getD 3 0).toNat < 128 := by unfold six; repeat' split <;> omega
  unfold esc at hj
  repeat' split at hj
  all_goals (
    simp only at hj
    first
      | omega
      | (have : j = 0 ∨ j = 1 := by omega
         rcases this with rfl | rfl <;> omega)
      | (have : j = 0 ∨ j = 1 ∨ j = 2 ∨ j = 3 := by omega
         rcases this with rfl | rfl | rfl | rfl
         · omega
         · omega
         · exact s2 (by omega)
         · exact s3 (by omega)))
end Go.Proofs.YthbnegggohegkaaGreatDoor
