/- . -/
import Derived.Laws.RangeAny
import Derived.Laws.Strings
namespace Go.Proofs.YtdbijkgnddcneaaGreatDoor.Lx
open Go
abbrev Bytes := List UInt8
def letterN (n : Nat) : Bool := (decide (97 ≤ n) && decide (n ≤ 122)) || (decide (65 ≤ n) && decide (n ≤ 90)) || n == 95
def digitN (n : Nat) : Bool := decide (48 ≤ n) && decide (n ≤ 57)
def partN (n : Nat) : Bool := letterN n || digitN n
def spanB (q : Nat → Bool) (l : Bytes) : Nat := (l.takeWhile fun b => q b.toNat).length
theorem spanB_nil (q : Nat → Bool) : spanB q [] = 0 := rfl
theorem spanB_cons (q : Nat → Bool) (b : UInt8) (l : Bytes) : spanB q (b :: l) = if q b.toNat then spanB q l + 1 else 0 := by
 unfold spanB
 by_cases h : q b.toNat <;> simp [h]
theorem spanB_all (q : Nat → Bool) (l : Bytes) (h : ∀ b ∈ l, q b.toNat = true) : spanB q l = l.length := by
 induction l with
 | nil => rfl
 | cons b l ih => rw [spanB_cons, if_pos (h b (by simp)), ih (fun c hc => h c (by simp [hc]))]; rfl
theorem spanB_stop (q : Nat → Bool) (l : Bytes) (n : Nat) (hn : n < l.length) (h : ∀ j, (hj : j < n) → q (l[j]'(by omega)).toNat = true) (hs : q l[n].toNat = false) : spanB q l = n := by
 induction l generalizing n with
 | nil => simp at hn
 | cons b l ih =>
  rw [spanB_cons]
  cases n with
  | zero => simp at hs; simp [hs]
  | succ n =>
   have h0 := h 0 (by omega)
   simp at h0
   rw [if_pos h0, ih n (by simpa using hn) (fun j hj => by have := h (j + 1) (by omega); simpa using this) (by simpa using hs)]
theorem width_le (s : ByteArray) (pos : Nat) (h : pos < s.size) : 1 ≤ (Utf8.decode s pos).2 := by
 by_cases ha : (s[pos]'h).toNat < 128
 ·rw [decode_ascii s pos h ha]
  exact Nat.le_refl _
 ·exact (decode_high s pos h (by omega)).2
theorem get_bang (s : ByteArray) (j : Nat) (h : j < s.size) : s.get! j = s[j]'h := get_at s j h
theorem decode_rest (s : ByteArray) (pos : Nat) (h : pos < s.size) :
  pos + (Utf8.decode s pos).2 ≤ s.size ∧ ∀ j, pos < j → j < pos + (Utf8.decode s pos).2 → 128 ≤ (s.get! j).toNat := by
 have aux : ∀ n, n ≤ 4 → (∀ k, 1 ≤ k → k < n → pos + k < s.size ∧ (s.get! (pos + k)).toNat / 64 = 2) → 1 ≤ n →
   pos + n ≤ s.size ∧ ∀ j, pos < j → j < pos + n → 128 ≤ (s.get! j).toNat := by
  intro n _ hk h1
  refine ⟨?_, fun j h2 h3 => ?_⟩
  ·rcases Nat.lt_or_ge 1 n with h4 | h4
   ·have := (hk (n - 1) (by omega) (by omega)).1; omega
   ·omega
  ·have := (hk (j - pos) (by omega) (by omega)).2
   rw [show pos + (j - pos) = j by omega] at this
   omega
 simp only [Utf8.decode]
 repeat' split
 all_goals (refine aux _ (by simp) ?_ (by simp); intro k hk1 hk2; simp at hk2; simp_all; try omega)
 all_goals (
  have hk : k = 1 ∨ k = 2 ∨ k = 3 := by omega
  rcases hk with rfl | rfl | rfl <;> simp_all)
def wordTab : List (Bytes × Bool) := [([97, 110, 121], true), ([98, 114, 101, 97, 107], true), ([99, 97, 115, 101], false), ([99, 111, 110, 116, 105, 110, 117, 101], true), ([100, 101, 102, 97, 117, 108, 116], false), ([100, 101, 102, 101, 114], false), ([101, 108, 115, 101], false), ([102, 97, 108, 108, 116, 104, 114, 111, 117, 103, 104], true), ([102, 97, 108, 115, 101], true), ([102, 111, 114], false), ([102, 117, 110, 99], true), ([105, 102], false), ([105, 110], false), ([109, 97, 112], true), ([110, 105, 108], true), ([112, 114, 111, 116, 111, 99, 111, 108], false), ([114, 101, 116, 117, 114, 110], true), ([115, 116, 114, 117, 99, 116], false), ([115, 119, 105, 116, 99, 104], false), ([116, 114, 117, 101], true), ([116, 121, 112, 101], false), ([118, 97, 114], false)]
def signTab : List Bytes := [[60, 60, 61], [62, 62, 61], [58, 61], [61, 61], [33, 61], [60, 61], [62, 61], [38, 38], [124, 124], [60, 60], [62, 62], [43, 61], [45, 61], [42, 61], [47, 61], [37, 61], [38, 61], [124, 61], [94, 61], [43, 43], [45, 45], [43], [45], [42], [47], [37], [38], [124], [94], [33], [60], [62], [61], [40], [41], [91], [93], [123], [125], [44], [46], [58]]
def wordL (k : Nat) : Bytes := (wordTab.getD k ([], false)).1
def wordE (k : Nat) : Bool := (wordTab.getD k ([], false)).2
def signL (k : Nat) : Bytes := signTab.getD k []
def wordS (k : Nat) : ByteArray := ⟨(wordL k).toArray⟩
def signS (k : Nat) : ByteArray := ⟨(signL k).toArray⟩
theorem wordS_toList (k : Nat) : (wordS k).toList = wordL k := by rw [ByteArray.toList_eq]; rfl
def isWord (l : Bytes) : Bool := wordTab.any fun x => x.1 == l
theorem isWord_of (l : Bytes) (k : Nat) (hk : k < 22) (h : wordL k = l) : isWord l = true := by
 unfold isWord
 rw [List.any_eq_true]
 have e : wordL k = (wordTab[k]'hk).1 := by simp only [wordL, List.getD, List.getElem?_eq_getElem (show k < wordTab.length from hk)]; rfl
 exact ⟨wordTab[k]'hk, List.getElem_mem _, by rw [← e, h]; simp⟩
theorem isWord_not (l : Bytes) (h : ∀ k, k < 22 → wordL k ≠ l) : isWord l = false := by
 unfold isWord
 rw [List.any_eq_false]
 intro x hx
 obtain ⟨k, hk, rfl⟩ := List.mem_iff_getElem.1 hx
 have e : wordL k = (wordTab[k]'hk).1 := by simp only [wordL, List.getD, List.getElem?_eq_getElem hk]; rfl
 have := h k hk
 rw [e] at this
 simpa using this
end Go.Proofs.YtdbijkgnddcneaaGreatDoor.Lx
