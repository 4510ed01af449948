/-
  Plain facts: a token stays what it is where what stands behind it begins as before, or with a blank, or with a remark.
-/
import Derived.Test.YtnflgijbngcjbabDoorBl
namespace Go.Proofs.YtnflgijbngcjbabDoor
open Go.RowKit

/-- How what stands behind may begin. -/
def Near (e : Bool) (y Y : Bytes) : Prop :=
  (Y.head? = y.head? ∧ (Y.head? = some 46 → (Y[1]? = y[1]? ∨ Y[1]? = some 32 ∨ Y[1]? = some 9 ∨ Y[1]? = some 47))) ∨ Y.head? = some 32 ∨ Y.head? = some 9 ∨ (e = true ∧ Y.head? = some 47)

theorem near_kind (q : Nat → Bool) (h32 : q 32 = false) (h9 : q 9 = false) (h47 : q 47 = false) {e : Bool} {y Y : Bytes} (h : Near e y Y) (hy : ∀ b, y.head? = some b → q b.toNat = false) : ∀ b, Y.head? = some b → q b.toNat = false := by
  intro b hb
  rcases h with ⟨h, -⟩ | h | h | ⟨-, h⟩
  · exact hy b (h.symm.trans hb)
  · rw [hb] at h; cases h; exact h32
  · rw [hb] at h; cases h; exact h9
  · rw [hb] at h; cases h; exact h47

theorem span_head (q : Nat → Bool) (l : Bytes) (b : UInt8) (h : l.head? = some b) (hq : q b.toNat = false) : spanB q l = 0 := by
  cases l with
  | nil => cases h
  | cons a l => cases h; rw [spanB_cons, if_neg (by rw [hq]; decide)]
theorem span_zero (q : Nat → Bool) (l : Bytes) (h : ∀ b, l.head? = some b → q b.toNat = false) : spanB q l = 0 := by
  cases l with
  | nil => rfl
  | cons a l => exact span_head q _ a rfl (h a rfl)
theorem span_app (q : Nat → Bool) (x y : Bytes) : spanB q (x ++ y) = if spanB q x < x.length then spanB q x else x.length + spanB q y := by
  induction x with
  | nil => simp [spanB_nil]
  | cons b x ih =>
    rw [List.cons_append, spanB_cons, spanB_cons, ih]
    by_cases hb : q b.toNat = true
    · rw [if_pos hb, if_pos hb, List.length_cons]
      by_cases h : spanB q x < x.length
      · rw [if_pos h, if_pos (by omega)]
      · rw [if_neg h, if_neg (by omega)]; omega
    · rw [if_neg hb, if_neg hb, if_pos (by simp)]
/-- A run within x, or to its end. -/
theorem span_near (q : Nat → Bool) (x y Y : Bytes) (hle : spanB q (x ++ y) ≤ x.length) (hY : ∀ b, Y.head? = some b → q b.toNat = false) : spanB q (x ++ Y) = spanB q (x ++ y) := by
  rw [span_app, span_app] at *
  by_cases h : spanB q x < x.length
  · rw [if_pos h, if_pos h]
  · rw [if_neg h] at hle
    rw [if_neg h, if_neg h, span_zero q Y hY]
    omega
theorem head_of_span (q : Nat → Bool) (x y : Bytes) (h : spanB q (x ++ y) = x.length) : ∀ b, y.head? = some b → q b.toNat = false := by
  intro b hb
  rw [span_app] at h
  cases hq : q b.toNat with
  | false => rfl
  | true =>
    split at h
    · omega
    · have := spanB_pos q y (by cases y with | nil => cases hb | cons => simp) (by cases y with | nil => cases hb | cons a y => cases hb; exact hq)
      omega

theorem esc_ext (a y : Bytes) (h : (esc a).2 ≠ 0) : esc (a ++ y) = esc a := by
  have g : ∀ i, i < a.length → (a ++ y).getD i 0 = a.getD i 0 := fun i hi => by
    rw [List.getD_eq_getElem?_getD, List.getElem?_append_left hi, ← List.getD_eq_getElem?_getD]
  have hl : (a ++ y).length = a.length + y.length := List.length_append
  by_cases h2 : a.length < 2
  · exfalso; apply h; unfold esc; rw [if_pos h2]
  by_cases c4 : (a.getD 1 0).toNat = 120
  · by_cases h4 : a.length < 4
    · exfalso; apply h; unfold esc
      rw [if_neg h2, if_neg (by omega), if_neg (by omega), if_neg (by omega), if_pos c4, if_pos h4]
    · unfold esc
      rw [if_neg (by omega : ¬ (a ++ y).length < 2), if_neg h2, g 1 (by omega), g 2 (by omega), g 3 (by omega), if_neg (by omega : ¬ (a ++ y).length < 4), if_neg h4]
  · unfold esc
    rw [if_neg (by omega : ¬ (a ++ y).length < 2), if_neg h2, g 1 (by omega), if_neg c4, if_neg c4]

theorem litGo_ext (x Y : Bytes) (src : Nat) : ∀ (f k : Nat) (acc t : Bytes) (n : Nat), litGo x src f k acc = .ok (t, n) → litGo (x ++ Y) src f k acc = .ok (t, n) := by
  intro f
  induction f with
  | zero => intro k acc t n h; simp [litGo] at h
  | succ f ih =>
    intro k acc t n h
    have hfw := litGo_fwd x src _ _ _ _ _ h
    have hk : k < x.length := by omega
    have g : (x ++ Y).getD k 0 = x.getD k 0 := by rw [List.getD_eq_getElem?_getD, List.getElem?_append_left hk, ← List.getD_eq_getElem?_getD]
    have hd : (x ++ Y).drop k = x.drop k ++ Y := List.drop_append_of_le_length (by omega)
    simp only [litGo] at h ⊢
    rw [if_pos hk] at h
    rw [if_pos (by rw [List.length_append]; omega), g, hd]
    by_cases h1 : (x.getD k 0).toNat = 10
    · rw [if_pos h1] at h; cases h
    rw [if_neg h1] at h ⊢
    by_cases h2 : (x.getD k 0).toNat = 34
    · rw [if_pos h2] at h ⊢; exact h
    rw [if_neg h2] at h ⊢
    by_cases h3 : (x.getD k 0).toNat = 92
    · rw [if_pos h3] at h ⊢
      by_cases h4 : (esc (x.drop k)).2 = 0
      · rw [if_pos h4] at h; cases h
      rw [esc_ext _ _ h4]
      rw [if_neg h4] at h ⊢
      exact ih _ _ _ _ h
    · rw [if_neg h3] at h ⊢
      exact ih _ _ _ _ h

theorem pre_app (a x y : Bytes) (h : a.length ≤ x.length) : a.isPrefixOf (x ++ y) = a.isPrefixOf x := by
  rw [Bool.eq_iff_iff, List.isPrefixOf_iff_prefix, List.isPrefixOf_iff_prefix]
  constructor
  · intro hp; exact List.prefix_of_prefix_length_le hp (List.prefix_append x y) h
  · intro hp; exact hp.trans (List.prefix_append x y)

def signCheck (k j : Nat) : Bool :=
  !(signL k).isPrefixOf (signL j) || (((signL j)[(signL k).length]? != some 32) && ((signL j)[(signL k).length]? != some 9) && ((signL j)[(signL k).length]? != some 47) && (List.range k).any (fun i => signL i == (signL j).take ((signL k).length + 1)))
theorem sign_check : ∀ k, k < 42 → ∀ j, j < k → signCheck k j = true := by decide +kernel
theorem sign_table (k : Nat) (hk : k < 42) (j : Nat) (hj : j < k) (h : (signL k).isPrefixOf (signL j) = true) : (signL j)[(signL k).length]? ≠ some 32 ∧ (signL j)[(signL k).length]? ≠ some 9 ∧ (signL j)[(signL k).length]? ≠ some 47 ∧ (List.range k).any (fun i => signL i == (signL j).take ((signL k).length + 1)) = true := by
  have := sign_check k hk j hj
  unfold signCheck at this
  rw [h, Bool.not_true, Bool.false_or] at this
  simp only [Bool.and_eq_true, bne_iff_ne] at this
  exact ⟨this.1.1.1, this.1.1.2, this.1.2, this.2⟩

theorem least (P : Nat → Bool) : ∀ n, (∃ k, k < n ∧ P k = true) → ∃ k, k < n ∧ P k = true ∧ ∀ j, j < k → P j = false := by
  intro n
  induction n with
  | zero => rintro ⟨k, hk, _⟩; omega
  | succ n ih =>
    rintro ⟨k, hk, hp⟩
    by_cases hex : ∃ k, k < n ∧ P k = true
    · obtain ⟨k', h1, h2, h3⟩ := ih hex
      exact ⟨k', by omega, h2, h3⟩
    · refine ⟨k, hk, hp, fun j hj => ?_⟩
      cases hx : P j with
      | false => rfl
      | true => exact absurd ⟨j, by omega, hx⟩ hex
theorem sign_found (l : Bytes) (h : signLen l ≠ 0) : ∃ k, k < 42 ∧ (signL k).isPrefixOf l = true ∧ (∀ j, j < k → (signL j).isPrefixOf l = false) ∧ signLen l = (signL k).length := by
  by_cases hex : ∃ k, k < 42 ∧ (signL k).isPrefixOf l = true
  · obtain ⟨k, hk, hp, hno⟩ := least (fun k => (signL k).isPrefixOf l) 42 hex
    exact ⟨k, hk, hp, hno, signLen_of l k hk hp hno⟩
  · exfalso
    apply h
    refine signLen_not l fun j hj => ?_
    cases hx : (signL j).isPrefixOf l with
    | false => rfl
    | true => exact absurd ⟨j, hj, hx⟩ hex

theorem sign_near (x y Y : Bytes) {e : Bool} (hn : Near e y Y) (hx : 0 < x.length) (h : signLen (x ++ y) = x.length) : signLen (x ++ Y) = x.length := by
  obtain ⟨k, hk, hp, hno, hl⟩ := sign_found _ (by rw [h]; omega)
  have hkx : signL k = x := by
    rw [List.isPrefixOf_iff_prefix] at hp
    have h1 := List.prefix_iff_eq_take.1 hp
    rw [← hl, h, List.take_left'] at h1
    · exact h1
    · rfl
  rw [hkx] at hl
  rw [signLen_of (x ++ Y) k hk (by rw [hkx, List.isPrefixOf_iff_prefix]; exact List.prefix_append x Y) ?_, hkx]
  intro j hj
  have hnj := hno j hj
  cases hx2 : (signL j).isPrefixOf (x ++ Y) with
  | false => rfl
  | true =>
    exfalso
    by_cases hle : (signL j).length ≤ x.length
    · rw [pre_app _ _ _ hle] at hx2 hnj
      rw [hx2] at hnj; cases hnj
    · have hxj : (signL k).isPrefixOf (signL j) = true := by
        rw [hkx, List.isPrefixOf_iff_prefix]
        rw [List.isPrefixOf_iff_prefix] at hx2
        exact List.prefix_of_prefix_length_le (List.prefix_append x Y) hx2 (by omega)
      obtain ⟨n32, n9, n47, hany⟩ := sign_table k hk j hj hxj
      rw [List.any_eq_true] at hany
      obtain ⟨i, hi', hi2'⟩ := hany
      have hi : i < k := List.mem_range.1 hi'
      have hi2 : signL i = (signL j).take ((signL k).length + 1) := beq_iff_eq.1 hi2'
      rw [hkx] at n32 n9 n47 hi2
      rw [List.isPrefixOf_iff_prefix] at hx2
      obtain ⟨r, hr⟩ := hx2
      have hat : (signL j)[x.length]? = Y.head? := by
        have e1 : (signL j ++ r)[x.length]? = (signL j)[x.length]? := List.getElem?_append_left (by omega)
        have e2 : (x ++ Y)[x.length]? = Y.head? := by rw [List.getElem?_append_right (Nat.le_refl _), Nat.sub_self, List.head?_eq_getElem?]
        rw [← e1, hr, e2]
      rw [hat] at n32 n9 n47
      have hyY : Y.head? = y.head? := by
        rcases hn with ⟨h, -⟩ | h | h | ⟨-, h⟩
        · exact h
        · exact absurd h n32
        · exact absurd h n9
        · exact absurd h n47
      have hni := hno i hi
      have htake : (signL j).take (x.length + 1) = (x ++ y).take (x.length + 1) := by
        have e1 : (signL j).take (x.length + 1) = (x ++ Y).take (x.length + 1) := by
          rw [← hr, List.take_append_of_le_length (by omega)]
        have e2 : ∀ z : Bytes, (x ++ z).take (x.length + 1) = x ++ z.take 1 := fun z => by
          rw [List.take_append, List.take_of_length_le (by omega), Nat.add_sub_cancel_left]
        rw [e1, e2, e2]
        congr 1
        cases Y with
        | nil => cases y with
          | nil => rfl
          | cons => cases hyY
        | cons a Y => cases y with
          | nil => cases hyY
          | cons b y => cases hyY; rfl
      rw [hi2, htake] at hni
      have : ((x ++ y).take (x.length + 1)).isPrefixOf (x ++ y) = true := by rw [List.isPrefixOf_iff_prefix]; exact List.take_prefix _ _
      rw [this] at hni; cases hni
end Go.Proofs.YtnflgijbngcjbabDoor
