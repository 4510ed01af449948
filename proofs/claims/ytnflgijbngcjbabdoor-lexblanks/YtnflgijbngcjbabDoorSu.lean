/-
  Plain facts: a literal's text, cut off ahead of its end, is no literal; cut off at its end it says what the token says.
-/
import Derived.Test.YtnflgijbngcjbabDoorSt
namespace Go.Proofs.YtnflgijbngcjbabDoor
open Go.RowKit

theorem getD_take (l : Bytes) (m i : Nat) (h : i < m) : (l.take m).getD i 0 = l.getD i 0 := by
  rw [List.getD_eq_getElem?_getD, List.getElem?_take_of_lt h, ← List.getD_eq_getElem?_getD]

theorem esc_two (l : Bytes) (h : (esc l).2 ≠ 0) : ((esc l).2 = 2 ∧ 2 ≤ l.length ∧ (l.getD 1 0).toNat ≠ 120) ∨ ((esc l).2 = 4 ∧ 4 ≤ l.length ∧ (l.getD 1 0).toNat = 120) := by
  unfold esc at h ⊢
  by_cases h2 : l.length < 2
  · rw [if_pos h2] at h; exact absurd rfl h
  rw [if_neg h2] at h ⊢
  by_cases c1 : (l.getD 1 0).toNat = 110
  · rw [if_pos c1]; exact .inl ⟨rfl, by omega, by omega⟩
  rw [if_neg c1] at h ⊢
  by_cases c2 : (l.getD 1 0).toNat = 116
  · rw [if_pos c2]; exact .inl ⟨rfl, by omega, by omega⟩
  rw [if_neg c2] at h ⊢
  by_cases c3 : (l.getD 1 0).toNat = 92 ∨ (l.getD 1 0).toNat = 34
  · rw [if_pos c3]; exact .inl ⟨rfl, by omega, by omega⟩
  rw [if_neg c3] at h ⊢
  by_cases c4 : (l.getD 1 0).toNat = 120
  · rw [if_pos c4] at h ⊢
    by_cases c5 : l.length < 4
    · rw [if_pos c5] at h; exact absurd rfl h
    rw [if_neg c5] at h ⊢
    by_cases c6 : six (l.getD 2 0).toNat < 0 ∨ six (l.getD 3 0).toNat < 0
    · rw [if_pos c6] at h; exact absurd rfl h
    · rw [if_neg c6]; exact .inr ⟨rfl, by omega, c4⟩
  · rw [if_neg c4] at h; exact absurd rfl h

theorem esc_take (l : Bytes) (m : Nat) (h : (esc l).2 ≠ 0) : ((esc l).2 ≤ m → esc (l.take m) = esc l) ∧ (m < (esc l).2 → (esc (l.take m)).2 = 0) := by
  have hlen : (l.take m).length = min m l.length := List.length_take
  rcases esc_two l h with ⟨e, h2, h3⟩ | ⟨e, h2, h3⟩
  · rw [e]
    constructor
    · intro hm
      unfold esc
      rw [getD_take l m 1 (by omega), if_neg (by omega : ¬ (l.take m).length < 2), if_neg (by omega : ¬ l.length < 2), if_neg h3, if_neg h3]
    · intro hm
      unfold esc
      rw [if_pos (by omega)]
  · rw [e]
    constructor
    · intro hm
      unfold esc
      rw [getD_take l m 1 (by omega), getD_take l m 2 (by omega), getD_take l m 3 (by omega), if_neg (by omega : ¬ (l.take m).length < 2), if_neg (by omega : ¬ l.length < 2), if_neg (by omega : ¬ (l.take m).length < 4), if_neg (by omega : ¬ l.length < 4)]
    · intro hm
      unfold esc
      by_cases h4 : (l.take m).length < 2
      · rw [if_pos h4]
      · rw [if_neg h4, getD_take l m 1 (by omega), if_neg (by omega), if_neg (by omega), if_neg (by omega), if_pos h3, if_pos (by omega)]

theorem litGo_len (l : Bytes) (src : Nat) : ∀ (f k : Nat) (acc t : Bytes) (n : Nat), litGo l src f k acc = .ok (t, n) → t.length + k + 1 ≤ acc.length + n := by
  intro f
  induction f with
  | zero => intro k acc t n h; simp [litGo] at h
  | succ f ih =>
    intro k acc t n h
    simp only [litGo] at h
    by_cases hk : k < l.length
    · rw [if_pos hk] at h
      by_cases h1 : (l.getD k 0).toNat = 10
      · rw [if_pos h1] at h; cases h
      rw [if_neg h1] at h
      by_cases h2 : (l.getD k 0).toNat = 34
      · rw [if_pos h2] at h
        have := Except.ok.inj h
        have hn : k + 1 = n := congrArg Prod.snd this
        have ht : acc = t := congrArg Prod.fst this
        subst hn ht
        omega
      rw [if_neg h2] at h
      by_cases h3 : (l.getD k 0).toNat = 92
      · rw [if_pos h3] at h
        by_cases h4 : (esc (l.drop k)).2 = 0
        · rw [if_pos h4] at h; cases h
        rw [if_neg h4] at h
        have := ih _ _ _ _ h
        simp at this
        omega
      · rw [if_neg h3] at h
        have := ih _ _ _ _ h
        simp at this
        omega
    · rw [if_neg hk] at h; cases h

theorem litGo_take (l : Bytes) (src : Nat) : ∀ (f k : Nat) (acc t : Bytes) (n : Nat), litGo l src f k acc = .ok (t, n) →
    ∀ m, (n ≤ m → litGo (l.take m) src f k acc = .ok (t, n)) ∧ (m < n → ∀ g, ∃ e, litGo (l.take m) src g k acc = .error e) := by
  intro f
  induction f with
  | zero => intro k acc t n h; simp [litGo] at h
  | succ f ih =>
    intro k acc t n h m
    have hlen : (l.take m).length = min m l.length := List.length_take
    have hfw := litGo_fwd l src _ _ _ _ _ h
    simp only [litGo] at h
    have hk : k < l.length := by omega
    rw [if_pos hk] at h
    by_cases h1 : (l.getD k 0).toNat = 10
    · rw [if_pos h1] at h; cases h
    rw [if_neg h1] at h
    have key : k < m → (l.take m).getD k 0 = l.getD k 0 := getD_take l m k
    by_cases h2 : (l.getD k 0).toNat = 34
    · rw [if_pos h2] at h
      have e := Except.ok.inj h
      have hn : k + 1 = n := congrArg Prod.snd e
      constructor
      · intro hm
        simp only [litGo]
        rw [if_pos (by omega), key (by omega), if_neg h1, if_pos h2]
        exact h
      · intro hm g
        cases g with
        | zero => exact ⟨_, rfl⟩
        | succ g => exact ⟨(11, src), by simp only [litGo]; rw [if_neg (by omega)]⟩
    rw [if_neg h2] at h
    have hdrop : (l.take m).drop k = (l.drop k).take (m - k) := List.drop_take
    by_cases h3 : (l.getD k 0).toNat = 92
    · rw [if_pos h3] at h
      by_cases h4 : (esc (l.drop k)).2 = 0
      · rw [if_pos h4] at h; cases h
      rw [if_neg h4] at h
      have hf2 := litGo_fwd l src _ _ _ _ _ h
      have he := esc_take (l.drop k) (m - k) h4
      have hih := ih _ _ _ _ h m
      constructor
      · intro hm
        simp only [litGo]
        rw [if_pos (by omega), key (by omega), if_neg h1, if_neg h2, if_pos h3, hdrop, he.1 (by omega), if_neg h4]
        exact hih.1 hm
      · intro hm g
        cases g with
        | zero => exact ⟨_, rfl⟩
        | succ g =>
          simp only [litGo]
          by_cases hkm : k < m
          · rw [if_pos (by omega), key hkm, if_neg h1, if_neg h2, if_pos h3, hdrop]
            by_cases hem : (esc (l.drop k)).2 ≤ m - k
            · rw [he.1 hem, if_neg h4]
              exact hih.2 hm g
            · rw [if_pos (he.2 (by omega))]
              exact ⟨_, rfl⟩
          · rw [if_neg (by omega)]; exact ⟨_, rfl⟩
    · rw [if_neg h3] at h
      have hih := ih _ _ _ _ h m
      have hf2 := litGo_fwd l src _ _ _ _ _ h
      constructor
      · intro hm
        simp only [litGo]
        rw [if_pos (by omega), key (by omega), if_neg h1, if_neg h2, if_neg h3]
        exact hih.1 hm
      · intro hm g
        cases g with
        | zero => exact ⟨_, rfl⟩
        | succ g =>
          simp only [litGo]
          by_cases hkm : k < m
          · rw [if_pos (by omega), key hkm, if_neg h1, if_neg h2, if_neg h3]
            exact hih.2 hm g
          · rw [if_neg (by omega)]; exact ⟨_, rfl⟩

theorem lit_from (l : Bytes) (a n : Nat) (t : Bytes) (ha : a < l.length) (hl : lit l a (a + 1) [] = .ok (t, a + n)) : lit (l.drop a) 0 1 [] = .ok (t, n) := by
  have hp : (l.take a).length = a := by rw [List.length_take]; omega
  have h := lit_sh (l.take a) (l.drop a) 0 (l.drop a).length 1 [] (by omega)
  rw [List.take_append_drop, hp, Nat.add_zero, hl] at h
  cases hx : lit (l.drop a) 0 1 [] with
  | error e => rw [hx] at h; cases h
  | ok p =>
    obtain ⟨t', n'⟩ := p
    rw [hx] at h
    simp only [shE] at h
    have e := Except.ok.inj h
    have e1 : t = t' := congrArg Prod.fst e
    have e2 : a + n = a + n' := congrArg Prod.snd e
    rw [e1, show n = n' by omega]

theorem piece_ok (l : Bytes) (a n : Nat) (t : Bytes) (ha : a < l.length) (hlim : l.length ≤ 60000) (hq : (l.getD a 0).toNat = 34) (hl : lit l a (a + 1) [] = .ok (t, a + n)) :
    2 ≤ n ∧ a + n ≤ l.length ∧ (l.getD (a + n - 1) 0).toNat = 34 ∧ unqSpec ((l.drop a).take n) = .ok t ∧ ∀ m, m < n → ∃ e, unqSpec ((l.drop a).take m) = .error e := by
  have hfw := litGo_fwd l a _ _ _ _ _ hl
  have h0 := lit_from l a n t ha hl
  have hlen := litGo_len (l.drop a) 0 _ _ _ _ _ h0
  have hfw0 := litGo_fwd (l.drop a) 0 _ _ _ _ _ h0
  have htk := litGo_take (l.drop a) 0 _ _ _ _ _ h0
  have hdl : (l.drop a).length = l.length - a := List.length_drop
  have hfirst : ∀ m, 0 < m → [34].isPrefixOf ((l.drop a).take m) = true := fun m hm => by
    rw [List.drop_eq_getElem_cons ha, show m = (m - 1) + 1 by omega, List.take_succ_cons]
    have e : l[a] = 34 := by
      have : l.getD a 0 = 34 := UInt8.toNat_inj.1 hq
      rw [List.getD_eq_getElem?_getD, List.getElem?_eq_getElem ha] at this
      exact this
    rw [e]; rfl
  refine ⟨by omega, hfw.2.1, hfw.2.2, ?_, ?_⟩
  · unfold unqSpec
    rw [if_pos (hfirst n (by omega))]
    have hl2 : ((l.drop a).take n).length = n := by rw [List.length_take]; omega
    have e1 : lit ((l.drop a).take n) 0 1 [] = .ok (t, n) := by
      unfold lit
      rw [litGo_fuel _ _ _ ((l.drop a).length + 1) _ _ (by omega) (by omega)]
      exact (htk n).1 (Nat.le_refl _)
    rw [e1]
    simp only
    rw [if_neg (by omega), if_neg (by simp at hlen; omega)]
  · intro m hm
    unfold unqSpec
    split
    · obtain ⟨e, he⟩ := (htk m).2 hm (((l.drop a).take m).length + 1)
      have : lit ((l.drop a).take m) 0 1 [] = .error e := he
      rw [this]
      exact ⟨e, rfl⟩
    · exact ⟨_, rfl⟩
end Go.Proofs.YtnflgijbngcjbabDoor
