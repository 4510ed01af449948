/-
  What tree.Right takes has Kids that it takes by themselves.
-/
import Derived.Test.YthbnegggohegkaaGreatDoorGiJ
namespace Go.Proofs.YthbnegggohegkaaGreatDoor
open Go.RowKit

theorem nf_zero (t : MT) (rl a : Nat) : nodeFault t rl a true = 0 ↔ a < 20000 ∧ takesB rl t.kind = true ∧ textB t.kind t.text.data.toList rl = true ∧ numB t.kind t.num = true ∧ faultSh (shOf t.kind t.kids rl) t.kids.length = 0 := by
  unfold nodeFault
  by_cases h1 : 20000 ≤ a
  · rw [if_pos h1]; simp; intro h; omega
  rw [if_neg h1, if_neg (by decide : ¬ (true = false))]
  by_cases h2 : (takesB rl t.kind && textB t.kind t.text.data.toList rl && numB t.kind t.num) = false
  · rw [if_pos h2]
    constructor
    · intro h; cases h
    · rintro ⟨_, e1, e2, e3, _⟩; rw [e1, e2, e3] at h2; cases h2
  · rw [if_neg h2]
    simp only [Bool.not_eq_false, Bool.and_eq_true] at h2
    exact ⟨fun h => ⟨by omega, h2.1.1, h2.1.2, h2.2, h⟩, fun h => h.2.2.2.2⟩

theorem chk_ok (f : Nat) (t : MT) (rl a b : Nat) : chk (f + 1) t rl a = .ok b ↔ nodeFault t rl a true = 0 ∧ chkK (chk f) (rolesOf t rl) 0 t.kids (a + 1) = .ok b := by
  rw [chk]
  by_cases h : nodeFault t rl a true = 0
  · rw [if_pos h]; exact ⟨fun e => ⟨h, e⟩, fun e => e.2⟩
  · rw [if_neg h]; exact ⟨(fun e => by cases e), fun e => absurd e.1 h⟩
theorem chk_zero (t : MT) (rl a b : Nat) : chk 0 t rl a ≠ .ok b := by rw [chk]; intro h; cases h

theorem chkK_rel (f f' : MT → Nat → Nat → Except (Nat × MT) Nat) (rs rs' : Nat → Nat) : ∀ (xs : List MT) (i a b a' : Nat), (∀ j x, xs[j]? = some x → ∀ a b a', f x (rs (i + j)) a = .ok b → a' ≤ a → ∃ b', f' x (rs' (i + j)) a' = .ok b' ∧ b' ≤ b) →
    chkK f rs i xs a = .ok b → a' ≤ a → ∃ b', chkK f' rs' i xs a' = .ok b' ∧ b' ≤ b
  | [], i, a, b, a', _, h, ha => by rw [chkK] at h; cases h; exact ⟨a', by rw [chkK], ha⟩
  | x :: xs, i, a, b, a', hf, h, ha => by
    rw [chkK] at h
    cases h1 : f x (rs i) a with
    | error e => rw [h1] at h; cases h
    | ok c =>
      rw [h1] at h
      obtain ⟨c', e1, e2⟩ := hf 0 x rfl a c a' h1 ha
      obtain ⟨b', e3, e4⟩ := chkK_rel f f' rs rs' xs (i + 1) c b c' (fun j y hj => by have := hf (j + 1) y (by simpa using hj); rwa [show i + (j + 1) = i + 1 + j by omega] at this) h e2
      refine ⟨b', ?_, e4⟩
      rw [chkK]
      rw [show f' x (rs' i) a' = .ok c' from e1]
      exact e3

theorem chkK_mem (f : MT → Nat → Nat → Except (Nat × MT) Nat) (rs : Nat → Nat) : ∀ (xs : List MT) (i a b : Nat), chkK f rs i xs a = .ok b → ∀ j x, xs[j]? = some x → ∃ a1 b1, f x (rs (i + j)) a1 = .ok b1
  | [], _, _, _, _, j, x, hx => by simp at hx
  | y :: ys, i, a, b, h, j, x, hx => by
    rw [chkK] at h
    cases h1 : f y (rs i) a with
    | error e => rw [h1] at h; cases h
    | ok c =>
      rw [h1] at h
      cases j with
      | zero => simp at hx; subst hx; exact ⟨a, c, h1⟩
      | succ j =>
        obtain ⟨a1, b1, e⟩ := chkK_mem f rs ys (i + 1) c b h j x (by simpa using hx)
        exact ⟨a1, b1, by rwa [show i + (j + 1) = i + 1 + j by omega]⟩

theorem chk_mono : ∀ (f f' : Nat) (t : MT) (rl a b a' : Nat), f ≤ f' → chk f t rl a = .ok b → a' ≤ a → ∃ b', chk f' t rl a' = .ok b' ∧ b' ≤ b
  | 0, _, t, rl, a, b, _, _, h, _ => absurd h (chk_zero t rl a b)
  | f + 1, 0, _, _, _, _, _, hf, _, _ => by omega
  | f + 1, g + 1, t, rl, a, b, a', hf, h, ha => by
    obtain ⟨h1, h2⟩ := (chk_ok f t rl a b).1 h
    obtain ⟨n1, n2⟩ := (nf_zero t rl a).1 h1
    obtain ⟨b', e1, e2⟩ := chkK_rel (chk f) (chk g) (rolesOf t rl) (rolesOf t rl) t.kids 0 (a + 1) b (a' + 1) (fun j x _ a b a' hx ha => chk_mono f g x _ a b a' (by omega) hx ha) h2 (by omega)
    exact ⟨b', (chk_ok g t rl a' b').2 ⟨(nf_zero t rl a').2 ⟨by omega, n2⟩, e1⟩, e2⟩

theorem takes_range {rl : Nat} {k : Int} (h : takesB rl k = true) : 1 ≤ k ∧ k ≤ 51 ∧ (kindsN rl).testBit k.toNat = true := by
  unfold takesB at h
  simp only [Bool.and_eq_true, decide_eq_true_eq] at h
  exact ⟨h.1.1, h.1.2, h.2⟩
theorem takes_own {rl : Nat} {k : Int} (h : takesB rl k = true) : takesB 0 k = true := by
  obtain ⟨h1, h2, _⟩ := takes_range h
  have e : ∀ n : Fin 52, 1 ≤ n.val → (kindsN 0).testBit n.val = true := by decide +kernel
  unfold takesB
  rw [decide_eq_true h1, decide_eq_true h2, e ⟨k.toNat, by omega⟩ (by show 1 ≤ k.toNat; omega)]; rfl
theorem takes_none {k : Int} : takesB 1 k = false := by
  cases h : takesB 1 k with
  | false => rfl
  | true =>
    obtain ⟨h1, h2, h3⟩ := takes_range h
    have e : ∀ n : Fin 52, (kindsN 1).testBit n.val = false := by decide +kernel
    rw [e ⟨k.toNat, by omega⟩] at h3; cases h3
theorem takes_40 : ∀ r, r ≤ 30 → takesB r 40 = true → r = 0 ∨ r = 28 ∨ r = 29 := by
  have e : ∀ r : Fin 31, takesB r.val 40 = true → r.val = 0 ∨ r.val = 28 ∨ r.val = 29 := by decide +kernel
  exact fun r hr h => e ⟨r, by omega⟩ h
theorem takes_27 : ∀ r, r ≤ 30 → takesB r 27 = true → r = 0 ∨ r = 21 ∨ r = 22 := by
  have e : ∀ r : Fin 31, takesB r.val 27 = true → r.val = 0 ∨ r.val = 21 ∨ r.val = 22 := by decide +kernel
  exact fun r hr h => e ⟨r, by omega⟩ h
theorem takes_at (rl : Nat) (p : Nat → Bool) (e : ∀ n : Fin 52, 1 ≤ n.val → (kindsN rl).testBit n.val = true → p n.val = true) {k : Int} (h : takesB rl k = true) : p k.toNat = true := by
  obtain ⟨h1, h2, h3⟩ := takes_range h
  exact e ⟨k.toNat, by omega⟩ (by show 1 ≤ k.toNat; omega) h3
theorem takes_24 {k : Int} (h : takesB 24 k = true) : k = 38 ∨ k = 16 := by
  have := takes_at 24 (fun n => n == 38 || n == 16) (by decide +kernel) h
  have h2 := takes_range h
  simp only [Bool.or_eq_true, beq_iff_eq] at this
  omega
theorem takes_23 {k : Int} (h : takesB 23 k = true) : k = 38 ∨ k = 16 := by
  have := takes_at 23 (fun n => n == 38 || n == 16) (by decide +kernel) h
  have h2 := takes_range h
  simp only [Bool.or_eq_true, beq_iff_eq] at this
  omega
theorem takes_26 {k : Int} (h : takesB 26 k = true) : k = 14 ∨ k = 15 := by
  have := takes_at 26 (fun n => n == 14 || n == 15) (by decide +kernel) h
  have h2 := takes_range h
  simp only [Bool.or_eq_true, beq_iff_eq] at this
  omega
theorem takes_18_15 : takesB 18 15 = false := by decide +kernel

theorem words_own (r : Nat) (s : Bytes) (h : (wordsN r).contains s = true) : (wordsN 0).contains s = true := by
  have e : ∀ s : Bytes, ∀ l : List Bytes, (∀ x ∈ l, x ∈ wordsN 0) → l.contains s = true → (wordsN 0).contains s = true := fun s l hl h => by
    rw [List.contains_iff_mem] at h ⊢; exact hl s h
  refine e s (wordsN r) ?_ h
  unfold wordsN
  intro x hx
  rw [if_pos (by decide : (0 == 0) = true)]
  revert hx
  split
  · exact id
  split
  · simp only [List.mem_cons, List.not_mem_nil, or_false]; rintro (h | h | h) <;> simp [h]
  split
  · simp only [List.mem_cons, List.not_mem_nil, or_false]; rintro (h | h | h | h) <;> simp [h]
  split
  · simp only [List.mem_cons, List.not_mem_nil, or_false]; rintro (h | h) <;> simp [h]
  split
  · simp only [List.mem_cons, List.not_mem_nil, or_false]; rintro (h | h | h) <;> simp [h]
  split
  · simp only [List.mem_cons, List.not_mem_nil, or_false]; rintro (h | h | h | h) <;> simp [h]
  · intro h; cases h

theorem text_own {k : Int} {s : Bytes} {r : Nat} (hk : (k == 40) = false) (h : textB k s r = true) : textB k s 0 = true := by
  unfold textB at h ⊢
  rw [hk] at h ⊢
  revert h
  by_cases c1 : ([2, 3, 4, 5, 6, 7, 8, 9, 10, 11, 12, 18, 41, 45] : List Int).contains k = true
  · rw [if_pos c1, if_pos c1]; exact id
  rw [if_neg c1, if_neg c1]
  by_cases c2 : ([23, 24, 25, 26, 31, 32] : List Int).contains k = true
  · rw [if_pos c2, if_pos c2]; exact id
  rw [if_neg c2, if_neg c2]
  by_cases c3 : (k == 14) = true
  · rw [if_pos c3, if_pos c3]
    simp only [Bool.or_eq_true]
    rintro (h | h)
    · exact .inl h
    · exact .inr (words_own r s h)
  rw [if_neg c3, if_neg c3, if_neg (by decide : ¬ (false = true)), if_neg (by decide : ¬ (false = true))]
  by_cases c4 : (k == 20) = true
  · rw [if_pos c4, if_pos c4]; exact id
  rw [if_neg c4, if_neg c4]
  by_cases c5 : (k == 34) = true
  · rw [if_pos c5, if_pos c5]; exact id
  rw [if_neg c5, if_neg c5]
  by_cases c6 : (k == 35) = true
  · rw [if_pos c6, if_pos c6]; exact id
  rw [if_neg c6, if_neg c6]
  by_cases c7 : (k == 36) = true
  · rw [if_pos c7, if_pos c7]; exact id
  rw [if_neg c7, if_neg c7]
  by_cases c8 : (k == 37) = true
  · rw [if_pos c8, if_pos c8]; exact id
  rw [if_neg c8, if_neg c8]
  by_cases c9 : (k == 50) = true
  · rw [if_pos c9, if_pos c9]
    simp only [Bool.and_eq_true]
    exact fun h => ⟨h.1, by simp⟩
  rw [if_neg c9, if_neg c9]
  exact id

theorem sh_own {k : Int} {ks : List MT} {r : Nat} (h27 : (k == 27) = false) (h38 : (k == 38) = false) (h40 : (k == 40) = false) : shOf k ks r = shOf k ks 0 := by
  unfold shOf
  simp only [h27, h38, h40, Bool.false_eq_true, if_false]
theorem sh_14 (ks : List MT) (r : Nat) : shOf 14 ks r = shEx [] := rfl
theorem sh_16 (ks : List MT) (r : Nat) : shOf 16 ks r = shEx [] := rfl
theorem sh_38 (ks : List MT) (r : Nat) : shOf 38 ks r = if r == 23 then shAl 1 [18] else if r == 24 then shAl 1 [26] else shAl 0 [18] := rfl
theorem sh_27 (ks : List MT) (r : Nat) : shOf 27 ks r = if r == 22 then shEx [24, 11] else shEx [23, 11] := rfl
theorem fault_ex {rs : List Nat} {n : Nat} (h : faultSh (shEx rs) n = 0) : n = rs.length := by
  unfold faultSh shEx at h
  simp only at h
  split at h
  · cases h
  · split at h
    · omega
    · simp at h
theorem text_14 (s : Bytes) (r : Nat) : textB 14 s r = (nameB s || (wordsN r).contains s) := rfl
theorem text_27 (s : Bytes) (r : Nat) : textB 27 s r = (s == []) := rfl
theorem text_38 (s : Bytes) (r : Nat) : textB 38 s r = (s == []) := rfl
theorem text_16 (s : Bytes) (r : Nat) : textB 16 s r = (s == []) := rfl

/-- A type of a case's list that can be a value. -/
theorem type_val (f : Nat) (y : MT) (a b a' : Nat) (h : chk f y 26 a = .ok b) (h15 : (y.kind == 15) = false) (hw : (y.kind == 14 && [wMap, wFunc, wAny].contains y.text.data.toList) = false) (ha : a' ≤ a) : ∃ b', chk f y 18 a' = .ok b' ∧ b' ≤ b := by
  cases f with
  | zero => exact absurd h (chk_zero _ _ _ _)
  | succ f =>
    obtain ⟨h1, h2⟩ := (chk_ok f y 26 a b).1 h
    obtain ⟨n1, n2, n3, n4, n5⟩ := (nf_zero y 26 a).1 h1
    have hk : y.kind = 14 := (takes_26 n2).resolve_right (fun e => by rw [e] at h15; cases h15)
    rw [hk] at n3 n5 hw
    rw [sh_14] at n5
    have hl : y.kids = [] := List.eq_nil_of_length_eq_zero (fault_ex n5)
    have ht : textB 14 y.text.data.toList 18 = true := by
      rw [text_14] at n3 ⊢
      simp only [Bool.or_eq_true] at n3 ⊢
      rcases n3 with h | h
      · exact .inl h
      · right
        rw [List.contains_iff_mem] at h ⊢
        have e1 : wordsN 26 = [wMap, wFunc, wAny, wNil] := rfl
        have e2 : wordsN 18 = [wTrue, wFalse, wNil] := rfl
        rw [e1] at h
        rw [e2]
        have hw' : ¬ y.text.data.toList ∈ [wMap, wFunc, wAny] := by
          intro hm; rw [List.contains_iff_mem.2 hm] at hw; cases hw
        simp only [List.mem_cons, List.not_mem_nil, or_false, not_or] at h hw' ⊢
        rcases h with h | h | h | h
        · exact absurd h hw'.1
        · exact absurd h hw'.2.1
        · exact absurd h hw'.2.2
        · exact .inr (.inr h)
    rw [hl, chkK] at h2
    cases h2
    refine ⟨a' + 1, (chk_ok f y 18 a' (a' + 1)).2 ⟨(nf_zero y 18 a').2 ⟨by omega, ?_, by rw [hk]; exact ht, n4, ?_⟩, by rw [hl, chkK]⟩, by omega⟩
    · rw [hk]; decide +kernel
    · rw [hk, sh_14, hl]; rfl

/-- A list of types that can be one of values. -/
theorem list_val (f : Nat) (x : MT) (a b a' : Nat) (h : chk f x 24 a = .ok b) (hx : (x.kids.any fun y => y.kind == 15 || (y.kind == 14 && [wMap, wFunc, wAny].contains y.text.data.toList)) = false) (ha : a' ≤ a) : ∃ b', chk f x 23 a' = .ok b' ∧ b' ≤ b := by
  cases f with
  | zero => exact absurd h (chk_zero _ _ _ _)
  | succ f =>
    obtain ⟨h1, h2⟩ := (chk_ok f x 24 a b).1 h
    obtain ⟨n1, n2, n3, n4, n5⟩ := (nf_zero x 24 a).1 h1
    rcases takes_24 n2 with hk | hk
    · rw [hk] at n3 n5
      rw [text_38] at n3
      rw [sh_38] at n5
      obtain ⟨b', e1, e2⟩ := chkK_rel (chk f) (chk f) (rolesOf x 24) (rolesOf x 23) x.kids 0 (a + 1) b (a' + 1) (fun j y hj a b a' hy ha => by
        have hy0 : ¬ (y.kind == 15 || (y.kind == 14 && [wMap, wFunc, wAny].contains y.text.data.toList)) = true := by
          intro hh
          rw [List.any_eq_true.2 ⟨y, List.mem_of_getElem? hj, hh⟩] at hx; cases hx
        simp only [Bool.not_eq_true, Bool.or_eq_false_iff] at hy0
        unfold rolesOf at hy ⊢
        by_cases hs : ((0 + j : Nat) : Int) = secDef x.kids 0 0
        · rw [if_pos hs] at hy ⊢; exact chk_mono f f y 1 a b a' (Nat.le_refl _) hy ha
        · rw [if_neg hs, hk] at hy ⊢
          have r1 : ∀ j, roleAt (shOf 38 x.kids 24) j = 26 := fun j => by rw [sh_38]; show [26].getD (min j 0) 0 = 26; rw [Nat.min_zero]; rfl
          have r2 : ∀ j, roleAt (shOf 38 x.kids 23) j = 18 := fun j => by rw [sh_38]; show [18].getD (min j 0) 0 = 18; rw [Nat.min_zero]; rfl
          rw [r1] at hy
          rw [r2]
          exact type_val f y a b a' hy hy0.1 hy0.2 ha) h2 (by omega)
      refine ⟨b', (chk_ok f x 23 a' b').2 ⟨(nf_zero x 23 a').2 ⟨by omega, ?_, by rw [hk, text_38]; exact n3, n4, ?_⟩, e1⟩, e2⟩
      · rw [hk]; decide +kernel
      · rw [hk, sh_38]; exact n5
    · rw [hk] at n3 n5
      rw [sh_16] at n5
      have hl : x.kids = [] := List.eq_nil_of_length_eq_zero (fault_ex n5)
      rw [hl, chkK] at h2
      cases h2
      refine ⟨a' + 1, (chk_ok f x 23 a' (a' + 1)).2 ⟨(nf_zero x 23 a').2 ⟨by omega, ?_, by rw [hk]; exact n3, n4, ?_⟩, by rw [hl, chkK]⟩, by omega⟩
      · rw [hk]; decide +kernel
      · rw [hk, sh_16, hl]; rfl

theorem name_map : nameB wMap = false := by kernel_rfl
theorem name_func : nameB wFunc = false := by kernel_rfl
theorem name_any_ : nameB wAny = false := by kernel_rfl

/-- A list of values has nothing that can be nothing but a type. -/
theorem val_list (f : Nat) (x : MT) (a b : Nat) (h : chk f x 23 a = .ok b) : (x.kids.any fun y => y.kind == 15 || (y.kind == 14 && [wMap, wFunc, wAny].contains y.text.data.toList)) = false := by
  cases f with
  | zero => exact absurd h (chk_zero _ _ _ _)
  | succ f =>
    obtain ⟨h1, h2⟩ := (chk_ok f x 23 a b).1 h
    obtain ⟨n1, n2, n3, n4, n5⟩ := (nf_zero x 23 a).1 h1
    rcases takes_23 n2 with hk | hk
    · refine List.any_eq_false.2 fun y hy => ?_
      obtain ⟨j, hj⟩ := List.getElem?_of_mem hy
      obtain ⟨a1, b1, e⟩ := chkK_mem (chk f) (rolesOf x 23) x.kids 0 (a + 1) b h2 j y hj
      have hr : rolesOf x 23 (0 + j) = 1 ∨ rolesOf x 23 (0 + j) = 18 := by
        unfold rolesOf
        split
        · exact .inl rfl
        · right; rw [hk, sh_38]; show [18].getD (min _ 0) 0 = 18; rw [Nat.min_zero]; rfl
      cases f with
      | zero => exact absurd e (chk_zero _ _ _ _)
      | succ f =>
        obtain ⟨m1, m2, m3, _, _⟩ := (nf_zero y _ a1).1 ((chk_ok f y _ a1 b1).1 e).1
        rcases hr with hr | hr
        · rw [hr, takes_none] at m2; cases m2
        · rw [hr] at m2 m3
          simp only [Bool.not_eq_true, Bool.or_eq_false_iff]
          constructor
          · cases hc : y.kind == 15 with
            | false => rfl
            | true => rw [eq_of_beq hc, takes_18_15] at m2; cases m2
          · cases hc : y.kind == 14 with
            | false => rfl
            | true =>
              rw [eq_of_beq hc, text_14] at m3
              rw [Bool.true_and]
              cases hw : [wMap, wFunc, wAny].contains y.text.data.toList with
              | false => rfl
              | true =>
                exfalso
                rw [List.contains_iff_mem] at hw
                simp only [List.mem_cons, List.not_mem_nil, or_false] at hw
                rcases hw with e | e | e <;> rw [e] at m3
                · rw [name_map] at m3; revert m3; decide +kernel
                · rw [name_func] at m3; revert m3; decide +kernel
                · rw [name_any_] at m3; revert m3; decide +kernel
    · rw [hk, sh_16] at n5
      rw [List.eq_nil_of_length_eq_zero (fault_ex n5)]; rfl

/-- What may stand in a role may be a tree of its own. -/
theorem role_own (f : Nat) (x : MT) (r a b : Nat) (hr0 : r ≠ 0) (h24 : r ≠ 24) (hr : r ≤ 30) (h : chk (f + 1) x r a = .ok b) : ∃ b', chk (f + 1) x (ownR x) a = .ok b' ∧ b' ≤ b := by
  obtain ⟨h1, h2⟩ := (chk_ok f x r a b).1 h
  obtain ⟨n1, n2, n3, n4, n5⟩ := (nf_zero x r a).1 h1
  by_cases k40 : (x.kind == 40) = true
  · have hk : x.kind = 40 := eq_of_beq k40
    rw [hk] at n2 n3
    have e : ownR x = r := by
      unfold ownR
      rw [if_pos k40]
      have e3 : textB 40 x.text.data.toList r = ((r == 28 && x.text.data.toList == []) || (r == 29 && nameB x.text.data.toList)) := rfl
      rw [e3] at n3
      rcases takes_40 r hr n2 with e | e | e
      · exact absurd e hr0
      · subst e
        rw [if_pos (by simpa using n3)]
      · subst e
        have n3' : nameB x.text.data.toList = true := by simpa using n3
        rw [if_neg]
        intro hh
        rw [eq_of_beq hh] at n3'
        revert n3'
        show ¬ nameB [] = true
        decide +kernel
    rw [e]; exact ⟨b, h, Nat.le_refl _⟩
  by_cases k27 : (x.kind == 27) = true
  · have hk : x.kind = 27 := eq_of_beq k27
    rw [hk] at n2 n3 n5
    have e0 : ownR x = if listsT x then 22 else 21 := by unfold ownR; rw [if_neg k40, if_pos k27]
    rw [e0]
    rcases takes_27 r hr n2 with e | e | e
    · exact absurd e hr0
    · subst e
      have hl : listsT x = false := by
        unfold listsT
        cases h0 : x.kids[0]? with
        | none => rfl
        | some x0 =>
          obtain ⟨a1, b1, e⟩ := chkK_mem (chk f) (rolesOf x 21) x.kids 0 (a + 1) b h2 0 x0 h0
          have hr : rolesOf x 21 (0 + 0) = 1 ∨ rolesOf x 21 (0 + 0) = 23 := by
            unfold rolesOf
            split
            · exact .inl rfl
            · right; rw [hk, sh_27]; rfl
          rcases hr with hr | hr
          · rw [hr] at e
            cases f with
            | zero => exact absurd e (chk_zero _ _ _ _)
            | succ f =>
              have := ((nf_zero x0 1 a1).1 ((chk_ok f x0 1 a1 b1).1 e).1).2.1
              rw [takes_none] at this; cases this
          · rw [hr] at e
            exact val_list f x0 a1 b1 e
      rw [hl]
      exact ⟨b, h, Nat.le_refl _⟩
    · subst e
      cases hl : listsT x with
      | true => exact ⟨b, h, Nat.le_refl _⟩
      | false =>
        obtain ⟨b', e1, e2⟩ := chkK_rel (chk f) (chk f) (rolesOf x 22) (rolesOf x 21) x.kids 0 (a + 1) b (a + 1) (fun j y hj a b a' hy ha => by
          unfold rolesOf at hy ⊢
          by_cases hs : ((0 + j : Nat) : Int) = secDef x.kids 0 0
          · rw [if_pos hs] at hy ⊢; exact chk_mono f f y 1 a b a' (Nat.le_refl _) hy ha
          · rw [if_neg hs, hk] at hy ⊢
            cases j with
            | zero =>
              have r1 : roleAt (shOf 27 x.kids 22) (0 + 0) = 24 := by rw [sh_27]; rfl
              have r2 : roleAt (shOf 27 x.kids 21) (0 + 0) = 23 := by rw [sh_27]; rfl
              rw [r1] at hy
              rw [r2]
              refine list_val f y a b a' hy ?_ ha
              unfold listsT at hl
              rw [hj] at hl
              exact hl
            | succ j =>
              have r1 : ∀ j, roleAt (shOf 27 x.kids 22) (0 + (j + 1)) = 11 := fun j => by rw [sh_27]; show [24, 11].getD (min (0 + (j + 1)) 1) 0 = 11; rw [show min (0 + (j + 1)) 1 = 1 by omega]; rfl
              have r2 : ∀ j, roleAt (shOf 27 x.kids 21) (0 + (j + 1)) = 11 := fun j => by rw [sh_27]; show [23, 11].getD (min (0 + (j + 1)) 1) 0 = 11; rw [show min (0 + (j + 1)) 1 = 1 by omega]; rfl
              rw [r1] at hy
              rw [r2]
              exact chk_mono f f y 11 a b a' (Nat.le_refl _) hy ha) h2 (Nat.le_refl _)
        refine ⟨b', (chk_ok f x 21 a b').2 ⟨(nf_zero x 21 a).2 ⟨n1, ?_, by rw [hk]; exact n3, n4, ?_⟩, e1⟩, e2⟩
        · rw [hk]; decide +kernel
        · rw [hk, sh_27]; rw [sh_27] at n5; exact n5
  have e0 : ownR x = 0 := by unfold ownR; rw [if_neg k40, if_neg k27]
  rw [e0]
  have k40' : (x.kind == 40) = false := by simpa using k40
  have k27' : (x.kind == 27) = false := by simpa using k27
  by_cases k38 : (x.kind == 38) = true
  · have hk : x.kind = 38 := eq_of_beq k38
    have hs : ∀ r, r ≠ 24 → (shOf 38 x.kids r).roles = [18] ∧ (faultSh (shOf 38 x.kids r) x.kids.length = 0 → faultSh (shOf 38 x.kids 0) x.kids.length = 0) := fun r h => by
      rw [sh_38, sh_38]
      by_cases h3 : (r == 23) = true
      · rw [if_pos h3]; exact ⟨rfl, fun _ => rfl⟩
      · rw [if_neg h3, if_neg (by simpa using h)]; exact ⟨rfl, fun h => h⟩
    obtain ⟨b', e1, e2⟩ := chkK_rel (chk f) (chk f) (rolesOf x r) (rolesOf x 0) x.kids 0 (a + 1) b (a + 1) (fun j y hj a b a' hy ha => by
      unfold rolesOf at hy ⊢
      rw [hk] at hy ⊢
      rw [show roleAt (shOf 38 x.kids 0) = roleAt (shOf 38 x.kids r) from by funext i; unfold roleAt; rw [(hs 0 (by omega)).1, (hs r h24).1]]
      exact chk_mono f f y _ a b a' (Nat.le_refl _) hy ha) h2 (Nat.le_refl _)
    refine ⟨b', (chk_ok f x 0 a b').2 ⟨(nf_zero x 0 a).2 ⟨n1, takes_own n2, text_own k40' n3, n4, ?_⟩, e1⟩, e2⟩
    rw [hk] at n5 ⊢
    exact (hs r h24).2 n5
  · have k38' : (x.kind == 38) = false := by simpa using k38
    have hs := sh_own (ks := x.kids) (r := r) k27' k38' k40'
    have hro : rolesOf x r = rolesOf x 0 := by funext i; unfold rolesOf; rw [hs]
    refine ⟨b, (chk_ok f x 0 a b).2 ⟨(nf_zero x 0 a).2 ⟨n1, takes_own n2, text_own k40' n3, n4, by rw [← hs]; exact n5⟩, by rw [← hro]; exact h2⟩, Nat.le_refl _⟩

/-- Roles that a node's Kids may have. -/
def ShGood (S : Shp) : Prop := (∀ r ∈ S.roles, r ≠ 0 ∧ r ≠ 24 ∧ r ≤ 30) ∧ (S.roles = [] → S.least = 0 ∧ S.most = 0 ∧ S.crowded = false)
theorem ite_good {c : Prop} [Decidable c] {a b : Shp} (ha : ShGood a) (hb : ShGood b) : ShGood (if c then a else b) := by
  by_cases h : c
  · rw [if_pos h]; exact ha
  · rw [if_neg h]; exact hb
theorem sh_good (k : Int) (ks : List MT) (rl : Nat) (h27 : (k == 27) = false) : ShGood (shOf k ks rl) := by
  unfold shOf
  simp only [h27, Bool.false_eq_true, if_false]
  clear h27
  repeat' apply ite_good
  all_goals
    unfold ShGood
    first
      | (simp [shEx, shAl, shAm]; done)
      | (cases noneAt ks 2 <;> (simp [shEx]; done))
theorem sh_roles (k : Int) (ks : List MT) (rl : Nat) : (k ≠ 27 → ∀ r ∈ (shOf k ks rl).roles, r ≠ 0 ∧ r ≠ 24 ∧ r ≤ 30) ∧ ((shOf k ks rl).roles = [] → (shOf k ks rl).least = 0 ∧ (shOf k ks rl).most = 0 ∧ (shOf k ks rl).crowded = false) := by
  cases h27 : k == 27 with
  | true =>
    obtain rfl : k = 27 := eq_of_beq h27
    rw [sh_27]
    refine ⟨fun h => absurd rfl h, ?_⟩
    split <;> (intro h; cases h)
  | false => exact ⟨fun _ => (sh_good k ks rl h27).1, (sh_good k ks rl h27).2⟩

theorem roleAt_mem {S : Shp} (i : Nat) (h : S.roles ≠ []) : roleAt S i ∈ S.roles := by
  unfold roleAt
  have : min i (S.roles.length - 1) < S.roles.length := by
    have : 0 < S.roles.length := by cases h' : S.roles with | nil => exact absurd h' h | cons _ _ => simp
    omega
  rw [List.getD_eq_getElem?_getD, List.getElem?_eq_getElem this]
  exact List.getElem_mem this

theorem right_of_role (x : MT) (r a b : Nat) (hr0 : r ≠ 0) (h24 : r ≠ 24) (hr : r ≤ 30) (h : chk 59 x r a = .ok b) : ∃ c, rightSpec x = .ok c := by
  obtain ⟨b', e, _⟩ := role_own 58 x r a b hr0 h24 hr h
  obtain ⟨c, e2, _⟩ := chk_mono 59 60 x (ownR x) a b' 0 (by omega) e (Nat.zero_le _)
  exact ⟨c, e2⟩

/-- What is right has Kids that are right by themselves. -/
theorem kids_right (t : MT) (b : Nat) (h : rightSpec t = .ok b) : (t.kind ≠ 27 → ∀ x ∈ t.kids, ∃ c, rightSpec x = .ok c) ∧ (t.kind = 27 → t.kids.length = 2 ∧ ∀ x, t.kids[1]? = some x → ∃ c, rightSpec x = .ok c) := by
  obtain ⟨h1, h2⟩ := (chk_ok 59 t (ownR t) 0 b).1 h
  obtain ⟨n1, n2, n3, n4, n5⟩ := (nf_zero t _ 0).1 h1
  constructor
  · intro hk x hx
    obtain ⟨j, hj⟩ := List.getElem?_of_mem hx
    obtain ⟨a1, b1, e⟩ := chkK_mem (chk 59) (rolesOf t (ownR t)) t.kids 0 1 b h2 j x hj
    unfold rolesOf at e
    by_cases hs : ((0 + j : Nat) : Int) = secDef t.kids 0 0
    · rw [if_pos hs] at e
      have := ((nf_zero x 1 a1).1 ((chk_ok 58 x 1 a1 b1).1 e).1).2.1
      rw [takes_none] at this; cases this
    · rw [if_neg hs] at e
      by_cases hn : (shOf t.kind t.kids (ownR t)).roles = []
      · obtain ⟨e1, e2, e3⟩ := (sh_roles t.kind t.kids (ownR t)).2 hn
        have hl : t.kids.length = 0 := by
          unfold faultSh at n5
          rw [e1, e2, e3] at n5
          simp only [Nat.not_lt_zero, if_false, Int.lt_irrefl, false_or] at n5
          split at n5
          · omega
          · simp at n5
        rw [List.eq_nil_of_length_eq_zero hl] at hx; cases hx
      · obtain ⟨q1, q2, q3⟩ := (sh_roles t.kind t.kids (ownR t)).1 hk _ (roleAt_mem (0 + j) hn)
        exact right_of_role x _ a1 b1 q1 q2 q3 e
  · intro hk
    rw [hk, sh_27] at n5
    have hl : t.kids.length = 2 := by
      split at n5 <;> exact fault_ex n5
    refine ⟨hl, fun x hj => ?_⟩
    obtain ⟨a1, b1, e⟩ := chkK_mem (chk 59) (rolesOf t (ownR t)) t.kids 0 1 b h2 1 x hj
    unfold rolesOf at e
    by_cases hs : ((0 + 1 : Nat) : Int) = secDef t.kids 0 0
    · rw [if_pos hs] at e
      have := ((nf_zero x 1 a1).1 ((chk_ok 58 x 1 a1 b1).1 e).1).2.1
      rw [takes_none] at this; cases this
    · rw [if_neg hs, hk, sh_27] at e
      have hr : roleAt (if (ownR t == 22) = true then shEx [24, 11] else shEx [23, 11]) (0 + 1) = 11 := by split <;> rfl
      rw [hr] at e
      exact right_of_role x 11 a1 b1 (by omega) (by omega) (by omega) e
end Go.Proofs.YthbnegggohegkaaGreatDoor
