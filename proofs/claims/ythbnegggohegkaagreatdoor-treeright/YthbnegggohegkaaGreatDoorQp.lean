/-
  What the document finds wrong first with a tree is what tree.Right finds.
-/
import Derived.Test.YthbnegggohegkaaGreatDoorQoJ
import Derived.Test.YthbnegggohegkaaGreatDoorGb
namespace Go.Proofs.YthbnegggohegkaaGreatDoor
open Go.RowKit

theorem at_mem (l : List Nat) (i : Nat) (h : 0 < l.length) : atN l i ∈ l := by
  unfold atN
  rw [List.getD_eq_getElem?_getD, List.getElem?_eq_getElem (show min i (l.length - 1) < l.length by omega)]
  exact List.getElem_mem _
theorem at_pos (l : List Nat) (i : Nat) (h : 0 < l.length) (ha : l.all (fun x => decide (0 < x) && decide (x < 30)) = true) : 0 < atN l i ∧ atN l i < 30 := by
  have := List.all_eq_true.1 ha _ (at_mem l i h)
  simpa using this
theorem roleAt_at (S : Shp) (i : Nat) : roleAt S i = atN S.roles i := rfl
theorem at_role (l : List Nat) (S : Shp) (h : S.roles = l.map roleS) (i : Nat) : roleS (atN l i) = roleAt S i := by
  rw [roleAt_at, h]
  unfold atN
  rw [List.length_map, List.getD_eq_getElem?_getD, List.getD_eq_getElem?_getD, List.getElem?_map]
  cases l[min i (l.length - 1)]? <;> rfl
theorem one_role (c : Nat) (S : Shp) (h : S.roles = [roleS c]) (i : Nat) : roleS c = roleAt S i := by
  rw [roleAt_at, h]; unfold atN; rw [show min i ([roleS c].length - 1) = 0 by simp]; rfl
theorem two_role (c : Nat) (S : Shp) (h : S.roles = [roleS c, roleS c]) (i : Nat) : roleS c = roleAt S i := by
  have : atN [roleS c, roleS c] i ∈ [roleS c, roleS c] := at_mem _ _ (Nat.succ_pos _)
  rw [roleAt_at, h]
  have e : atN [roleS c, roleS c] i = roleS c := by simpa using this
  exact e.symm
theorem no27_of (S : Shp) (h0 : 0 < S.roles.length) (h : S.roles.all (fun r => !takesB r 27) = true) (i : Nat) : takesB (roleAt S i) 27 = false := by
  have := List.all_eq_true.1 h _ (at_mem S.roles i h0)
  rw [roleAt_at]; simpa using this

def Pos30 (x : Nat) : Prop := 0 < x ∧ x < 30
theorem pos_ite {c : Prop} [Decidable c] {x y : Nat} (hx : Pos30 x) (hy : Pos30 y) : Pos30 (if c then x else y) := by split; exact hx; exact hy
theorem stand_pos (t : MT) (i st : Nat) : 0 < standS t i st ∧ standS t i st < 30 := by
  show Pos30 (standS t i st)
  unfold standS
  repeat' apply pos_ite
  all_goals first | exact at_pos [5, 6] i (by decide) (by decide) | exact at_pos [7, 5, 6] i (by decide) (by decide) | exact at_pos [8, 8, 14] i (by decide) (by decide) | exact at_pos [13, 10] i (by decide) (by decide) | exact at_pos [10, 6, 15] i (by decide) (by decide) | exact at_pos [11, 6] i (by decide) (by decide) | exact at_pos [16, 16, 10, 6] i (by decide) (by decide) | exact at_pos [11, 17] i (by decide) (by decide) | exact at_pos [16, 10, 18] i (by decide) (by decide) | exact at_pos [20, 6] i (by decide) (by decide) | exact at_pos [19, 6] i (by decide) (by decide) | exact at_pos [10, 11] i (by decide) (by decide) | exact at_pos [28, 10] i (by decide) (by decide) | exact at_pos [10, 25] i (by decide) (by decide) | exact ⟨by decide, by decide⟩

theorem secDef_ge : ∀ (xs : List MT) (d k0 : Nat), secDef xs d k0 = -1 ∨ (k0 : Int) ≤ secDef xs d k0
  | [], _, _ => .inl rfl
  | x :: xs, d, k0 => by
    rw [secDef]
    split
    · right; exact Int.le_refl _
    · rcases secDef_ge xs (d + (isDef x).toNat) (k0 + 1) with h | h
      · exact .inl h
      · right; omega
theorem secDef_iff : ∀ (xs : List MT) (d k0 j : Nat), d ≤ 1 → j < xs.length → (secDef xs d k0 = ((k0 + j : Nat) : Int) ↔ (xs[j]?).any isDef = true ∧ d + (xs.take j).countP isDef = 1)
  | [], _, _, _, _, h => by simp at h
  | x :: xs, d, k0, j, hd, hj => by
    rw [secDef]
    cases hx : isDef x with
    | true =>
      by_cases h1 : d = 1
      · subst h1
        rw [if_pos (by rfl)]
        cases j with
        | zero => simp [hx]
        | succ j => simp [hx]; omega
      · have h0 : d = 0 := by omega
        subst h0
        rw [if_neg (by decide)]
        cases j with
        | zero =>
          refine ⟨fun e => ?_, fun e => ?_⟩
          · exfalso; rcases secDef_ge xs (0 + true.toNat) (k0 + 1) with h | h <;> omega
          · simp at e
        | succ j =>
          have := secDef_iff xs (0 + true.toNat) (k0 + 1) j (by decide) (by simpa using hj)
          rw [show k0 + (j + 1) = k0 + 1 + j by omega, this]
          simp [hx]
    | false =>
      rw [if_neg (by simp; omega)]
      cases j with
      | zero =>
        refine ⟨fun e => ?_, fun e => ?_⟩
        · exfalso; rcases secDef_ge xs (d + false.toNat) (k0 + 1) with h | h <;> omega
        · simp [hx] at e
      | succ j =>
        have := secDef_iff xs (d + false.toNat) (k0 + 1) j (by simpa using hd) (by simpa using hj)
        rw [show k0 + (j + 1) = k0 + 1 + j by omega, this]
        simp [hx]
theorem secDef_two : ∀ (xs : List MT) (d k0 i : Nat), d ≤ 1 → 2 ≤ d + (xs.take i).countP isDef → ∃ j, j < i ∧ j < xs.length ∧ secDef xs d k0 = ((k0 + j : Nat) : Int)
  | [], d, _, _, hd, h => by simp at h; omega
  | x :: xs, d, k0, 0, hd, h => by simp at h; omega
  | x :: xs, d, k0, i + 1, hd, h => by
    rw [secDef]
    by_cases h2 : d + (isDef x).toNat = 2
    · rw [if_pos h2]; exact ⟨0, by omega, by simp, by simp⟩
    · rw [if_neg h2]
      have e : (isDef x).toNat ≤ 1 := by cases isDef x <;> decide
      obtain ⟨j, h3, h4, h5⟩ := secDef_two xs (d + (isDef x).toNat) (k0 + 1) i (by omega) (by
        rw [List.take_succ_cons, List.countP_cons] at h
        revert h; cases isDef x <;> simp <;> omega)
      exact ⟨j + 1, by omega, by simpa using h4, by rw [h5]; congr 1; omega⟩

/-- The Kids ahead of a place were taken. -/
def Ahead (t : MT) (rl i : Nat) : Prop := ∀ j, j < i → ∀ y, t.kids[j]? = some y → takesB (rolesOf t rl j) y.kind = true
theorem isDef_27 {x : MT} (h : isDef x = true) : x.kind = 27 := by
  unfold isDef at h; simp only [Bool.and_eq_true, beq_iff_eq] at h; exact h.1
/-- Where no case may stand no Kid is a second default. -/
theorem no_second (t : MT) (rl i : Nat) (hi : i < t.kids.length) (hA : Ahead t rl i) (h27 : ∀ j, takesB (roleAt (shOf t.kind t.kids rl) j) 27 = false) : rolesOf t rl i = roleAt (shOf t.kind t.kids rl) i := by
  unfold rolesOf
  rw [if_neg]
  intro h
  have := (secDef_iff t.kids 0 0 i (by decide) hi).1 (by rw [← h]; simp)
  have hc : 0 < (t.kids.take i).countP isDef := by omega
  obtain ⟨y, hy, hd⟩ := List.countP_pos_iff.1 hc
  obtain ⟨j, hj, e⟩ := List.mem_iff_getElem.1 hy
  rw [List.length_take] at hj
  rw [List.getElem_take] at e
  have hg : t.kids[j]? = some y := by rw [List.getElem?_eq_getElem (by omega), e]
  have ht := hA j (by omega) y hg
  rw [isDef_27 hd] at ht
  unfold rolesOf at ht
  split at ht
  · rw [takes_none] at ht; cases ht
  · rw [h27] at ht; cases ht
/-- A default that comes again is the second one. -/
theorem again_second (t : MT) (rl i : Nat) (hi : i < t.kids.length) (hA : Ahead t rl i) : againB t.kids i = true ↔ (i : Int) = secDef t.kids 0 0 := by
  have hiff := secDef_iff t.kids 0 0 i (by decide) hi
  rw [Nat.zero_add, Nat.zero_add] at hiff
  have hle : (t.kids.take i).countP isDef ≤ 1 := by
    rcases Nat.lt_or_ge 1 ((t.kids.take i).countP isDef) with h | h
    · obtain ⟨j, h1, h2, h3⟩ := secDef_two t.kids 0 0 i (by decide) (by omega)
      have ht := hA j h1 _ (List.getElem?_eq_getElem h2)
      unfold rolesOf at ht
      rw [if_pos (by rw [h3]; simp), takes_none] at ht
      cases ht
    · exact h
  have he : earlierB t.kids i = true ↔ 0 < (t.kids.take i).countP isDef := by
    rw [List.countP_pos_iff]
    unfold earlierB
    simp
  unfold againB
  rw [Bool.and_eq_true, he]
  constructor
  · intro h; exact (hiff.2 ⟨h.2, by omega⟩).symm
  · intro h; have := hiff.1 h.symm; exact ⟨by omega, this.1⟩

theorem chkK_same (f g : MT → Nat → Nat → Except (Nat × MT) Nat) (rs rs' : Nat → Nat) (ks : List MT) (H : ∀ i x, ks[i]? = some x → (∀ j, j < i → ∀ y, ks[j]? = some y → ∃ a b, g y (rs' j) a = .ok b) → ∀ a, f x (rs i) a = g x (rs' i) a) :
    ∀ (xs : List MT) (i a : Nat), (∀ j, xs[j]? = ks[i + j]?) → (∀ j, j < i → ∀ y, ks[j]? = some y → ∃ a b, g y (rs' j) a = .ok b) → chkK f rs i xs a = chkK g rs' i xs a
  | [], i, a, _, _ => by rw [chkK, chkK]
  | x :: xs, i, a, hx, hA => by
    have h0 : ks[i]? = some x := (hx 0).symm
    rw [chkK, chkK, H i x h0 hA a]
    cases hg : g x (rs' i) a with
    | error e => rfl
    | ok b =>
      exact chkK_same f g rs rs' ks H xs (i + 1) b (fun j => by have := hx (j + 1); rw [show i + 1 + j = i + (j + 1) by omega, ← this]; rfl) (fun j hj y hy => by
        by_cases e : j = i
        · subst e; rw [h0] at hy; cases hy; exact ⟨a, b, hg⟩
        · exact hA j (by omega) y hy)

theorem role_22 (st : Nat) (h : st < 30) (h0 : st ≠ 0) : (roleS st == 22) = (st == 18) := by
  have e : ∀ n : Fin 30, n.val ≠ 0 → (roleS n.val == 22) = (n.val == 18) := by decide
  exact e ⟨st, h⟩ h0
theorem no_kids {n : Nat} (h : faultSh (shEx []) n = 0) : n = 0 := by
  unfold faultSh shEx at h
  simp only [List.length_nil] at h
  by_cases h1 : (n : Int) ≤ ((0 : Nat) : Int)
  · omega
  · rw [if_neg (by omega), if_neg (by omega), if_neg (by decide)] at h; cases h

theorem plain_kid (t : MT) (st : Nat) (hst : st < 30) (hr : 1 ≤ t.kind ∧ t.kind ≤ 51) (h25 : t.kind ≠ 25) (h26 : t.kind ≠ 26) (h47 : t.kind ≠ 47) (hn : 0 < t.kids.length) (hf : faultSh (shOf t.kind t.kids (roleT t st)) t.kids.length = 0) :
    (∀ i, roleS (standS t i st) = roleAt (shOf t.kind t.kids (roleT t st)) i) ∧ ∀ i, takesB (roleAt (shOf t.kind t.kids (roleT t st)) i) 27 = false := by
  cases t with
  | node k s n a p c ks =>
  replace hr : 1 ≤ k ∧ k ≤ 51 := hr
  replace h25 : k ≠ 25 := h25
  replace h26 : k ≠ 26 := h26
  replace h47 : k ≠ 47 := h47
  replace hn : 0 < ks.length := hn
  show (∀ i, roleS (standS (.node k s n a p c ks) i st) = roleAt (shOf k ks (roleT (.node k s n a p c ks) st)) i) ∧ ∀ i, takesB (roleAt (shOf k ks (roleT (.node k s n a p c ks) st)) i) 27 = false
  replace hf : faultSh (shOf k ks (roleT (.node k s n a p c ks) st)) ks.length = 0 := hf
  obtain ⟨r, hrl⟩ : ∃ r, r = roleT (.node k s n a p c ks) st := ⟨_, rfl⟩
  rw [← hrl] at hf ⊢
  have hk : k = 1 ∨ k = 2 ∨ k = 3 ∨ k = 4 ∨ k = 5 ∨ k = 6 ∨ k = 7 ∨ k = 8 ∨ k = 9 ∨ k = 10 ∨ k = 11 ∨ k = 12 ∨ k = 13 ∨ k = 14 ∨ k = 15 ∨ k = 16 ∨ k = 17 ∨ k = 18 ∨ k = 19 ∨ k = 20 ∨ k = 21 ∨ k = 22 ∨ k = 23 ∨ k = 24 ∨ k = 25 ∨ k = 26 ∨ k = 27 ∨ k = 28 ∨ k = 29 ∨ k = 30 ∨ k = 31 ∨ k = 32 ∨ k = 33 ∨ k = 34 ∨ k = 35 ∨ k = 36 ∨ k = 37 ∨ k = 38 ∨ k = 39 ∨ k = 40 ∨ k = 41 ∨ k = 42 ∨ k = 43 ∨ k = 44 ∨ k = 45 ∨ k = 46 ∨ k = 47 ∨ k = 48 ∨ k = 49 ∨ k = 50 ∨ k = 51 := by omega
  rcases hk with h | h | h | h | h | h | h | h | h | h | h | h | h | h | h | h | h | h | h | h | h | h | h | h | h | h | h | h | h | h | h | h | h | h | h | h | h | h | h | h | h | h | h | h | h | h | h | h | h | h | h
  · subst h; exact ⟨fun i => one_role 1 _ rfl i, no27_of _ (Nat.succ_pos _) (by show List.all [2] (fun r => !takesB r 27) = true; decide +kernel)⟩
  · subst h; exact ⟨fun i => one_role 2 _ rfl i, no27_of _ (Nat.succ_pos _) (by show List.all [5] (fun r => !takesB r 27) = true; decide +kernel)⟩
  · subst h; exact ⟨fun i => one_role 3 _ rfl i, no27_of _ (Nat.succ_pos _) (by show List.all [3] (fun r => !takesB r 27) = true; decide +kernel)⟩
  · subst h; exact ⟨fun i => one_role 4 _ rfl i, no27_of _ (Nat.succ_pos _) (by show List.all [4] (fun r => !takesB r 27) = true; decide +kernel)⟩
  · subst h; exact ⟨fun i => at_role [5, 6] _ rfl i, no27_of _ (Nat.succ_pos _) (by show List.all [8, 11] (fun r => !takesB r 27) = true; decide +kernel)⟩
  · subst h; exact ⟨fun i => at_role [7, 5, 6] _ rfl i, no27_of _ (Nat.succ_pos _) (by show List.all [6, 8, 11] (fun r => !takesB r 27) = true; decide +kernel)⟩
  · subst h; exact ⟨fun i => one_role 10 _ rfl i, no27_of _ (Nat.succ_pos _) (by show List.all [18] (fun r => !takesB r 27) = true; decide +kernel)⟩
  · subst h; exact absurd (no_kids hf) (by omega)
  · subst h; exact absurd (no_kids hf) (by omega)
  · subst h; exact absurd (no_kids hf) (by omega)
  · subst h; exact absurd (no_kids hf) (by omega)
  · subst h; exact ⟨fun i => one_role 9 _ rfl i, no27_of _ (Nat.succ_pos _) (by show List.all [7] (fun r => !takesB r 27) = true; decide +kernel)⟩
  · subst h; exact ⟨fun i => one_role 8 _ rfl i, no27_of _ (Nat.succ_pos _) (by show List.all [9] (fun r => !takesB r 27) = true; decide +kernel)⟩
  · subst h; exact absurd (no_kids hf) (by omega)
  · subst h; exact ⟨fun i => one_role 8 _ rfl i, no27_of _ (Nat.succ_pos _) (by show List.all [9] (fun r => !takesB r 27) = true; decide +kernel)⟩
  · subst h; exact absurd (no_kids hf) (by omega)
  · subst h; exact ⟨fun i => one_role 12 _ rfl i, no27_of _ (Nat.succ_pos _) (by show List.all [12] (fun r => !takesB r 27) = true; decide +kernel)⟩
  · subst h; exact ⟨fun i => one_role 10 _ rfl i, no27_of _ (Nat.succ_pos _) (by show List.all [18] (fun r => !takesB r 27) = true; decide +kernel)⟩
  · subst h; exact ⟨fun i => at_role [8, 8, 14] _ rfl i, no27_of _ (Nat.succ_pos _) (by show List.all [9, 9, 15] (fun r => !takesB r 27) = true; decide +kernel)⟩
  · subst h; exact ⟨fun i => at_role [13, 10] _ rfl i, no27_of _ (Nat.succ_pos _) (by show List.all [14, 18] (fun r => !takesB r 27) = true; decide +kernel)⟩
  · subst h; exact ⟨fun i => at_role [8, 8, 14] _ rfl i, no27_of _ (Nat.succ_pos _) (by show List.all [9, 9, 15] (fun r => !takesB r 27) = true; decide +kernel)⟩
  · subst h; exact ⟨fun i => at_role [10, 6, 15] _ rfl i, no27_of _ (Nat.succ_pos _) (by show List.all [18, 11, 13] (fun r => !takesB r 27) = true; decide +kernel)⟩
  · subst h; exact ⟨fun i => at_role [11, 6] _ rfl i, no27_of _ (Nat.succ_pos _) (by show List.all [19, 11] (fun r => !takesB r 27) = true; decide +kernel)⟩
  · subst h; exact ⟨fun i => at_role [16, 16, 10, 6] _ rfl i, no27_of _ (Nat.succ_pos _) (by show List.all [10, 10, 18, 11] (fun r => !takesB r 27) = true; decide +kernel)⟩
  · exact absurd h h25
  · exact absurd h h26
  · subst h
    have e : shOf 27 ks r = if r == 22 then shEx [24, 11] else shEx [23, 11] := rfl
    have e2 : ∀ i, standS (.node 27 s n a p c ks) i st = if st == 18 || (st == 0 && listsT (.node 27 s n a p c ks)) then atN [20, 6] i else atN [19, 6] i := fun i => rfl
    have hh : (r == 22) = (st == 18 || (st == 0 && listsT (.node 27 s n a p c ks))) := by
      by_cases h0 : st = 0
      · subst h0
        have : r = if listsT (.node 27 s n a p c ks) then 22 else 21 := hrl
        rw [this]
        cases listsT (.node 27 s n a p c ks) <;> rfl
      · have hR : r = roleS st := by rw [hrl]; unfold roleT; rw [if_neg h0]
        rw [hR, role_22 st hst h0, beq_false_of_ne h0, Bool.false_and, Bool.or_false]
    rw [e, hh]
    refine ⟨fun i => ?_, ?_⟩
    · rw [e2]
      split
      · exact at_role [20, 6] _ rfl i
      · exact at_role [19, 6] _ rfl i
    · split
      · exact no27_of _ (by decide) (by decide +kernel)
      · exact no27_of _ (by decide) (by decide +kernel)
  · subst h; exact ⟨fun i => one_role 11 _ rfl i, no27_of _ (Nat.succ_pos _) (by show List.all [19] (fun r => !takesB r 27) = true; decide +kernel)⟩
  · subst h; exact ⟨fun i => one_role 21 _ rfl i, no27_of _ (Nat.succ_pos _) (by show List.all [16] (fun r => !takesB r 27) = true; decide +kernel)⟩
  · subst h; exact ⟨fun i => one_role 21 _ rfl i, no27_of _ (Nat.succ_pos _) (by show List.all [16] (fun r => !takesB r 27) = true; decide +kernel)⟩
  · subst h; exact absurd (no_kids hf) (by omega)
  · subst h; exact absurd (no_kids hf) (by omega)
  · subst h; exact absurd (no_kids hf) (by omega)
  · subst h; exact ⟨fun i => one_role 13 _ rfl i, no27_of _ (Nat.succ_pos _) (by show List.all [14] (fun r => !takesB r 27) = true; decide +kernel)⟩
  · subst h; exact absurd (no_kids hf) (by omega)
  · subst h; exact absurd (no_kids hf) (by omega)
  · subst h; exact absurd (no_kids hf) (by omega)
  · subst h
    have e : shOf 38 ks r = if r == 23 then shAl 1 [18] else if r == 24 then shAl 1 [26] else shAl 0 [18] := rfl
    have e2 : ∀ i, standS (.node 38 s n a p c ks) i st = if st == 20 then 27 else 10 := fun i => rfl
    have hh : (r == 23) = (st == 19) ∧ (r == 24) = (st == 20) := by
      by_cases h0 : st = 0
      · subst h0
        have : r = 0 := hrl
        subst this; exact ⟨rfl, rfl⟩
      · have : r = roleS st := by rw [hrl]; unfold roleT; rw [if_neg h0]
        rw [this]; exact role_38 st hst h0
    rw [e, hh.1, hh.2]
    by_cases h1 : st = 19
    · subst h1
      exact ⟨fun i => by rw [e2]; exact one_role 10 _ rfl i, no27_of _ (by decide) (by decide +kernel)⟩
    rw [beq_false_of_ne h1]
    by_cases h2 : st = 20
    · subst h2
      exact ⟨fun i => by rw [e2]; exact one_role 27 _ rfl i, no27_of _ (by decide) (by decide +kernel)⟩
    rw [beq_false_of_ne h2] at e2 ⊢
    exact ⟨fun i => by rw [e2]; exact one_role 10 _ rfl i, no27_of _ (by decide) (by decide +kernel)⟩
  · subst h; exact ⟨fun i => one_role 22 _ rfl i, no27_of _ (Nat.succ_pos _) (by show List.all [28] (fun r => !takesB r 27) = true; decide +kernel)⟩
  · subst h
    have e : shOf 40 ks r = if r == 29 then shEx [18] else shEx [18, 18] := rfl
    rw [e]
    refine ⟨fun i => ?_, ?_⟩
    · show roleS 10 = _
      split
      · exact one_role 10 _ rfl i
      · exact two_role 10 _ rfl i
    · split
      · exact no27_of _ (by decide) (by decide +kernel)
      · exact no27_of _ (by decide) (by decide +kernel)
  · subst h; exact ⟨fun i => one_role 23 _ rfl i, no27_of _ (Nat.succ_pos _) (by show List.all [29] (fun r => !takesB r 27) = true; decide +kernel)⟩
  · subst h; exact ⟨fun i => one_role 24 _ rfl i, no27_of _ (Nat.succ_pos _) (by show List.all [30] (fun r => !takesB r 27) = true; decide +kernel)⟩
  · subst h; exact ⟨fun i => at_role [5, 6] _ rfl i, no27_of _ (Nat.succ_pos _) (by show List.all [8, 11] (fun r => !takesB r 27) = true; decide +kernel)⟩
  · subst h; exact ⟨fun i => one_role 26 _ rfl i, no27_of _ (Nat.succ_pos _) (by show List.all [27] (fun r => !takesB r 27) = true; decide +kernel)⟩
  · subst h; exact ⟨fun i => one_role 10 _ rfl i, no27_of _ (Nat.succ_pos _) (by show List.all [18] (fun r => !takesB r 27) = true; decide +kernel)⟩
  · subst h; exact ⟨fun i => two_role 10 _ rfl i, no27_of _ (Nat.succ_pos _) (by show List.all [18, 18] (fun r => !takesB r 27) = true; decide +kernel)⟩
  · exact absurd h h47
  · subst h; exact ⟨fun i => at_role [28, 10] _ rfl i, no27_of _ (Nat.succ_pos _) (by show List.all [17, 18] (fun r => !takesB r 27) = true; decide +kernel)⟩
  · subst h; exact ⟨fun i => at_role [10, 25] _ rfl i, no27_of _ (Nat.succ_pos _) (by show List.all [18, 25] (fun r => !takesB r 27) = true; decide +kernel)⟩
  · subst h; exact ⟨fun i => one_role 10 _ rfl i, no27_of _ (Nat.succ_pos _) (by show List.all [18] (fun r => !takesB r 27) = true; decide +kernel)⟩
  · subst h; exact ⟨fun i => two_role 10 _ rfl i, no27_of _ (Nat.succ_pos _) (by show List.all [18, 18] (fun r => !takesB r 27) = true; decide +kernel)⟩

theorem chk_takes {f : Nat} {y : MT} {r a b : Nat} (h : chk f y r a = .ok b) : takesB r y.kind = true := by
  cases f with
  | zero => exact absurd h (chk_zero y r a b)
  | succ f => exact ((nf_zero y r a).1 ((chk_ok f y r a b).1 h).1).2.1
/-- Where two roles refuse a node its fault is the same. -/
theorem chk_refuse (f : Nat) (x : MT) (r r' a : Nat) (h : takesB r x.kind = false) (h' : takesB r' x.kind = false) : chk f x r a = chk f x r' a := by
  have e : ∀ b, nodeFault x r a b = nodeFault x r' a b := fun b => by unfold nodeFault; rw [h, h']; simp only [Bool.false_and]; rfl
  have ne : ∀ r, takesB r x.kind = false → nodeFault x r a true ≠ 0 := fun r hr h0 => by rw [((nf_zero x r a).1 h0).2.1] at hr; cases hr
  cases f with
  | zero => rw [chk, chk, e]
  | succ f => rw [chk, chk, if_neg (ne r h), if_neg (ne r' h'), e]
theorem chk_none (f : Nat) (x : MT) (a : Nat) (h : x.kind = 16) : chk f x 19 a = chk f x 20 a := by
  have h1 : takesB 19 16 = true := by decide +kernel
  have h2 : takesB 20 16 = true := by decide +kernel
  have e : ∀ b, nodeFault x 19 a b = nodeFault x 20 a b := fun b => by unfold nodeFault; rw [h, h1, h2]; rfl
  cases f with
  | zero => rw [chk, chk, e]
  | succ f =>
    rw [chk, chk, e]
    by_cases h0 : nodeFault x 20 a true = 0
    · have hf := ((nf_zero x 20 a).1 h0).2.2.2.2
      rw [h] at hf
      have hk := List.eq_nil_of_length_eq_zero (no_kids (n := x.kids.length) hf)
      rw [if_pos h0, if_pos h0, hk]; rfl
    · rw [if_neg h0, if_neg h0]
theorem takes_20 (k : Int) (h : k ≠ 16) : takesB 20 k = false := by
  cases e : takesB 20 k with
  | false => rfl
  | true =>
    have := takes_at 20 (fun n => n == 16) (by decide +kernel) e
    have h2 := takes_range e
    simp only [beq_iff_eq] at this
    omega

theorem kid_same (f : Nat) (t : MT) (st a i : Nat) (x : MT) (hst : st < 30) (hr : 1 ≤ t.kind ∧ t.kind ≤ 51) (hf : faultSh (shOf t.kind t.kids (roleT t st)) t.kids.length = 0) (hx : t.kids[i]? = some x) (hA : Ahead t (roleT t st) i) :
    chk f x (roleS (standS t i st)) a = chk f x (rolesOf t (roleT t st) i) a := by
  have hi : i < t.kids.length := by
    rcases Nat.lt_or_ge i t.kids.length with h | h
    · exact h
    · rw [List.getElem?_eq_none h] at hx; cases hx
  by_cases h25 : t.kind = 25
  · have hag := again_second t _ i hi hA
    have e2 : standS t i st = if decide (0 < i) && againB t.kids i then 29 else atN [11, 17] i := by unfold standS; rw [h25]; rfl
    have e1 : roleAt (shOf t.kind t.kids (roleT t st)) i = roleS (atN [11, 17] i) := by rw [h25]; exact (at_role [11, 17] _ rfl i).symm
    unfold rolesOf
    rw [e2, e1]
    by_cases hs : (i : Int) = secDef t.kids 0 0
    · have hB := hag.2 hs
      have h0 : 0 < i := by
        rcases Nat.eq_zero_or_pos i with h | h
        · subst h; unfold againB earlierB at hB; simp at hB
        · exact h
      rw [if_pos hs, hB, decide_eq_true h0]; rfl
    · have hB : againB t.kids i = false := by
        cases h : againB t.kids i with
        | false => rfl
        | true => exact absurd (hag.1 h) hs
      rw [if_neg hs, hB, Bool.and_false, if_neg (by decide)]
  by_cases h26 : t.kind = 26
  · have hag := again_second t _ i hi hA
    have e2 : standS t i st = if decide (1 < i) && againB t.kids i then 29 else atN [16, 10, 18] i := by unfold standS; rw [h26]; rfl
    have e1 : ∀ j, roleAt (shOf t.kind t.kids (roleT t st)) j = roleS (atN [16, 10, 18] j) := fun j => by rw [h26]; exact (at_role [16, 10, 18] _ rfl j).symm
    have e3 : rolesOf t (roleT t st) i = if (i : Int) = secDef t.kids 0 0 then 1 else roleS (atN [16, 10, 18] i) := by unfold rolesOf; rw [e1]
    rw [e2, e3]
    by_cases hs : (i : Int) = secDef t.kids 0 0
    · have hB := hag.2 hs
      have h0 : 1 < i := by
        rcases Nat.lt_or_ge 1 i with h | h
        · exact h
        · exfalso
          have hcases : i = 0 ∨ i = 1 := by omega
          rcases hcases with h | h
          · subst h; unfold againB earlierB at hB; simp at hB
          · subst h
            obtain ⟨y, hy⟩ : ∃ y, t.kids[0]? = some y := ⟨_, List.getElem?_eq_getElem (by omega)⟩
            have hd : isDef y = true := by
              unfold againB earlierB at hB
              rw [Bool.and_eq_true] at hB
              have h1 := hB.1
              cases hk : t.kids with
              | nil => rw [hk] at hi; simp at hi
              | cons z zs => rw [hk] at h1 hy; simp at h1 hy; rw [← hy]; exact h1
            have ht := hA 0 (by omega) y hy
            rw [isDef_27 hd] at ht
            unfold rolesOf at ht
            rw [e1] at ht
            split at ht
            · rw [takes_none] at ht; cases ht
            · have : takesB (roleS (atN [16, 10, 18] 0)) 27 = false := by decide +kernel
              rw [this] at ht; cases ht
      rw [if_pos hs, hB, decide_eq_true h0]; rfl
    · have hB : againB t.kids i = false := by
        cases h : againB t.kids i with
        | false => rfl
        | true => exact absurd (hag.1 h) hs
      rw [if_neg hs, hB, Bool.and_false, if_neg (by decide)]
  by_cases h47 : t.kind = 47
  · have eS : shOf t.kind t.kids (roleT t st) = shEx [18, 19, 19, if noneAt t.kids 2 then 20 else 19] := by rw [h47]; rfl
    have e2 : standS t i st = if i == 3 && noneAt t.kids 2 then (if noneAt t.kids 3 then 11 else 29) else atN [10, 11] i := by unfold standS; rw [h47]; rfl
    have hlen : t.kids.length = 4 := by
      rw [eS] at hf
      unfold faultSh shEx at hf
      simp only [List.length_cons, List.length_nil] at hf
      by_cases h1 : t.kids.length < 4
      · rw [if_pos (by omega)] at hf; cases hf
      · rw [if_neg (by omega)] at hf
        by_cases h2 : (t.kids.length : Int) ≤ 4
        · omega
        · rw [if_neg (by omega), if_neg (by decide)] at hf; cases hf
    have e3 : rolesOf t (roleT t st) i = roleAt (shEx [18, 19, 19, if noneAt t.kids 2 then 20 else 19]) i := by
      rw [no_second t _ i hi hA ?_, eS]
      intro j
      rw [eS]
      cases noneAt t.kids 2
      · exact no27_of (shEx [18, 19, 19, 19]) (by decide) (by decide +kernel) j
      · exact no27_of (shEx [18, 19, 19, 20]) (by decide) (by decide +kernel) j
    rw [e2, e3]
    have h4 : i = 0 ∨ i = 1 ∨ i = 2 ∨ i = 3 := by omega
    rcases h4 with h | h | h | h
    · subst h; rfl
    · subst h; rfl
    · subst h; rfl
    · subst h
      cases h2 : noneAt t.kids 2 with
      | false => rfl
      | true =>
        show chk f x (roleS (if noneAt t.kids 3 then 11 else 29)) a = chk f x 20 a
        have e5 : noneAt t.kids 3 = (x.kind == 16) := by unfold noneAt; rw [hx]; rfl
        rw [e5]
        by_cases h16 : x.kind = 16
        · rw [h16]; exact chk_none f x a h16
        · rw [beq_false_of_ne h16]
          exact chk_refuse f x 1 20 a takes_none (takes_20 _ h16)
  obtain ⟨p1, p2⟩ := plain_kid t st hst hr h25 h26 h47 (by omega) hf
  rw [no_second t _ i hi hA p2, p1]

/-- What the document finds is what tree.Right finds. -/
theorem look_chk : ∀ (f : Nat) (t : MT) (st a : Nat), st < 30 → lookR f t st a = chk f t (roleT t st) a
  | 0, t, st, a, hst => by rw [lookR, chk, node_fault t st a false hst]
  | f + 1, t, st, a, hst => by
    rw [lookR, chk, node_fault t st a true hst]
    by_cases h : faultR t st a true = 0
    · rw [if_pos h, if_pos h]
      rw [← node_fault t st a true hst] at h
      obtain ⟨_, n2, _, _, n5⟩ := (nf_zero t _ a).1 h
      have hr := takes_range n2
      refine chkK_same (lookR f) (chk f) _ _ t.kids ?_ t.kids 0 (a + 1) (fun j => by rw [Nat.zero_add]) (fun j hj => absurd hj (by omega))
      intro i x hx hA b
      have hp := stand_pos t i st
      rw [look_chk f x (standS t i st) b hp.2]
      have e : roleT x (standS t i st) = roleS (standS t i st) := by unfold roleT; rw [if_neg (by omega)]
      rw [e]
      exact kid_same f t st b i x hst ⟨hr.1, hr.2.1⟩ n5 hx (fun j hj y hy => by obtain ⟨a1, b1, h1⟩ := hA j hj y hy; exact chk_takes h1)
    · rw [if_neg h, if_neg h]
/-- What the document finds wrong first with a whole tree. -/
theorem look_right (t : MT) : lookR 60 t 0 0 = rightSpec t := by
  rw [look_chk 60 t 0 0 (by decide)]; rfl

end Go.Proofs.YthbnegggohegkaaGreatDoor
