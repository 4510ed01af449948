/-
  What the document asks of a node by itself is what tree.Right asks.
  The document's own answer for trees: look, at every tree.
  The document's own answer for trees: what holds between two rounds of look.
  What the document finds wrong with a node by itself is what tree.Right finds.
-/
import Derived.Test.YthbnegggohegkaaGreatDoorQl
import Derived.Test.YthbnegggohegkaaGreatDoorGs
namespace Go.Proofs.YthbnegggohegkaaGreatDoor
open Go.RowKit

/-- What the document asks of a node by itself. -/
def okR (t : MT) (st : Nat) : Bool := decide (1 ≤ t.kind) && decide (t.kind ≤ 51) && standsB st t.kind t.text.data.toList && (numB t.kind t.num && textS t.kind t.text.data.toList st) && decide ((boundsS t.kind t.text.data.toList st).1 ≤ (t.kids.length : Int)) && !(decide (0 ≤ (boundsS t.kind t.text.data.toList st).2) && decide ((boundsS t.kind t.text.data.toList st).2 < (t.kids.length : Int)))
def faultR (t : MT) (st a : Nat) (fits : Bool) : Nat :=
  if 20000 ≤ a then 22 else if fits = false then 21 else if okR t st = false then 20 else if 0 < mostS t.kind ∧ mostS t.kind < (t.kids.length : Int) then 22 else 0
def lookR : Nat → MT → Nat → Nat → Except (Nat × MT) Nat
  | 0, t, st, a => .error (faultR t st a false, t)
  | f + 1, t, st, a => if faultR t st a true = 0 then chkK (lookR f) (fun i => standS t i st) 0 t.kids (a + 1) else .error (faultR t st a true, t)

/-- The role of a node that stands there. -/
def roleT (t : MT) (st : Nat) : Nat := if st = 0 then ownR t else roleS st
theorem takes_0 (k : Int) : takesB 0 k = (decide (1 ≤ k) && decide (k ≤ 51)) := takes_fin 0 (fun k => decide (1 ≤ k) && decide (k ≤ 51)) (by decide +kernel) (fun k h => by simp at h; omega) k
theorem takes_in {r : Nat} {k : Int} (h : takesB r k = true) : (decide (1 ≤ k) && decide (k ≤ 51)) = true := by
  obtain ⟨h1, h2, _⟩ := takes_range h
  rw [decide_eq_true h1, decide_eq_true h2]; rfl
theorem role_14 (st : Nat) (h : st < 30) : (roleS st == 14) = (st == 13) := by
  have e : ∀ n : Fin 30, (roleS n.val == 14) = (n.val == 13) := by decide
  exact e ⟨st, h⟩
theorem role_40 (st : Nat) (h : st < 30) (h0 : st ≠ 0) (ht : takesB (roleS st) 40 = true) : (roleS st = 28 ∧ st = 22) ∨ (roleS st = 29 ∧ st = 23) := by
  have e : ∀ n : Fin 30, n.val ≠ 0 → takesB (roleS n.val) 40 = true → (roleS n.val = 28 ∧ n.val = 22) ∨ (roleS n.val = 29 ∧ n.val = 23) := by decide +kernel
  exact e ⟨st, h⟩ h0 ht
theorem role_38 (st : Nat) (h : st < 30) (h0 : st ≠ 0) : (roleS st == 23) = (st == 19) ∧ (roleS st == 24) = (st == 20) := by
  have e : ∀ n : Fin 30, n.val ≠ 0 → (roleS n.val == 23) = (n.val == 19) ∧ (roleS n.val == 24) = (n.val == 20) := by decide
  exact e ⟨st, h⟩ h0
theorem role_29 (st : Nat) (h : st < 30) (h0 : st ≠ 0) : (roleS st == 29) = (st == 23) := by
  have e : ∀ n : Fin 30, n.val ≠ 0 → (roleS n.val == 29) = (n.val == 23) := by decide
  exact e ⟨st, h⟩ h0

theorem text_same (k : Int) (s : Bytes) (r st : Nat) (h14 : k ≠ 14) (h40 : k ≠ 40) (h50 : k ≠ 50) : textB k s r = textS k s st := by
  unfold textB textS
  simp only [beq_false_of_ne h14, beq_false_of_ne h40, beq_false_of_ne h50, Bool.false_eq_true, if_false]
  by_cases c1 : ([2, 3, 4, 5, 6, 7, 8, 9, 10, 11, 12, 18, 41, 45] : List Int).contains k = true
  · rw [if_pos c1, if_pos c1]
  rw [if_neg c1, if_neg c1]
  by_cases c2 : ([23, 24, 25, 26, 31, 32] : List Int).contains k = true
  · rw [if_pos c2, if_pos c2, Bool.or_comm]
  rw [if_neg c2, if_neg c2]

theorem node_takes (t : MT) (st : Nat) (hst : st < 30) : (takesB (roleT t st) t.kind && textB t.kind t.text.data.toList (roleT t st)) = (decide (1 ≤ t.kind) && decide (t.kind ≤ 51) && standsB st t.kind t.text.data.toList && textS t.kind t.text.data.toList st) := by
  unfold roleT
  by_cases h0 : st = 0
  · subst h0
    rw [if_pos rfl]
    have hs : standsB 0 t.kind t.text.data.toList = true := rfl
    rw [hs, Bool.and_true]
    by_cases h40 : t.kind = 40
    · rw [h40]
      have e : ownR t = if t.text.data.toList == [] then 28 else 29 := by unfold ownR; rw [h40]; rfl
      have e2 : textS 40 t.text.data.toList 0 = if (0 == 23 || (0 == 0 && !(t.text.data.toList == []))) then nameB t.text.data.toList else t.text.data.toList == [] := rfl
      rw [e, e2]
      have e3 : ∀ r, textB 40 t.text.data.toList r = ((r == 28 && t.text.data.toList == []) || (r == 29 && nameB t.text.data.toList)) := fun r => rfl
      cases hs : t.text.data.toList == [] with
      | true =>
        rw [if_pos rfl, e3, hs]
        have : takesB 28 40 = true := by decide +kernel
        rw [this]; rfl
      | false =>
        rw [if_neg (by decide), e3, hs]
        have : takesB 29 40 = true := by decide +kernel
        rw [this]; simp
    by_cases h27 : t.kind = 27
    · rw [h27]
      have e : ownR t = if listsT t then 22 else 21 := by unfold ownR; rw [h27]; rfl
      rw [e]
      have h21 : takesB 21 27 = true := by decide +kernel
      have h22 : takesB 22 27 = true := by decide +kernel
      have ht : ∀ r, textB 27 t.text.data.toList r = textS 27 t.text.data.toList 0 := fun r => text_same 27 _ r 0 (by decide) (by decide) (by decide)
      cases listsT t
      · rw [if_neg (by decide), h21, ht]; rfl
      · rw [if_pos rfl, h22, ht]; rfl
    have e : ownR t = 0 := by unfold ownR; rw [beq_false_of_ne h40, beq_false_of_ne h27]; rfl
    rw [e, takes_0]
    congr 1
    by_cases h14 : t.kind = 14
    · rw [h14]; rfl
    by_cases h50 : t.kind = 50
    · rw [h50]
      have e1 : textB 50 t.text.data.toList 0 = (unaryB t.text.data.toList && (t.text.data.toList == [42] || !(0 == 14))) := rfl
      have e2 : textS 50 t.text.data.toList 0 = unaryB t.text.data.toList := rfl
      rw [e1, e2]; simp
    exact text_same _ _ 0 0 h14 h40 h50
  · rw [if_neg h0]
    have hs : standsB st t.kind t.text.data.toList = (takesB (roleS st) t.kind && (!(st == 13 && t.kind == 50) || t.text.data.toList == [42])) := by unfold standsB; rw [if_neg h0]
    rw [hs]
    cases hk : takesB (roleS st) t.kind with
    | false => simp
    | true =>
      rw [takes_in hk, Bool.true_and, Bool.true_and, Bool.true_and]
      by_cases h14 : t.kind = 14
      · rw [h14]
        have : (!(st == 13 && ((14 : Int) == 50)) || t.text.data.toList == [42]) = true := by simp
        rw [this, Bool.true_and]; rfl
      by_cases h40 : t.kind = 40
      · rw [h40] at hk ⊢
        have : (!(st == 13 && ((40 : Int) == 50)) || t.text.data.toList == [42]) = true := by simp
        rw [this, Bool.true_and]
        rcases role_40 st hst h0 hk with ⟨e1, e2⟩ | ⟨e1, e2⟩
        · subst e2; show textB 40 _ 28 = textS 40 _ 22
          have e : ∀ a b : Bool, (((28 : Nat) == 28 && a) || ((28 : Nat) == 29 && b)) = a := by decide
          exact e _ _
        · subst e2; show textB 40 _ 29 = textS 40 _ 23
          have e : ∀ a b : Bool, (((29 : Nat) == 28 && a) || ((29 : Nat) == 29 && b)) = b := by decide
          exact e (t.text.data.toList == []) (nameB t.text.data.toList)
      by_cases h50 : t.kind = 50
      · rw [h50]
        have e1 : textB 50 t.text.data.toList (roleS st) = (unaryB t.text.data.toList && (t.text.data.toList == [42] || !(roleS st == 14))) := rfl
        have e2 : textS 50 t.text.data.toList st = unaryB t.text.data.toList := rfl
        rw [e1, e2, role_14 st hst, Bool.and_comm]
        cases st == 13 <;> simp
      · rw [beq_false_of_ne h50]
        simp only [Bool.and_false, Bool.not_false, Bool.true_or, Bool.true_and]
        exact text_same _ _ _ _ h14 h40 h50

theorem fault_ex' (c n : Nat) (rs : List Nat) (hc : rs.length = c) : faultSh (shEx rs) n = if (decide ((c : Int) ≤ (n : Int)) && !(decide (0 ≤ (c : Int)) && decide ((c : Int) < (n : Int)))) = false then 20 else 0 := by
  subst hc
  unfold faultSh shEx
  simp only
  by_cases h1 : n < rs.length
  · rw [if_pos h1, if_pos (by rw [decide_eq_false (by omega)]; rfl)]
  rw [if_neg h1]
  by_cases h2 : n = rs.length
  · rw [if_pos (.inr (by omega)), if_neg (by rw [decide_eq_true (by omega), decide_eq_false (show ¬ ((rs.length : Int) < (n : Int)) by omega)]; simp)]
  · rw [if_neg (by omega), if_neg (by decide), if_pos (by rw [decide_eq_true (show (0 : Int) ≤ rs.length by omega), decide_eq_true (show ((rs.length : Int) < (n : Int)) by omega)]; simp)]
theorem fault_al' (l n : Nat) (rs : List Nat) : faultSh (shAl l rs) n = if (decide ((l : Int) ≤ (n : Int)) && !(decide (0 ≤ (-1 : Int)) && decide ((-1 : Int) < (n : Int)))) = false then 20 else 0 := by
  unfold faultSh shAl
  simp only
  by_cases h1 : n < l
  · rw [if_pos h1, if_pos (by rw [decide_eq_false (by omega)]; rfl)]
  · rw [if_neg h1, if_pos (.inl (by decide)), if_neg (by rw [decide_eq_true (by omega), decide_eq_false (show ¬ ((0 : Int) ≤ -1) by decide)]; simp)]
theorem fault_am' (m r n : Nat) : faultSh (shAm m r) n = if (decide ((0 : Int) ≤ (n : Int)) && !(decide (0 ≤ (-1 : Int)) && decide ((-1 : Int) < (n : Int)))) = false then 20 else if ((m : Int) < (n : Int)) then 22 else 0 := by
  have e : (decide ((0 : Int) ≤ (n : Int)) && !(decide (0 ≤ (-1 : Int)) && decide ((-1 : Int) < (n : Int)))) = true := by
    rw [decide_eq_true (show (0 : Int) ≤ n by omega), decide_eq_false (show ¬ ((0 : Int) ≤ -1) by decide)]; rfl
  rw [e, if_neg (by decide)]
  unfold faultSh shAm
  simp only
  rw [if_neg (by omega)]
  by_cases h : (n : Int) ≤ m
  · rw [if_pos (.inr h), if_neg (by omega)]
  · rw [if_neg (by omega), if_pos trivial, if_pos (by omega)]
end Go.Proofs.YthbnegggohegkaaGreatDoor
namespace Go.Proofs.YthbnegggohegkaaGreatDoor
open Go.RowKit

theorem Chk.setAt (cb o : Nat) (w : World) (v : Value) : Chk cb w (w.setCell ⟨cb, o, none⟩ v) :=
  ⟨(Below.refl cb w).setCell (p := ⟨cb, o, none⟩) (Nat.le_refl _) _, fun k hk _ => Below.heap_setCell w ⟨cb, o, none⟩ v k (by show k ≠ cb; omega), by simp⟩

/-- A looker's block. -/
abbrev lkC (many code a : Int) (s : ByteArray) : Array Value := #[.int .i64 many, .int .i64 code, .int .i64 a, .string s]
/-- What look leaves behind. -/
def LookP (lb : Nat) (w : World) (r : Except (Nat × MT) Nat) (e : Ending) (w' : World) : Prop :=
  (∃ u, e = .returned u) ∧ Chk lb w w' ∧ match r with
  | .ok b => w'.heap[lb]? = some (.cells (lkC (b : Nat) 0 0 ⟨#[]⟩) 59 (0, 0))
  | .error (code, x) => ∃ z : Int, w'.heap[lb]? = some (.cells (lkC z (code : Nat) x.at_ (toldName x.text)) 59 (0, 0))
theorem row_cells {w : World} {b : Nat} {cs : Array Value} {t : TypeId} (h : w.heap[b]? = some (.cells cs t (0, 0))) : (∀ i, w.cell? ⟨b, i, none⟩ = cs[i]?) ∧ ∀ i, w.frozen? ⟨b, i, none⟩ = false := by
  refine ⟨fun i => ?_, fun i => ?_⟩
  · simp [World.cell?, h]
  · simp [World.frozen?, h]

end Go.Proofs.YthbnegggohegkaaGreatDoor
namespace Go.Proofs.YthbnegggohegkaaGreatDoor
open Go.RowKit

/-- What holds between two rounds of look over a node's Kids. -/
structure LkAt (lb : Nat) (w : World) (cs : Array Value) (b : Nat) (wr : World) : Prop where
  row : wr.heap[lb]? = some (.cells (lkC (b : Nat) 0 0 ⟨#[]⟩) 59 (0, 0))
  chk : Chk lb w wr
  node : CellsOf wr w.heap.size cs
  big : lb < w.heap.size ∧ w.heap.size < wr.heap.size
  few : b ≤ 20000
theorem look_code : ∀ (f : Nat) (t : MT) (st a code : Nat) (x : MT), lookR f t st a = .error (code, x) → code ≠ 0 := by
  have hK : ∀ (g : MT → Nat → Nat → Except (Nat × MT) Nat) (rs : Nat → Nat), (∀ t st a code x, g t st a = .error (code, x) → code ≠ 0) → ∀ (xs : List MT) (i a code : Nat) (x : MT), chkK g rs i xs a = .error (code, x) → code ≠ 0 := by
    intro g rs hg xs
    induction xs with
    | nil => intro i a code x h; rw [chkK] at h; cases h
    | cons y ys ih =>
      intro i a code x h
      rw [chkK] at h
      cases hy : g y (rs i) a with
      | error e => rw [hy] at h; cases h; exact hg _ _ _ _ _ hy
      | ok b => rw [hy] at h; exact ih _ _ _ _ h
  intro f
  induction f with
  | zero =>
    intro t st a code x h
    rw [lookR] at h
    cases h
    unfold faultR
    split
    · decide
    · rw [if_pos rfl]; decide
  | succ f ih =>
    intro t st a code x h
    rw [lookR] at h
    by_cases hf : faultR t st a true = 0
    · rw [if_pos hf] at h; exact hK _ _ ih _ _ _ _ _ h
    · rw [if_neg hf] at h; cases h; exact hf
theorem look_count : ∀ (f : Nat) (t : MT) (st a b : Nat), lookR f t st a = .ok b → a ≤ 20000 → b ≤ 20000 := by
  have hK : ∀ (g : MT → Nat → Nat → Except (Nat × MT) Nat) (rs : Nat → Nat), (∀ t st a b, g t st a = .ok b → a ≤ 20000 → b ≤ 20000) → ∀ (xs : List MT) (i a b : Nat), chkK g rs i xs a = .ok b → a ≤ 20000 → b ≤ 20000 := by
    intro g rs hg xs
    induction xs with
    | nil => intro i a b h ha; rw [chkK] at h; cases h; exact ha
    | cons y ys ih =>
      intro i a b h ha
      rw [chkK] at h
      cases hy : g y (rs i) a with
      | error e => rw [hy] at h; cases h
      | ok b' => rw [hy] at h; exact ih _ _ _ h (hg _ _ _ _ hy ha)
  intro f
  induction f with
  | zero => intro t st a b h; rw [lookR] at h; cases h
  | succ f ih =>
    intro t st a b h ha
    rw [lookR] at h
    by_cases hf : faultR t st a true = 0
    · rw [if_pos hf] at h
      have : a < 20000 := by
        rcases Nat.lt_or_ge a 20000 with h1 | h1
        · exact h1
        · unfold faultR at hf; rw [if_pos h1] at hf; cases hf
      exact hK _ _ ih _ _ _ _ h (by omega)
    · rw [if_neg hf] at h; cases h
end Go.Proofs.YthbnegggohegkaaGreatDoor
namespace Go.Proofs.YthbnegggohegkaaGreatDoor
open Go.RowKit

/-- What the document finds wrong with how many Kids there are. -/
def fB (k : Int) (s : Bytes) (st n : Nat) : Nat := if (decide ((boundsS k s st).1 ≤ (n : Int)) && !(decide (0 ≤ (boundsS k s st).2) && decide ((boundsS k s st).2 < (n : Int)))) = false then 20 else if 0 < mostS k ∧ mostS k < (n : Int) then 22 else 0
theorem fB_ex (k : Int) (s : Bytes) (st n c : Nat) (rs : List Nat) (hb : boundsS k s st = ((c : Int), (c : Int))) (hm : mostS k = 0) (hc : rs.length = c) : faultSh (shEx rs) n = fB k s st n := by
  unfold fB
  rw [fault_ex' c n rs hc, hb, hm]
  simp only [show ¬ (0 < (0 : Int)) by decide, false_and, if_false]
theorem fB_al (k : Int) (s : Bytes) (st n l : Nat) (rs : List Nat) (hb : boundsS k s st = ((l : Int), (-1 : Int))) (hm : mostS k = 0) : faultSh (shAl l rs) n = fB k s st n := by
  unfold fB
  rw [fault_al' l n rs, hb, hm]
  simp only [show ¬ (0 < (0 : Int)) by decide, false_and, if_false]
theorem fB_am (k : Int) (s : Bytes) (st n m r : Nat) (hb : boundsS k s st = ((0 : Int), (-1 : Int))) (hm : mostS k = (m : Int)) (h0 : 0 < m) : faultSh (shAm m r) n = fB k s st n := by
  unfold fB
  rw [fault_am' m r n, hb, hm]
  simp only [show (0 < (m : Int)) by omega, true_and]
theorem shape_fault (t : MT) (st : Nat) (hst : st < 30) (hr : 1 ≤ t.kind ∧ t.kind ≤ 51) (ht : takesB (roleT t st) t.kind = true) : faultSh (shOf t.kind t.kids (roleT t st)) t.kids.length = fB t.kind t.text.data.toList st t.kids.length := by
  cases t with
  | node k s n a p c ks =>
  replace hr : 1 ≤ k ∧ k ≤ 51 := hr
  show faultSh (shOf k ks (roleT (.node k s n a p c ks) st)) ks.length = fB k s.data.toList st ks.length
  replace ht : takesB (roleT (.node k s n a p c ks) st) k = true := ht
  obtain ⟨r, hrl⟩ : ∃ r, r = roleT (.node k s n a p c ks) st := ⟨_, rfl⟩
  rw [← hrl] at ht ⊢
  have hk : k = 1 ∨ k = 2 ∨ k = 3 ∨ k = 4 ∨ k = 5 ∨ k = 6 ∨ k = 7 ∨ k = 8 ∨ k = 9 ∨ k = 10 ∨ k = 11 ∨ k = 12 ∨ k = 13 ∨ k = 14 ∨ k = 15 ∨ k = 16 ∨ k = 17 ∨ k = 18 ∨ k = 19 ∨ k = 20 ∨ k = 21 ∨ k = 22 ∨ k = 23 ∨ k = 24 ∨ k = 25 ∨ k = 26 ∨ k = 27 ∨ k = 28 ∨ k = 29 ∨ k = 30 ∨ k = 31 ∨ k = 32 ∨ k = 33 ∨ k = 34 ∨ k = 35 ∨ k = 36 ∨ k = 37 ∨ k = 38 ∨ k = 39 ∨ k = 40 ∨ k = 41 ∨ k = 42 ∨ k = 43 ∨ k = 44 ∨ k = 45 ∨ k = 46 ∨ k = 47 ∨ k = 48 ∨ k = 49 ∨ k = 50 ∨ k = 51 := by omega
  rcases hk with h | h | h | h | h | h | h | h | h | h | h | h | h | h | h | h | h | h | h | h | h | h | h | h | h | h | h | h | h | h | h | h | h | h | h | h | h | h | h | h | h | h | h | h | h | h | h | h | h | h | h
  · subst h; exact fB_al 1 _ _ _ 0 [2] rfl rfl
  · subst h; exact fB_ex 2 _ _ _ 1 [5] rfl rfl rfl
  · subst h; exact fB_am 3 _ _ _ 30 3 rfl rfl (by decide)
  · subst h; exact fB_am 4 _ _ _ 60 4 rfl rfl (by decide)
  · subst h; exact fB_ex 5 _ _ _ 2 [8, 11] rfl rfl rfl
  · subst h; exact fB_ex 6 _ _ _ 3 [6, 8, 11] rfl rfl rfl
  · subst h; exact fB_ex 7 _ _ _ 1 [18] rfl rfl rfl
  · subst h; exact fB_ex 8 _ _ _ 0 [] rfl rfl rfl
  · subst h; exact fB_ex 9 _ _ _ 0 [] rfl rfl rfl
  · subst h; exact fB_ex 10 _ _ _ 0 [] rfl rfl rfl
  · subst h; exact fB_ex 11 _ _ _ 0 [] rfl rfl rfl
  · subst h; exact fB_ex 12 _ _ _ 1 [7] rfl rfl rfl
  · subst h; exact fB_am 13 _ _ _ 12 9 rfl rfl (by decide)
  · subst h; exact fB_ex 14 _ _ _ 0 [] rfl rfl rfl
  · subst h; exact fB_ex 15 _ _ _ 1 [9] rfl rfl rfl
  · subst h; exact fB_ex 16 _ _ _ 0 [] rfl rfl rfl
  · subst h; exact fB_al 17 _ _ _ 0 [12] rfl rfl
  · subst h; exact fB_ex 18 _ _ _ 1 [18] rfl rfl rfl
  · subst h; exact fB_ex 19 _ _ _ 3 [9, 9, 15] rfl rfl rfl
  · subst h; exact fB_ex 20 _ _ _ 2 [14, 18] rfl rfl rfl
  · subst h; exact fB_ex 21 _ _ _ 3 [9, 9, 15] rfl rfl rfl
  · subst h; exact fB_ex 22 _ _ _ 3 [18, 11, 13] rfl rfl rfl
  · subst h; exact fB_ex 23 _ _ _ 2 [19, 11] rfl rfl rfl
  · subst h; exact fB_ex 24 _ _ _ 4 [10, 10, 18, 11] rfl rfl rfl
  · subst h; exact fB_al 25 _ _ _ 1 [19, 21] rfl rfl
  · subst h; exact fB_al 26 _ _ _ 2 [10, 18, 22] rfl rfl
  · subst h
    have e : shOf 27 ks r = if r == 22 then shEx [24, 11] else shEx [23, 11] := rfl
    rw [e]
    split
    · exact fB_ex 27 _ _ _ 2 _ rfl rfl rfl
    · exact fB_ex 27 _ _ _ 2 _ rfl rfl rfl
  · subst h; exact fB_ex 28 _ _ _ 1 [19] rfl rfl rfl
  · subst h; exact fB_ex 29 _ _ _ 1 [16] rfl rfl rfl
  · subst h; exact fB_ex 30 _ _ _ 1 [16] rfl rfl rfl
  · subst h; exact fB_ex 31 _ _ _ 0 [] rfl rfl rfl
  · subst h; exact fB_ex 32 _ _ _ 0 [] rfl rfl rfl
  · subst h; exact fB_ex 33 _ _ _ 0 [] rfl rfl rfl
  · subst h; exact fB_ex 34 _ _ _ 1 [14] rfl rfl rfl
  · subst h; exact fB_ex 35 _ _ _ 0 [] rfl rfl rfl
  · subst h; exact fB_ex 36 _ _ _ 0 [] rfl rfl rfl
  · subst h; exact fB_ex 37 _ _ _ 0 [] rfl rfl rfl
  · subst h
    have e : shOf 38 ks r = if r == 23 then shAl 1 [18] else if r == 24 then shAl 1 [26] else shAl 0 [18] := rfl
    have e2 : boundsS 38 s.data.toList st = if st == 19 || st == 20 then (1, -1) else (0, -1) := rfl
    rw [e]
    have hh : (r == 23) = (st == 19) ∧ (r == 24) = (st == 20) := by
      by_cases h0 : st = 0
      · subst h0
        have : r = 0 := hrl
        subst this; exact ⟨rfl, rfl⟩
      · have : r = roleS st := by rw [hrl]; unfold roleT; rw [if_neg h0]
        rw [this]; exact role_38 st hst h0
    rw [hh.1, hh.2]
    cases h1 : st == 19 with
    | true => rw [h1] at e2; exact fB_al 38 _ _ _ 1 _ e2 rfl
    | false =>
      cases h2 : st == 20 with
      | true => rw [h1, h2] at e2; exact fB_al 38 _ _ _ 1 _ e2 rfl
      | false => rw [h1, h2] at e2; exact fB_al 38 _ _ _ 0 _ e2 rfl
  · subst h; exact fB_al 39 _ _ _ 0 [28] rfl rfl
  · subst h
    have e : shOf 40 ks r = if r == 29 then shEx [18] else shEx [18, 18] := rfl
    have e2 : boundsS 40 s.data.toList st = if st == 23 || (st == 0 && !(s.data.toList == [])) then (1, 1) else (2, 2) := rfl
    rw [e]
    have hh : (r == 29) = (st == 23 || (st == 0 && !(s.data.toList == []))) := by
      by_cases h0 : st = 0
      · subst h0
        have : r = if s.data.toList == [] then 28 else 29 := hrl
        rw [this]
        cases s.data.toList == [] <;> rfl
      · have hR : r = roleS st := by rw [hrl]; unfold roleT; rw [if_neg h0]
        rw [hR] at ht
        rcases role_40 st hst h0 ht with ⟨e1, e2⟩ | ⟨e1, e2⟩
        · rw [hR, e1, e2]; rfl
        · rw [hR, e1, e2]; rfl
    rw [hh]
    cases h1 : (st == 23 || (st == 0 && !(s.data.toList == []))) with
    | true => rw [h1] at e2; exact fB_ex 40 _ _ _ 1 _ e2 rfl rfl
    | false => rw [h1] at e2; exact fB_ex 40 _ _ _ 2 _ e2 rfl rfl
  · subst h; exact fB_al 41 _ _ _ 0 [29] rfl rfl
  · subst h; exact fB_ex 42 _ _ _ 1 [30] rfl rfl rfl
  · subst h; exact fB_ex 43 _ _ _ 2 [8, 11] rfl rfl rfl
  · subst h; exact fB_ex 44 _ _ _ 1 [27] rfl rfl rfl
  · subst h; exact fB_ex 45 _ _ _ 1 [18] rfl rfl rfl
  · subst h; exact fB_ex 46 _ _ _ 2 [18, 18] rfl rfl rfl
  · subst h; exact fB_ex 47 _ _ _ 4 [18, 19, 19, if noneAt ks 2 then 20 else 19] rfl rfl rfl
  · subst h; exact fB_al 48 _ _ _ 1 [17, 18] rfl rfl
  · subst h; exact fB_ex 49 _ _ _ 2 [18, 25] rfl rfl rfl
  · subst h; exact fB_ex 50 _ _ _ 1 [18] rfl rfl rfl
  · subst h; exact fB_ex 51 _ _ _ 2 [18, 18] rfl rfl rfl

theorem node_fault (t : MT) (st a : Nat) (fits : Bool) (hst : st < 30) : nodeFault t (roleT t st) a fits = faultR t st a fits := by
  unfold nodeFault faultR
  by_cases h1 : 20000 ≤ a
  · rw [if_pos h1, if_pos h1]
  rw [if_neg h1, if_neg h1]
  by_cases h2 : fits = false
  · rw [if_pos h2, if_pos h2]
  rw [if_neg h2, if_neg h2, node_takes t st hst]
  cases hb : (decide (1 ≤ t.kind) && decide (t.kind ≤ 51) && standsB st t.kind t.text.data.toList && textS t.kind t.text.data.toList st) with
  | false =>
    have : okR t st = false := by
      unfold okR
      revert hb
      cases decide (1 ≤ t.kind) <;> cases decide (t.kind ≤ 51) <;> cases standsB st t.kind t.text.data.toList <;> cases textS t.kind t.text.data.toList st <;> cases numB t.kind t.num <;> simp
    rw [this, Bool.false_and, if_pos rfl, if_pos rfl]
  | true =>
    have ht := node_takes t st hst
    rw [hb] at ht
    simp only [Bool.and_eq_true, decide_eq_true_eq] at hb ht
    obtain ⟨⟨⟨b1, b2⟩, b3⟩, b4⟩ := hb
    cases hn : numB t.kind t.num with
    | false =>
      have : okR t st = false := by unfold okR; rw [hn]; simp
      rw [this]; rfl
    | true =>
      rw [if_neg (by decide), shape_fault t st hst ⟨b1, b2⟩ ht.1]
      have : okR t st = (decide ((boundsS t.kind t.text.data.toList st).1 ≤ (t.kids.length : Int)) && !(decide (0 ≤ (boundsS t.kind t.text.data.toList st).2) && decide ((boundsS t.kind t.text.data.toList st).2 < (t.kids.length : Int)))) := by
        unfold okR; rw [hn, b3, b4, decide_eq_true b1, decide_eq_true b2]; simp only [Bool.true_and]
      rw [this]; rfl
end Go.Proofs.YthbnegggohegkaaGreatDoor
