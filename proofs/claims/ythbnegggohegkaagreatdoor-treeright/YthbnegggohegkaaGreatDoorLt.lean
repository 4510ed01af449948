/-
  What tree.Right finds of a tree it finds of its twin.
-/
import Derived.Test.YthbnegggohegkaaGreatDoorLpJ
import Derived.Test.YthbnegggohegkaaGreatDoorLr
namespace Go.Proofs.YthbnegggohegkaaGreatDoor
open Go.RowKit

/-- The same answer, of nodes alike. -/
def eqR : Except (Nat × MT) Nat → Except (Nat × MT) Nat → Prop
  | .ok b, .ok b' => b = b'
  | .error x, .error x' => x.1 = x'.1 ∧ x.2.at_ = x'.2.at_ ∧ x.2.text = x'.2.text
  | _, _ => False
theorem tw_opt (P : MT → Bool) (hP : ∀ x y, MT.twin x y → P y = P x) : ∀ {xs ys : List MT}, MT.twinL xs ys → ∀ (i : Nat), (ys[i]?).any P = (xs[i]?).any P
  | [], ys, h, i => by rw [MT.twinL] at h; subst h; rfl
  | x :: xs, ys, h, i => by
    rw [MT.twinL] at h
    obtain ⟨y, ys', rfl, hx, hl⟩ := h
    cases i with
    | zero => exact hP x y hx
    | succ i => exact tw_opt P hP hl i
theorem tw_any (P : MT → Bool) (hP : ∀ x y, MT.twin x y → P y = P x) : ∀ {xs ys : List MT}, MT.twinL xs ys → ys.any P = xs.any P
  | [], ys, h => by rw [MT.twinL] at h; subst h; rfl
  | x :: xs, ys, h => by
    rw [MT.twinL] at h
    obtain ⟨y, ys', rfl, hx, hl⟩ := h
    rw [List.any_cons, List.any_cons, hP x y hx, tw_any P hP hl]
theorem tw_kind {x y : MT} (h : MT.twin x y) : y.kind = x.kind := ((MT.twin_eq x y).1 h).1
theorem tw_none {xs ys : List MT} (h : MT.twinL xs ys) (i : Nat) : noneAt ys i = noneAt xs i :=
  tw_opt (fun x => x.kind == 16) (fun x y h => by simp only [tw_kind h]) h i
theorem tw_def {x y : MT} (h : MT.twin x y) : isDef y = isDef x := by
  have h2 := ((MT.twin_eq x y).1 h).2.2.2.2
  unfold isDef
  rw [tw_kind h, tw_opt (fun y => y.kind == 16) (fun x y h => by simp only [tw_kind h]) h2 0]
theorem tw_sec : ∀ {xs ys : List MT}, MT.twinL xs ys → ∀ d i, secDef ys d i = secDef xs d i
  | [], ys, h, d, i => by rw [MT.twinL] at h; subst h; rfl
  | x :: xs, ys, h, d, i => by
    rw [MT.twinL] at h
    obtain ⟨y, ys', rfl, hx, hl⟩ := h
    rw [secDef, secDef, tw_def hx, tw_sec hl]
theorem tw_sh {xs ys : List MT} (h : MT.twinL xs ys) (k : Int) (rl : Nat) : shOf k ys rl = shOf k xs rl := by
  unfold shOf
  rw [tw_none h 2]
theorem tw_lists {x y : MT} (h : MT.twin x y) : listsT y = listsT x := by
  have h2 := ((MT.twin_eq x y).1 h).2.2.2.2
  unfold listsT
  exact tw_opt _ (fun x y h => tw_any _ (fun u v h => by
    have h3 := (MT.twin_eq u v).1 h
    simp only [h3.1, h3.2.1]) ((MT.twin_eq x y).1 h).2.2.2.2) h2 0
theorem tw_own {x y : MT} (h : MT.twin x y) : ownR y = ownR x := by
  have h3 := (MT.twin_eq x y).1 h
  unfold ownR
  rw [h3.1, h3.2.1, tw_lists h]
theorem tw_fault {x y : MT} (h : MT.twin x y) (rl a : Nat) (b : Bool) : nodeFault y rl a b = nodeFault x rl a b := by
  have h3 := (MT.twin_eq x y).1 h
  unfold nodeFault
  rw [h3.1, h3.2.1, h3.2.2.1, tw_sh h3.2.2.2.2, MT.twinL_length h3.2.2.2.2]
theorem tw_roles {x y : MT} (h : MT.twin x y) (rl : Nat) : rolesOf y rl = rolesOf x rl := by
  have h3 := (MT.twin_eq x y).1 h
  funext i
  unfold rolesOf
  rw [tw_sec h3.2.2.2.2, h3.1, tw_sh h3.2.2.2.2]
theorem chkK_tw (f : MT → Nat → Nat → Except (Nat × MT) Nat) (hf : ∀ x y r a, MT.twin x y → eqR (f x r a) (f y r a)) (rs : Nat → Nat) : ∀ {xs ys : List MT}, MT.twinL xs ys → ∀ i a, eqR (chkK f rs i xs a) (chkK f rs i ys a)
  | [], ys, h, i, a => by rw [MT.twinL] at h; subst h; rw [chkK]; exact rfl
  | x :: xs, ys, h, i, a => by
    rw [MT.twinL] at h
    obtain ⟨y, ys', rfl, hx, hl⟩ := h
    rw [chkK, chkK]
    have := hf x y (rs i) a hx
    cases h1 : f x (rs i) a with
    | error e =>
      cases h2 : f y (rs i) a with
      | error e' => rw [h1, h2] at this; exact this
      | ok b' => rw [h1, h2] at this; exact this.elim
    | ok b =>
      cases h2 : f y (rs i) a with
      | error e' => rw [h1, h2] at this; exact this.elim
      | ok b' =>
        rw [h1, h2] at this
        obtain rfl : b = b' := this
        exact chkK_tw f hf rs hl (i + 1) b
theorem chk_tw : ∀ (f : Nat) (x y : MT) (r a : Nat), MT.twin x y → eqR (chk f x r a) (chk f y r a)
  | 0, x, y, r, a, h => by
    have h3 := (MT.twin_eq x y).1 h
    rw [chk, chk, tw_fault h]; exact ⟨rfl, h3.2.2.2.1.symm, h3.2.1.symm⟩
  | f + 1, x, y, r, a, h => by
    have h3 := (MT.twin_eq x y).1 h
    rw [chk, chk, tw_fault h, tw_roles h]
    by_cases h0 : nodeFault x r a true = 0
    · rw [if_pos h0, if_pos h0]
      exact chkK_tw (chk f) (fun x y r a h => chk_tw f x y r a h) _ h3.2.2.2.2 0 (a + 1)
    · rw [if_neg h0, if_neg h0]; exact ⟨rfl, h3.2.2.2.1.symm, h3.2.1.symm⟩
/-- What is wrong first with a tree is wrong first with its twin. -/
theorem right_tw {x y : MT} (h : MT.twin x y) : eqR (rightSpec x) (rightSpec y) := by
  unfold rightSpec
  rw [tw_own h]
  exact chk_tw 60 x y _ 0 h
theorem right_code {t : MT} {code : Nat} {x : MT} (h : rightSpec t = .error (code, x)) : code ≠ 0 := by
  rw [← look_right] at h
  exact look_code 60 t 0 0 code x h
end Go.Proofs.YthbnegggohegkaaGreatDoor
