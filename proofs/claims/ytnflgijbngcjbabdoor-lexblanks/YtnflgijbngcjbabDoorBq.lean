/-
  Plain facts: what the law lays ahead of each token, and its text and tokens, a step at a time.
-/
import Derived.Test.YtnflgijbngcjbabDoorBp
namespace Go.Proofs.YtnflgijbngcjbabDoor
open Go.RowKit

def lineB (l : Bytes) (t : Tok) : Bool := t.1 == 1 && (t.2.2 == l.length || (l.getD t.2.2 0).toNat == 10)
def insOf (r : Int) (b : Bool) : Bytes := if r = 1 then [32] else if r = 2 then [9, 32] else if r = 3 then (if b then ins3 else []) else if r = 4 then (if b then ins4 else []) else []
def insF (l : Bytes) (ts : List Tok) (R : Nat → Int) (n : Nat) (j : Nat) : Bytes := insOf (pickZ (R (j % n))) (lineB l (ts.getD j (0, [], 0)))

theorem insOf_le (r : Int) (b : Bool) : (insOf r b).length ≤ 6 := by
  unfold insOf
  split
  · decide
  split
  · decide
  split
  · cases b <;> decide
  split
  · cases b <;> decide
  · decide
theorem line_drop (l : Bytes) (t : Tok) (h : lineB l t = true) : l.drop t.2.2 = [] ∨ ∃ z, l.drop t.2.2 = 10 :: z := by
  unfold lineB at h
  rw [Bool.and_eq_true, Bool.or_eq_true] at h
  rcases h.2 with h | h
  · left; exact List.drop_eq_nil_of_le (by have := beq_iff_eq.1 h; omega)
  · right
    have h10 : (l.getD t.2.2 0).toNat = 10 := beq_iff_eq.1 h
    have hlt : t.2.2 < l.length := by
      rcases Nat.lt_or_ge t.2.2 l.length with h | h
      · exact h
      · rw [List.getD_eq_getElem?_getD, List.getElem?_eq_none h] at h10; cases h10
    refine ⟨l.drop (t.2.2 + 1), ?_⟩
    rw [List.drop_eq_getElem_cons hlt]
    congr 1
    rw [List.getD_eq_getElem?_getD, List.getElem?_eq_getElem hlt] at h10
    exact UInt8.toNat_inj.1 h10
theorem insF_ok (l : Bytes) (ts : List Tok) (R : Nat → Int) (n : Nat) : ∀ j t, ts[j]? = some t → InsOk (l.drop t.2.2) (insF l ts R n j) := by
  intro j t hj
  have ht : ts.getD j (0, [], 0) = t := by rw [List.getD_eq_getElem?_getD, hj]; rfl
  unfold insF
  rw [ht]
  have hd := line_drop l t
  generalize lineB l t = b at hd
  unfold insOf
  split
  · exact .inl (.inr (.inl rfl))
  split
  · exact .inl (.inr (.inr rfl))
  split
  · cases b with
    | true => exact .inr ⟨hd rfl, .inl rfl⟩
    | false => exact .inl (.inl rfl)
  split
  · cases b with
    | true => exact .inr ⟨hd rfl, .inr rfl⟩
    | false => exact .inl (.inl rfl)
  · exact .inl (.inl rfl)

theorem weave_step (f : Nat → Bytes) (l : Bytes) (ts : List Tok) (k frm : Nat) (kd : Nat) (tx : Bytes) (p : Nat) (rest : List Tok) (B : Bytes) (us : List Tok) (W : Bytes) (V : List Tok) (hd : ts.drop k = (kd, tx, p) :: rest) (hfp : frm ≤ p) (hpl : p ≤ l.length)
    (h1 : B ++ woven f (l.drop frm) frm k (ts.drop k) = W) (h2 : us ++ wovenT f frm B.length k (ts.drop k) = V) (B' : Bytes) (hB : B' = (B ++ (l.drop frm).take (p - frm)) ++ f k) :
    B' ++ woven f (l.drop p) p (k + 1) (ts.drop (k + 1)) = W ∧ (us ++ [(kd, tx, B'.length)]) ++ wovenT f p B'.length (k + 1) (ts.drop (k + 1)) = V ∧ B'.length = B.length + (p - frm) + (f k).length := by
  have hr : ts.drop (k + 1) = rest := by rw [← List.drop_drop, hd]; rfl
  have hlen : B'.length = B.length + (p - frm) + (f k).length := by
    rw [hB, List.length_append, List.length_append, List.length_take, List.length_drop]; omega
  have hdd : (l.drop frm).drop (p - frm) = l.drop p := by rw [List.drop_drop]; congr 1; omega
  rw [hd] at h1 h2
  simp only [woven, wovenT] at h1 h2
  rw [hdd] at h1
  rw [hr, hlen]
  refine ⟨?_, ?_, rfl⟩
  · rw [← h1, hB]; simp only [List.append_assoc]
  · rw [← h2, List.append_assoc]; rfl
end Go.Proofs.YtnflgijbngcjbabDoor
