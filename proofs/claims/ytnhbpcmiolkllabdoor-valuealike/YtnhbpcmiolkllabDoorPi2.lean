/-
  What being equal keeps to: it goes both ways, and on; a thing is equal to itself, unless a NaN stands in it.
-/
import Derived.Test.YtnhbpcmiolkllabDoorHd2
namespace Go.Proofs.YtnhbpcmiolkllabDoor
open Go.RowKit

theorem feq_comm (f g : Int) (f0 : 0 ≤ f) (f1 : f ≤ 18446744073709551615) (g0 : 0 ≤ g) (g1 : g ≤ 18446744073709551615) : feq f g = feq g f := by
  rw [feq_rank f g f0 f1 g0 g1, feq_rank g f g0 g1 f0 f1, Bool.and_comm (!isNan f.toNat)]
  congr 1
  exact decide_eq_decide.2 ⟨fun h => h.symm, fun h => h.symm⟩
theorem allEq_comm (p : MD → MD → Bool × ByteArray) : ∀ (xs ys : List MD), (∀ x ∈ xs, ∀ y ∈ ys, p x y = p y x) → allEq p xs ys = allEq p ys xs
  | [], [], _ => rfl
  | [], _ :: _, _ => rfl
  | _ :: _, [], _ => rfl
  | x :: xs, y :: ys, h => by
    unfold allEq
    rw [h x (by simp) y (by simp), allEq_comm p xs ys (fun a ha b hb => h a (by simp [ha]) b (by simp [hb]))]
theorem eqv_comm : ∀ (n : Nat) (x y : MD), MD.Fl n x → MD.Fl n y → MD.eqv n x y = MD.eqv n y x
  | 0, _, _, _, _ => rfl
  | n + 1, x, y, ⟨x0, x1, xi⟩, ⟨y0, y1, yi⟩ => by
    unfold MD.eqv
    by_cases h : x.h.k = y.h.k ∧ x.h.t = y.h.t
    · have h' : y.h.k = x.h.k ∧ y.h.t = x.h.t := ⟨h.1.symm, h.2.symm⟩
      rw [if_pos h, if_pos h', h.1, h.2]
      by_cases h8 : y.h.k = 8
      · rw [if_pos h8, if_pos h8]
        by_cases hl : x.items.length = y.items.length
        · rw [if_pos hl, if_pos hl.symm]
          exact allEq_comm _ _ _ fun a ha b hb => eqv_comm n a b (xi a ha) (yi b hb)
        · rw [if_neg hl, if_neg (fun e => hl e.symm)]
      · rw [if_neg h8, if_neg h8]
        by_cases h3 : y.h.k = 3
        · rw [if_pos h3, if_pos h3, feq_comm _ _ x0 x1 y0 y1]
        · rw [if_neg h3, if_neg h3]
          by_cases h5 : y.h.k = 5 ∨ y.h.k = 6 ∨ y.h.k = 7
          · rw [if_pos h5, if_pos h5]
          · rw [if_neg h5, if_neg h5]
            congr 1
            exact decide_eq_decide.2 ⟨fun ⟨a, b, c, d, e⟩ => ⟨a.symm, b.symm, c.symm, d.symm, e.symm⟩, fun ⟨a, b, c, d, e⟩ => ⟨a.symm, b.symm, c.symm, d.symm, e.symm⟩⟩
    · have h' : ¬ (y.h.k = x.h.k ∧ y.h.t = x.h.t) := fun e => h ⟨e.1.symm, e.2.symm⟩
      rw [if_neg h, if_neg h']
theorem allEq_tf (p : MD → MD → Bool × ByteArray) : ∀ (xs ys : List MD), (allEq p xs ys).1 = true → (allEq p xs ys).2 = ⟨#[]⟩
  | [], _, _ => rfl
  | _ :: _, [], _ => rfl
  | x :: xs, y :: ys, h => by
    unfold allEq at h ⊢
    by_cases h1 : (p x y).1 = true
    · rw [if_pos h1] at h ⊢; exact allEq_tf p xs ys h
    · rw [if_neg h1] at h; cases h
/-- Of what is equal nothing is amiss. -/
theorem eqv_tf : ∀ (n : Nat) (x y : MD), (MD.eqv n x y).1 = true → (MD.eqv n x y).2 = ⟨#[]⟩
  | 0, _, _, _ => rfl
  | n + 1, x, y, h => by
    unfold MD.eqv at h ⊢
    split
    · rename_i h1
      rw [if_pos h1] at h
      split
      · rename_i h2
        rw [if_pos h2] at h
        split
        · rename_i h3
          rw [if_pos h3] at h
          exact allEq_tf _ _ _ h
        · rfl
      · rename_i h2
        rw [if_neg h2] at h
        split
        · rfl
        · rename_i h3
          rw [if_neg h3] at h
          split
          · rename_i h4
            rw [if_pos h4] at h
            cases h
          · rfl
    · rfl
theorem allEq_all (p : MD → MD → Bool × ByteArray) : ∀ (xs ys : List MD), (allEq p xs ys).1 = true → ∀ (i : Nat) (hx : i < xs.length) (hy : i < ys.length), (p xs[i] ys[i]).1 = true
  | [], _, _, i, hx, _ => by simp at hx
  | _ :: _, [], _, i, _, hy => by simp at hy
  | x :: xs, y :: ys, h, i, hx, hy => by
    unfold allEq at h
    by_cases h1 : (p x y).1 = true
    · rw [if_pos h1] at h
      cases i with
      | zero => exact h1
      | succ i => exact allEq_all p xs ys h i (by simpa using hx) (by simpa using hy)
    · rw [if_neg h1] at h; cases h
theorem allEq_of (p : MD → MD → Bool × ByteArray) : ∀ (xs ys : List MD), (∀ (i : Nat) (hx : i < xs.length) (hy : i < ys.length), (p xs[i] ys[i]).1 = true) → (allEq p xs ys).1 = true
  | [], _, _ => rfl
  | _ :: _, [], _ => rfl
  | x :: xs, y :: ys, h => by
    have h0 : (p x y).1 = true := h 0 (by simp) (by simp)
    unfold allEq
    rw [if_pos h0]
    exact allEq_of p xs ys fun i hx hy => h (i + 1) (by simpa using hx) (by simpa using hy)
theorem eqv_trans : ∀ (n : Nat) (x y z : MD), MD.Fl n x → MD.Fl n y → MD.Fl n z → (MD.eqv n x y).1 = true → (MD.eqv n y z).1 = true → (MD.eqv n x z).1 = true
  | 0, _, _, _, _, _, _, h, _ => h
  | n + 1, x, y, z, ⟨x0, x1, xi⟩, ⟨y0, y1, yi⟩, ⟨z0, z1, zi⟩, h, h' => by
    unfold MD.eqv at h h' ⊢
    by_cases a1 : x.h.k = y.h.k ∧ x.h.t = y.h.t
    · by_cases a2 : y.h.k = z.h.k ∧ y.h.t = z.h.t
      · rw [if_pos a1] at h
        rw [if_pos a2] at h'
        rw [if_pos ⟨a1.1.trans a2.1, a1.2.trans a2.2⟩]
        rw [← a1.1] at h'
        by_cases h8 : x.h.k = 8
        · rw [if_pos h8] at h h' ⊢
          by_cases l1 : x.items.length = y.items.length
          · by_cases l2 : y.items.length = z.items.length
            · rw [if_pos l1] at h
              rw [if_pos l2] at h'
              rw [if_pos (l1.trans l2)]
              refine allEq_of _ _ _ fun i hx hz => ?_
              have hy : i < y.items.length := l1 ▸ hx
              exact eqv_trans n _ _ _ (xi _ (List.getElem_mem hx)) (yi _ (List.getElem_mem hy)) (zi _ (List.getElem_mem hz)) (allEq_all _ _ _ h i hx hy) (allEq_all _ _ _ h' i hy hz)
            · rw [if_neg l2] at h'; cases h'
          · rw [if_neg l1] at h; cases h
        · rw [if_neg h8] at h h' ⊢
          by_cases h3 : x.h.k = 3
          · rw [if_pos h3] at h h' ⊢
            have e1 : feq x.h.f y.h.f = true := h
            have e2 : feq y.h.f z.h.f = true := h'
            show feq x.h.f z.h.f = true
            rw [feq_rank _ _ x0 x1 y0 y1] at e1
            rw [feq_rank _ _ y0 y1 z0 z1] at e2
            rw [feq_rank _ _ x0 x1 z0 z1]
            simp only [Bool.and_eq_true, Bool.not_eq_true', decide_eq_true_eq] at e1 e2 ⊢
            exact ⟨⟨e1.1.1, e2.1.2⟩, e1.2.trans e2.2⟩
          · rw [if_neg h3] at h h' ⊢
            by_cases h5 : x.h.k = 5 ∨ x.h.k = 6 ∨ x.h.k = 7
            · rw [if_pos h5] at h; cases h
            · rw [if_neg h5] at h h' ⊢
              have e1 := of_decide_eq_true h
              have e2 := of_decide_eq_true h'
              exact decide_eq_true ⟨e1.1.trans e2.1, e1.2.1.trans e2.2.1, e1.2.2.1.trans e2.2.2.1, e1.2.2.2.1.trans e2.2.2.2.1, e1.2.2.2.2.trans e2.2.2.2.2⟩
      · rw [if_neg a2] at h'; cases h'
    · rw [if_neg a1] at h; cases h
/-- Does a NaN stand in it? -/
def brkR : Nat → MD → Bool
  | 0, _ => false
  | n + 1, d => (d.h.k == 3 && isNan d.h.f.toNat) || d.items.any (brkR n)
theorem allEq_self (p : MD → MD → Bool × ByteArray) : ∀ xs : List MD, (∀ x ∈ xs, (p x x).2 = ⟨#[]⟩ → (p x x).1 = true) → (allEq p xs xs).2 = ⟨#[]⟩ → (allEq p xs xs).1 = true
  | [], _, _ => rfl
  | x :: xs, h, h2 => by
    unfold allEq at h2 ⊢
    by_cases h1 : (p x x).1 = true
    · rw [if_pos h1] at h2 ⊢
      exact allEq_self p xs (fun a ha => h a (by simp [ha])) h2
    · rw [if_neg h1] at h2
      exact absurd (h x (by simp) h2) h1
theorem eqv_self : ∀ (n : Nat) (x : MD), MD.Fl n x → MD.full n x = true → brkR n x = false → (MD.eqv n x x).2 = ⟨#[]⟩ → (MD.eqv n x x).1 = true
  | 0, _, _, hf, _, _ => by cases hf
  | n + 1, x, ⟨x0, x1, xi⟩, hf, hb, h => by
    have hb' : ((x.h.k == 3 && isNan x.h.f.toNat) || x.items.any (brkR n)) = false := hb
    rw [Bool.or_eq_false_iff] at hb'
    have hi := full_items hf
    unfold MD.eqv at h ⊢
    rw [if_pos ⟨rfl, rfl⟩] at h ⊢
    by_cases h8 : x.h.k = 8
    · rw [if_pos h8, if_pos rfl] at h ⊢
      refine allEq_self _ _ (fun a ha e => eqv_self n a (xi a ha) (hi a ha) ?_ e) h
      have := hb'.2
      rw [List.any_eq_false] at this
      simpa using this a ha
    · rw [if_neg h8] at h ⊢
      by_cases h3 : x.h.k = 3
      · rw [if_pos h3]
        show feq x.h.f x.h.f = true
        rw [feq_rank _ _ x0 x1 x0 x1]
        have := hb'.1
        rw [h3] at this
        simp at this
        simp [this]
      · rw [if_neg h3] at h ⊢
        by_cases h5 : x.h.k = 5 ∨ x.h.k = 6 ∨ x.h.k = 7
        · rw [if_pos h5] at h
          exfalso
          have h1 : (headOK x.h x.items.length && (x.h.k != 8 || (decide (x.items.length ≤ 30) && x.items.all (MD.full n)))) = true := hf
          rw [Bool.and_eq_true] at h1
          have h2 := h1.1
          unfold headOK at h2
          rw [Bool.and_eq_true, Bool.and_eq_true] at h2
          have ht := h2.1.1
          have h' : x.h.t = ⟨#[]⟩ := h
          rw [h'] at ht
          have hd : declB ⟨#[]⟩ = false := by
            unfold declB
            rw [show decide ((⟨#[]⟩ : ByteArray).size ≠ 0) = false from rfl]
            rfl
          rcases h5 with e | e | e <;> rw [e] at ht <;> simp [tyB, hd, Lib.toList_data] at ht
        · rw [if_neg h5]
          exact decide_eq_true ⟨rfl, rfl, rfl, rfl, rfl⟩
end Go.Proofs.YtnhbpcmiolkllabDoor
