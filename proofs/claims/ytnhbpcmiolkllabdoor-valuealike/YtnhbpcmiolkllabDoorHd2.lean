/-
  Equal data have one hash.
-/
import Derived.Test.YtnhbpcmiolkllabDoorHc2
namespace Go.Proofs.YtnhbpcmiolkllabDoor

theorem feq_nz {f g : Int} (f0 : 0 ≤ f) (f1 : f ≤ 18446744073709551615) (g0 : 0 ≤ g) (g1 : g ≤ 18446744073709551615) (h : feq f g = true) : nz f = nz g := by
  rw [feq_rank f g f0 f1 g0 g1] at h
  simp only [Bool.and_eq_true, decide_eq_true_eq] at h
  have h2 := h.2
  unfold rnk at h2
  unfold nz
  by_cases h3 : f = 9223372036854775808 <;> by_cases h4 : g = 9223372036854775808 <;> by_cases h5 : f < 9223372036854775808 <;> by_cases h6 : g < 9223372036854775808 <;> simp only [h3, h4, h5, h6, if_true, if_false] at h2 ⊢ <;> omega

theorem zeroK_of_full {n : Nat} {d : MD} (h : MD.full (n + 1) d = true) : zeroK d.h.k d.h.n d.h.f d.h.s d.h.r0 d.h.r1 d.h.r2 d.h.r3 d.h.path.length d.items.length = true := by
  have h1 : (headOK d.h d.items.length && (d.h.k != 8 || (decide (d.items.length ≤ 30) && d.items.all (MD.full n)))) = true := h
  rw [Bool.and_eq_true] at h1
  have h2 := h1.1
  unfold headOK at h2
  rw [Bool.and_eq_true, Bool.and_eq_true] at h2
  exact h2.1.2

/-- Numbers are floats' bits, at all levels. -/
def MD.Fl : Nat → MD → Prop
  | 0, _ => True
  | n + 1, d => 0 ≤ d.h.f ∧ d.h.f ≤ 18446744073709551615 ∧ ∀ q ∈ d.items, MD.Fl n q
theorem fold_eq (n : Nat) (hI : ∀ (h : Int) (x y : MD), MD.Fl n x → MD.Fl n y → MD.full n x = true → MD.full n y = true → (MD.eqv n x y).1 = true → MD.hash n h x = MD.hash n h y) : ∀ (xs ys : List MD) (h : Int), xs.length = ys.length → (∀ q ∈ xs, MD.Fl n q) → (∀ q ∈ ys, MD.Fl n q) → (∀ q ∈ xs, MD.full n q = true) → (∀ q ∈ ys, MD.full n q = true) → (allEq (MD.eqv n) xs ys).1 = true → xs.foldl (MD.hash n) h = ys.foldl (MD.hash n) h
  | [], [], _, _, _, _, _, _, _ => rfl
  | [], _ :: _, _, hl, _, _, _, _, _ => by simp at hl
  | _ :: _, [], _, hl, _, _, _, _, _ => by simp at hl
  | x :: xs, y :: ys, h, hl, lx, ly, fx, fy, he => by
    unfold allEq at he
    by_cases hq : (MD.eqv n x y).1 = true
    · rw [if_pos hq] at he
      rw [List.foldl_cons, List.foldl_cons, hI h x y (lx x (by simp)) (ly y (by simp)) (fx x (by simp)) (fy y (by simp)) hq]
      exact fold_eq n hI xs ys _ (by simpa using hl) (fun q m => lx q (by simp [m])) (fun q m => ly q (by simp [m])) (fun q m => fx q (by simp [m])) (fun q m => fy q (by simp [m])) he
    · rw [if_neg hq] at he; cases he

theorem bytes_nil {s : ByteArray} (h : s.toList = []) : s = ⟨#[]⟩ := by
  have := size_of_list h
  apply ByteArray.ext
  exact Array.eq_empty_of_size_eq_zero this

theorem hash_eq : ∀ (n : Nat) (h : Int) (x y : MD), MD.Fl n x → MD.Fl n y → MD.full n x = true → MD.full n y = true → (MD.eqv n x y).1 = true → MD.hash n h x = MD.hash n h y
  | 0, _, _, _, _, _, _, _, he => by cases he
  | n + 1, h, x, y, lx, ly, fx, fy, he => by
    have zx := zeroK_of_full fx
    have zy := zeroK_of_full fy
    have ix := full_items fx
    have iy := full_items fy
    unfold MD.eqv at he
    by_cases hty : x.h.k = y.h.k ∧ x.h.t = y.h.t
    · rw [if_pos hty] at he
      unfold zeroK at zx zy
      simp only [Bool.and_eq_true, Bool.or_eq_true, beq_iff_eq] at zx zy
      obtain ⟨⟨⟨⟨⟨⟨⟨⟨x1, x2⟩, x3⟩, x4⟩, x5⟩, x6⟩, x7⟩, x8⟩, x9⟩ := zx
      obtain ⟨⟨⟨⟨⟨⟨⟨⟨y1, y2⟩, y3⟩, y4⟩, y5⟩, y6⟩, y7⟩, y8⟩, y9⟩ := zy
      have pn : ∀ l : List Int, (l.length : Int) = 0 → l = [] := fun l e => List.eq_nil_of_length_eq_zero (by exact_mod_cast e)
      have qn : ∀ l : List MD, (l.length : Int) = 0 → l = [] := fun l e => List.eq_nil_of_length_eq_zero (by exact_mod_cast e)
      show x.items.foldl (MD.hash n) (stirC h x.h.k x.h.t x.h.n x.h.f x.h.s x.h.r0 x.h.path x.items.length) = y.items.foldl (MD.hash n) (stirC h y.h.k y.h.t y.h.n y.h.f y.h.s y.h.r0 y.h.path y.items.length)
      by_cases h8 : x.h.k = 8
      · have k8 : y.h.k = 8 := hty.1 ▸ h8
        rw [if_pos h8] at he
        by_cases hl : x.items.length = y.items.length
        · rw [if_pos hl] at he
          rw [← hl, ← hty.1, ← hty.2]
          have a1 : x.h.n = 0 := by omega
          have a2 : y.h.n = 0 := by omega
          have b1 : x.h.f = 0 := by omega
          have b2 : y.h.f = 0 := by omega
          have c1 : x.h.s = ⟨#[]⟩ := bytes_nil (x3.resolve_left (by omega))
          have c2 : y.h.s = ⟨#[]⟩ := bytes_nil (y3.resolve_left (by omega))
          have d1 : x.h.r0 = 0 := by omega
          have d2 : y.h.r0 = 0 := by omega
          have e1 : x.h.path = [] := pn _ (x8.resolve_left (by omega))
          have e2 : y.h.path = [] := pn _ (y8.resolve_left (by omega))
          rw [a1, a2, b1, b2, c1, c2, d1, d2, e1, e2]
          exact fold_eq n (hash_eq n) _ _ _ hl lx.2.2 ly.2.2 ix iy he
        · rw [if_neg hl] at he; cases he
      · have n8 : y.h.k ≠ 8 := hty.1 ▸ h8
        have m1 : x.items = [] := qn _ (x9.resolve_left h8)
        have m2 : y.items = [] := qn _ (y9.resolve_left n8)
        rw [if_neg h8] at he
        rw [m1, m2, ← hty.1, ← hty.2]
        show stirC _ _ _ _ _ _ _ _ _ = stirC _ _ _ _ _ _ _ _ _
        by_cases h3 : x.h.k = 3
        · have k3 : y.h.k = 3 := hty.1 ▸ h3
          rw [if_pos h3] at he
          have a1 : x.h.n = 0 := by omega
          have a2 : y.h.n = 0 := by omega
          have c1 : x.h.s = ⟨#[]⟩ := bytes_nil (x3.resolve_left (by omega))
          have c2 : y.h.s = ⟨#[]⟩ := bytes_nil (y3.resolve_left (by omega))
          have d1 : x.h.r0 = 0 := by omega
          have d2 : y.h.r0 = 0 := by omega
          have e1 : x.h.path = [] := pn _ (x8.resolve_left (by omega))
          have e2 : y.h.path = [] := pn _ (y8.resolve_left (by omega))
          have := feq_nz lx.1 lx.2.1 ly.1 ly.2.1 he
          unfold stirC
          rw [a1, a2, this, c1, c2, d1, d2, e1, e2]
        · rw [if_neg h3] at he
          by_cases h5 : x.h.k = 5 ∨ x.h.k = 6 ∨ x.h.k = 7
          · rw [if_pos h5] at he; cases he
          · rw [if_neg h5] at he
            obtain ⟨e1, e2, e3, e4, e5⟩ := of_decide_eq_true he
            unfold stirC
            rw [e1, e2, e3, e4, e5]
    · rw [if_neg hty] at he; cases he

theorem allEq_right (n : Nat) (hI : ∀ (x y : MD), MD.Fl n x → MD.Fl n y → (MD.eqv n x y).1 = true → (MD.eqv n y y).1 = true) : ∀ (xs ys : List MD), xs.length = ys.length → (∀ q ∈ xs, MD.Fl n q) → (∀ q ∈ ys, MD.Fl n q) → (allEq (MD.eqv n) xs ys).1 = true → (allEq (MD.eqv n) ys ys).1 = true
  | [], [], _, _, _, _ => rfl
  | [], _ :: _, hl, _, _, _ => by simp at hl
  | _ :: _, [], hl, _, _, _ => by simp at hl
  | x :: xs, y :: ys, hl, lx, ly, he => by
    unfold allEq at he ⊢
    by_cases hq : (MD.eqv n x y).1 = true
    · rw [if_pos hq] at he
      rw [if_pos (hI x y (lx x (by simp)) (ly y (by simp)) hq)]
      exact allEq_right n hI xs ys (by simpa using hl) (fun q m => lx q (by simp [m])) (fun q m => ly q (by simp [m])) he
    · rw [if_neg hq] at he; cases he
/-- What is equal to something is equal to itself. -/
theorem eqv_right : ∀ (n : Nat) (x y : MD), MD.Fl n x → MD.Fl n y → (MD.eqv n x y).1 = true → (MD.eqv n y y).1 = true
  | 0, _, _, _, _, he => by cases he
  | n + 1, x, y, lx, ly, he => by
    unfold MD.eqv at he ⊢
    rw [if_pos ⟨rfl, rfl⟩]
    by_cases hty : x.h.k = y.h.k ∧ x.h.t = y.h.t
    · rw [if_pos hty, hty.1] at he
      by_cases h8 : y.h.k = 8
      · rw [if_pos h8] at he ⊢
        rw [if_pos rfl]
        by_cases hl : x.items.length = y.items.length
        · rw [if_pos hl] at he
          exact allEq_right n (eqv_right n) _ _ hl lx.2.2 ly.2.2 he
        · rw [if_neg hl] at he; cases he
      · rw [if_neg h8] at he ⊢
        by_cases h3 : y.h.k = 3
        · rw [if_pos h3] at he ⊢
          have h1 : feq x.h.f y.h.f = true := he
          rw [feq_rank _ _ lx.1 lx.2.1 ly.1 ly.2.1] at h1
          simp only [Bool.and_eq_true] at h1
          show feq y.h.f y.h.f = true
          rw [feq_rank _ _ ly.1 ly.2.1 ly.1 ly.2.1]
          simp only [Bool.and_eq_true, decide_eq_true_eq]
          exact ⟨⟨h1.1.2, h1.1.2⟩, trivial⟩
        · rw [if_neg h3] at he ⊢
          by_cases h5 : y.h.k = 5 ∨ y.h.k = 6 ∨ y.h.k = 7
          · rw [if_pos h5] at he; cases he
          · rw [if_neg h5]; exact decide_eq_true ⟨rfl, rfl, rfl, rfl, rfl⟩
    · rw [if_neg hty] at he; cases he
end Go.Proofs.YtnhbpcmiolkllabDoor
