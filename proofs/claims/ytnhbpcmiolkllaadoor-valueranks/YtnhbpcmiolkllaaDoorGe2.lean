/-
  The answer's equal, at any two right data.
-/
import Derived.Test.YtnhbpcmiolkllaaDoorGd2
namespace Go.Proofs.YtnhbpcmiolkllaaDoor
open Go.RowKit

theorem text_nil {s : ByteArray} (h : s.toList = []) : s = ⟨#[]⟩ := byteArray_ext (by rw [h, Lib.toList_data])
theorem head_zero {h : Hd} {il : Nat} (hh : headOK h il = true) : (h.k ≠ 1 → h.k ≠ 2 → h.n = 0) ∧ (h.k ≠ 3 → h.f = 0) ∧ (h.k ≠ 4 → h.s = ⟨#[]⟩) ∧ (h.k ≠ 5 → h.k ≠ 6 → h.k ≠ 7 → h.k ≠ 9 → h.r0 = 0) ∧ (h.k ≠ 9 → h.path = []) := by
  unfold headOK at hh
  rw [Bool.and_eq_true, Bool.and_eq_true] at hh
  have h2 := hh.1.2
  unfold zeroK at h2
  simp only [Bool.and_eq_true, Bool.or_eq_true, beq_iff_eq] at h2
  obtain ⟨⟨⟨⟨⟨⟨⟨⟨z1, z2⟩, z3⟩, z4⟩, _⟩, _⟩, _⟩, z8⟩, _⟩ := h2
  refine ⟨fun a b => ?_, fun a => ?_, fun a => ?_, fun a b c d => ?_, fun a => ?_⟩
  · rcases z1 with (e | e) | e
    · exact absurd e a
    · exact absurd e b
    · exact e
  · exact z2.resolve_left a
  · exact text_nil (z3.resolve_left a)
  · rcases z4 with (((e | e) | e) | e) | e
    · exact absurd e a
    · exact absurd e b
    · exact absurd e c
    · exact absurd e d
    · exact e
  · exact List.eq_nil_of_length_eq_zero (by exact_mod_cast z8.resolve_left a)
theorem ty_some {k : Int} {t : ByteArray} (h : tyB k t = true) (hk : k = 5 ∨ k = 6 ∨ k = 7) : t.size ≠ 0 := by
  have hd : declB t = true → t.size ≠ 0 := fun h => by
    unfold declB at h
    simp only [Bool.and_eq_true, decide_eq_true_eq] at h
    omega
  rcases hk with rfl | rfl | rfl
  all_goals (
    rcases (Bool.or_eq_true _ _).mp (show (_ || declB t) = true from h) with e | e
    · have := size_of_list (beq_iff_eq.1 e); rw [this]; decide
    · exact hd e)

theorem refEq_step (n : Nat) (hI : RefEqC n) : RefEqC (n + 1) := by
  intro x y w hx hy fx fy
  have ev : fw ⟨#[]⟩ = ⟨#[]⟩ := by unfold fw; rw [if_pos (by rfl)]
  by_cases hty : x.h.k = y.h.k ∧ x.h.t = y.h.t
  · have hF := hx.fine
    have hF' := hy.fine
    have hP := hx.path
    have hP' := hy.path
    have hxi := hx.items
    have hyi := hy.items
    have hl := hx.len
    obtain ⟨⟨k, t, a, f, s, r0, r1, r2, r3, pp, path, pc⟩, ip, ic, items⟩ := x
    obtain ⟨⟨k', t', a', f', s', r0', r1', r2', r3', pp', path', pc'⟩, ip', ic', items'⟩ := y
    obtain ⟨rfl, rfl⟩ : k = k' ∧ t = t' := hty
    have fx2 : (headOK ⟨k, t, a, f, s, r0, r1, r2, r3, pp, path, pc⟩ items.length && (k != 8 || (decide (items.length ≤ 30) && items.all (MD.full n)))) = true := fx
    have fy2 : (headOK ⟨k, t, a', f', s', r0', r1', r2', r3', pp', path', pc'⟩ items'.length && (k != 8 || (decide (items'.length ≤ 30) && items'.all (MD.full n)))) = true := fy
    rw [Bool.and_eq_true] at fx2 fy2
    obtain ⟨hp, _⟩ := head_path fx2.1
    obtain ⟨x1, x2, x3, x4, x5⟩ := head_zero fx2.1
    obtain ⟨y1, y2, y3, y4, y5⟩ := head_zero fy2.1
    simp only at x1 x2 x3 x4 x5 y1 y2 y3 y4 y5 hp
    have hty : tyB k t = true := by
      have := fx2.1
      unfold headOK at this
      rw [Bool.and_eq_true, Bool.and_eq_true] at this
      exact this.1.1
    simp only [MD.eqv, MD.val, D]
    rw [if_pos ⟨trivial, trivial⟩]
    rcases kinds k with rfl | rfl | rfl | rfl | rfl | rfl | rfl | rfl | rfl | rfl | hk
    · rw [if_neg (by decide), if_neg (by decide), if_neg (by decide)]
      rw [x1 (by decide) (by decide), y1 (by decide) (by decide), x2 (by decide), y2 (by decide), x3 (by decide), y3 (by decide), x4 (by decide) (by decide) (by decide) (by decide), y4 (by decide) (by decide) (by decide) (by decide), x5 (by decide), y5 (by decide)]
      simp only [and_self, decide_true, ev]
      exact refEq_0 t _ _ _ _ _ _ _ _ _ _ _ _ _ _ _ _ _ _ _ _ _ _ _ _ _ _ w
    · rw [if_neg (by decide), if_neg (by decide), if_neg (by decide)]
      rw [x2 (by decide), y2 (by decide), x3 (by decide), y3 (by decide), x4 (by decide) (by decide) (by decide) (by decide), y4 (by decide) (by decide) (by decide) (by decide), x5 (by decide), y5 (by decide)]
      simp only [and_true, ev]
      exact refEq_1 t _ _ _ _ _ _ _ _ _ _ _ _ _ _ _ _ _ _ _ _ _ _ _ _ _ _ w
    · rw [if_neg (by decide), if_neg (by decide), if_neg (by decide)]
      rw [x2 (by decide), y2 (by decide), x3 (by decide), y3 (by decide), x4 (by decide) (by decide) (by decide) (by decide), y4 (by decide) (by decide) (by decide) (by decide), x5 (by decide), y5 (by decide)]
      simp only [and_true, ev]
      exact refEq_2 t _ _ _ _ _ _ _ _ _ _ _ _ _ _ _ _ _ _ _ _ _ _ _ _ _ _ w
    · rw [if_neg (by decide), if_pos rfl]
      simp only [ev]
      exact refEq_3 t _ _ _ _ _ _ _ _ _ _ _ _ _ _ _ _ _ _ _ _ _ _ _ _ _ _ w hF.f0 hF.f1 hF'.f0 hF'.f1
    · rw [if_neg (by decide), if_neg (by decide), if_neg (by decide)]
      rw [x1 (by decide) (by decide), y1 (by decide) (by decide), x2 (by decide), y2 (by decide), x4 (by decide) (by decide) (by decide) (by decide), y4 (by decide) (by decide) (by decide) (by decide), x5 (by decide), y5 (by decide)]
      simp only [and_true, true_and, ev]
      exact refEq_4 t _ _ _ _ _ _ _ _ _ _ _ _ _ _ _ _ _ _ _ _ _ _ _ _ _ _ w
    · rw [if_neg (by decide), if_neg (by decide), if_pos (by decide)]
      have et : fw t = ⟨#[99, 111, 109, 112, 97, 114, 101]⟩ := if_neg (ty_some hty (by decide))
      simp only [et]
      exact refEq_5 t _ _ _ _ _ _ _ _ _ _ _ _ _ _ _ _ _ _ _ _ _ _ _ _ _ _ w
    · rw [if_neg (by decide), if_neg (by decide), if_pos (by decide)]
      have et : fw t = ⟨#[99, 111, 109, 112, 97, 114, 101]⟩ := if_neg (ty_some hty (by decide))
      simp only [et]
      exact refEq_6 t _ _ _ _ _ _ _ _ _ _ _ _ _ _ _ _ _ _ _ _ _ _ _ _ _ _ w
    · rw [if_neg (by decide), if_neg (by decide), if_pos (by decide)]
      have et : fw t = ⟨#[99, 111, 109, 112, 97, 114, 101]⟩ := if_neg (ty_some hty (by decide))
      simp only [et]
      exact refEq_7 t _ _ _ _ _ _ _ _ _ _ _ _ _ _ _ _ _ _ _ _ _ _ _ _ _ _ w
    · rw [if_pos rfl]
      have gx : items.all (MD.full n) = true := by have := fx2.2; simp at this; simpa using this.2
      have gy : items'.all (MD.full n) = true := by have := fy2.2; simp at this; simpa using this.2
      exact refEq_8 n hI t _ _ _ _ _ _ _ _ _ _ _ _ _ _ _ _ _ _ _ _ _ _ _ _ _ _ ⟨8, t, a, f, s, r0, r1, r2, r3, pp, path, pc⟩ ⟨8, t, a', f', s', r0', r1', r2', r3', pp', path', pc'⟩ w hxi hyi (Nat.le_trans hl.1 hl.2) gx gy _ _ rfl
    · rw [if_neg (by decide), if_neg (by decide), if_neg (by decide)]
      rw [x1 (by decide) (by decide), y1 (by decide) (by decide), x2 (by decide), y2 (by decide), x3 (by decide), y3 (by decide)]
      simp only [true_and, ev]
      exact refEq_9 t _ _ _ _ _ _ _ _ _ _ _ _ _ _ _ _ _ _ _ _ _ _ _ _ _ _ w (by rw [x1 (by decide) (by decide), x2 (by decide), x3 (by decide)] at hP; exact hP) (by rw [y1 (by decide) (by decide), y2 (by decide), y3 (by decide)] at hP'; exact hP') hp
    · have := tyB_range hty; omega
  · have e : MD.eqv (n + 1) x y = (false, ⟨#[]⟩) := by simp only [MD.eqv]; rw [if_neg hty]
    rw [e]
    obtain ⟨⟨k, t, a, f, s, r0, r1, r2, r3, pp, path, pc⟩, ip, ic, items⟩ := x
    obtain ⟨⟨k', t', a', f', s', r0', r1', r2', r3', pp', path', pc'⟩, ip', ic', items'⟩ := y
    simp only [ev]
    exact refEq_unlike k k' t t' _ _ _ _ _ _ _ _ _ _ _ _ _ _ _ _ _ _ _ _ _ _ _ _ _ _ w hty
theorem refEq_any : ∀ n, RefEqC n
  | 0 => fun _ _ _ h _ _ _ => h.elim
  | n + 1 => refEq_step n (refEq_any n)
end Go.Proofs.YtnhbpcmiolkllaaDoor
