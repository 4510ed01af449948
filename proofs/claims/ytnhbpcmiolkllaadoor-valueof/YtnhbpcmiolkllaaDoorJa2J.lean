/-
  The answer's equal, at any two right data.
  The law ValueEquals, at any two data.
  The answer's key, at any right datum.
  Hash, at any datum.
  The answer's ranks, at any two data.
  What the law's answers asks of a datum and of a value.
-/
import Derived.Test.YtnhbpcmiolkllaaDoorGd2
import Derived.Test.YtnhbpcmiolkllaaDoorXJ
import Derived.Test.YtnhbpcmiolkllaaDoorIc2J
import Derived.Test.YtnhbpcmiolkllaaDoorHc2
import Derived.Laws.Cover1
namespace Go.Proofs.YtnhbpcmiolkllaaDoor
open Go.RowKit

theorem text_nil {s : ByteArray} (h : s.toList = []) : s = ⟨#[]⟩ := byteArray_ext (by rw [h, Lib.toList_data])
theorem head_zero {h : Hd} {il : Nat} (hh : headOK h il = true) : (h.k ≠ 1 → h.k ≠ 2 → h.n = 0) ∧ (h.k ≠ 3 → h.f = 0) ∧ (h.k ≠ 4 → h.s = ⟨#[]⟩) ∧ (h.k ≠ 5 → h.k ≠ 6 → h.k ≠ 7 → h.k ≠ 9 → h.r0 = 0) ∧ (h.k ≠ 9 → h.path = []) := by
  unfold headOK at hh
  rw [Bool.and_eq_true, Bool.and_eq_true] at hh
  have h2 := hh.1.2
  unfold zeroK at h2
  simp only [Bool.and_eq_true, Bool.or_eq_true, beq_iff_eq] at h2
  obtain ⟨⟨⟨⟨⟨⟨⟨⟨z1, z2⟩, z3⟩, z4⟩, _⟩, _⟩, _⟩, z8⟩, _⟩ := h2
  refine ⟨fun a b => ?_, fun a => ?_, fun a => ?_, fun a b c d => ?_, fun a => ?_⟩
  · rcases z1 with (e | e) | e
    · exact absurd e a
    · exact absurd e b
    · exact e
  · exact z2.resolve_left a
  · exact text_nil (z3.resolve_left a)
  · rcases z4 with (((e | e) | e) | e) | e
    · exact absurd e a
    · exact absurd e b
    · exact absurd e c
    · exact absurd e d
    · exact e
  · exact List.eq_nil_of_length_eq_zero (by exact_mod_cast z8.resolve_left a)
theorem ty_some {k : Int} {t : ByteArray} (h : tyB k t = true) (hk : k = 5 ∨ k = 6 ∨ k = 7) : t.size ≠ 0 := by
  have hd : declB t = true → t.size ≠ 0 := fun h => by
    unfold declB at h
    simp only [Bool.and_eq_true, decide_eq_true_eq] at h
    omega
  rcases hk with rfl | rfl | rfl
  all_goals (
    rcases (Bool.or_eq_true _ _).mp (show (_ || declB t) = true from h) with e | e
    · have := size_of_list (beq_iff_eq.1 e); rw [this]; decide
    · exact hd e)

theorem refEq_step (n : Nat) (hI : RefEqC n) : RefEqC (n + 1) := by
  intro x y w hx hy fx fy
  have ev : fw ⟨#[]⟩ = ⟨#[]⟩ := by unfold fw; rw [if_pos (by rfl)]
  by_cases hty : x.h.k = y.h.k ∧ x.h.t = y.h.t
  · have hF := hx.fine
    have hF' := hy.fine
    have hP := hx.path
    have hP' := hy.path
    have hxi := hx.items
    have hyi := hy.items
    have hl := hx.len
    obtain ⟨⟨k, t, a, f, s, r0, r1, r2, r3, pp, path, pc⟩, ip, ic, items⟩ := x
    obtain ⟨⟨k', t', a', f', s', r0', r1', r2', r3', pp', path', pc'⟩, ip', ic', items'⟩ := y
    obtain ⟨rfl, rfl⟩ : k = k' ∧ t = t' := hty
    have fx2 : (headOK ⟨k, t, a, f, s, r0, r1, r2, r3, pp, path, pc⟩ items.length && (k != 8 || (decide (items.length ≤ 30) && items.all (MD.full n)))) = true := fx
    have fy2 : (headOK ⟨k, t, a', f', s', r0', r1', r2', r3', pp', path', pc'⟩ items'.length && (k != 8 || (decide (items'.length ≤ 30) && items'.all (MD.full n)))) = true := fy
    rw [Bool.and_eq_true] at fx2 fy2
    obtain ⟨hp, _⟩ := head_path fx2.1
    obtain ⟨x1, x2, x3, x4, x5⟩ := head_zero fx2.1
    obtain ⟨y1, y2, y3, y4, y5⟩ := head_zero fy2.1
    simp only at x1 x2 x3 x4 x5 y1 y2 y3 y4 y5 hp
    have hty : tyB k t = true := by
      have := fx2.1
      unfold headOK at this
      rw [Bool.and_eq_true, Bool.and_eq_true] at this
      exact this.1.1
    simp only [MD.eqv, MD.val, D]
    rw [if_pos ⟨trivial, trivial⟩]
    rcases kinds k with rfl | rfl | rfl | rfl | rfl | rfl | rfl | rfl | rfl | rfl | hk
    · rw [if_neg (by decide), if_neg (by decide), if_neg (by decide)]
      rw [x1 (by decide) (by decide), y1 (by decide) (by decide), x2 (by decide), y2 (by decide), x3 (by decide), y3 (by decide), x4 (by decide) (by decide) (by decide) (by decide), y4 (by decide) (by decide) (by decide) (by decide), x5 (by decide), y5 (by decide)]
      simp only [and_self, decide_true, ev]
      exact refEq_0 t _ _ _ _ _ _ _ _ _ _ _ _ _ _ _ _ _ _ _ _ _ _ _ _ _ _ w
    · rw [if_neg (by decide), if_neg (by decide), if_neg (by decide)]
      rw [x2 (by decide), y2 (by decide), x3 (by decide), y3 (by decide), x4 (by decide) (by decide) (by decide) (by decide), y4 (by decide) (by decide) (by decide) (by decide), x5 (by decide), y5 (by decide)]
      simp only [and_true, ev]
      exact refEq_1 t _ _ _ _ _ _ _ _ _ _ _ _ _ _ _ _ _ _ _ _ _ _ _ _ _ _ w
    · rw [if_neg (by decide), if_neg (by decide), if_neg (by decide)]
      rw [x2 (by decide), y2 (by decide), x3 (by decide), y3 (by decide), x4 (by decide) (by decide) (by decide) (by decide), y4 (by decide) (by decide) (by decide) (by decide), x5 (by decide), y5 (by decide)]
      simp only [and_true, ev]
      exact refEq_2 t _ _ _ _ _ _ _ _ _ _ _ _ _ _ _ _ _ _ _ _ _ _ _ _ _ _ w
    · rw [if_neg (by decide), if_pos rfl]
      simp only [ev]
      exact refEq_3 t _ _ _ _ _ _ _ _ _ _ _ _ _ _ _ _ _ _ _ _ _ _ _ _ _ _ w hF.f0 hF.f1 hF'.f0 hF'.f1
    · rw [if_neg (by decide), if_neg (by decide), if_neg (by decide)]
      rw [x1 (by decide) (by decide), y1 (by decide) (by decide), x2 (by decide), y2 (by decide), x4 (by decide) (by decide) (by decide) (by decide), y4 (by decide) (by decide) (by decide) (by decide), x5 (by decide), y5 (by decide)]
      simp only [and_true, true_and, ev]
      exact refEq_4 t _ _ _ _ _ _ _ _ _ _ _ _ _ _ _ _ _ _ _ _ _ _ _ _ _ _ w
    · rw [if_neg (by decide), if_neg (by decide), if_pos (by decide)]
      have et : fw t = ⟨#[99, 111, 109, 112, 97, 114, 101]⟩ := if_neg (ty_some hty (by decide))
      simp only [et]
      exact refEq_5 t _ _ _ _ _ _ _ _ _ _ _ _ _ _ _ _ _ _ _ _ _ _ _ _ _ _ w
    · rw [if_neg (by decide), if_neg (by decide), if_pos (by decide)]
      have et : fw t = ⟨#[99, 111, 109, 112, 97, 114, 101]⟩ := if_neg (ty_some hty (by decide))
      simp only [et]
      exact refEq_6 t _ _ _ _ _ _ _ _ _ _ _ _ _ _ _ _ _ _ _ _ _ _ _ _ _ _ w
    · rw [if_neg (by decide), if_neg (by decide), if_pos (by decide)]
      have et : fw t = ⟨#[99, 111, 109, 112, 97, 114, 101]⟩ := if_neg (ty_some hty (by decide))
      simp only [et]
      exact refEq_7 t _ _ _ _ _ _ _ _ _ _ _ _ _ _ _ _ _ _ _ _ _ _ _ _ _ _ w
    · rw [if_pos rfl]
      have gx : items.all (MD.full n) = true := by have := fx2.2; simp at this; simpa using this.2
      have gy : items'.all (MD.full n) = true := by have := fy2.2; simp at this; simpa using this.2
      exact refEq_8 n hI t _ _ _ _ _ _ _ _ _ _ _ _ _ _ _ _ _ _ _ _ _ _ _ _ _ _ ⟨8, t, a, f, s, r0, r1, r2, r3, pp, path, pc⟩ ⟨8, t, a', f', s', r0', r1', r2', r3', pp', path', pc'⟩ w hxi hyi (Nat.le_trans hl.1 hl.2) gx gy _ _ rfl
    · rw [if_neg (by decide), if_neg (by decide), if_neg (by decide)]
      rw [x1 (by decide) (by decide), y1 (by decide) (by decide), x2 (by decide), y2 (by decide), x3 (by decide), y3 (by decide)]
      simp only [true_and, ev]
      exact refEq_9 t _ _ _ _ _ _ _ _ _ _ _ _ _ _ _ _ _ _ _ _ _ _ _ _ _ _ w (by rw [x1 (by decide) (by decide), x2 (by decide), x3 (by decide)] at hP; exact hP) (by rw [y1 (by decide) (by decide), y2 (by decide), y3 (by decide)] at hP'; exact hP') hp
    · have := tyB_range hty; omega
  · have e : MD.eqv (n + 1) x y = (false, ⟨#[]⟩) := by simp only [MD.eqv]; rw [if_neg hty]
    rw [e]
    obtain ⟨⟨k, t, a, f, s, r0, r1, r2, r3, pp, path, pc⟩, ip, ic, items⟩ := x
    obtain ⟨⟨k', t', a', f', s', r0', r1', r2', r3', pp', path', pc'⟩, ip', ic', items'⟩ := y
    simp only [ev]
    exact refEq_unlike k k' t t' _ _ _ _ _ _ _ _ _ _ _ _ _ _ _ _ _ _ _ _ _ _ _ _ _ _ w hty
theorem refEq_any : ∀ n, RefEqC n
  | 0 => fun _ _ _ h _ _ _ => h.elim
  | n + 1 => refEq_step n (refEq_any n)
end Go.Proofs.YtnhbpcmiolkllaaDoor
namespace Go.Proofs.YtnhbpcmiolkllaaDoor
open Go.RowKit
attribute [local go_sem] refold2 cell3_0 cell3_1 b28_0 b28_01

theorem lt_of_some {W : World} {m : Nat} {o : Obj} (h : W.heap[m]? = some o) : m < W.heap.size := (Array.getElem?_eq_some_iff.1 h).1
end Go.Proofs.YtnhbpcmiolkllaaDoor
namespace Go.Proofs.YtnhbpcmiolkllaaDoor
open Go.RowKit
attribute [local go_sem] refold2 cell3_0 cell3_1 b28_0 b28_01

set_option maxRecDepth 100000 in
set_option maxHeartbeats 2000000 in
theorem refKey_good (n : Nat) (x : MD) (w : World) (hx : MD.In w.heap.size w n x) (hf : MD.full n x = true) (hc : (MD.eqv n x x).2 = ⟨#[]⟩) :
    Calls Tryd.prog 27 #[x.val] w fun r w' => r = .returned (.agg #[.string ⟨#[]⟩, .string ⟨#[]⟩]) ∧ Below w.heap.size w w' := by
  have HE : Hid (∀ W, Below w.heap.size w W → Calls Tryd.prog 23 #[x.val, x.val] W fun r w' => r = .returned (.tuple #[.bool (MD.eqv n x x).1, .agg #[.string (fw (MD.eqv n x x).2), .string (MD.eqv n x x).2]]) ∧ Below W.heap.size W w') := fun W hW => refEq_any n x x W (hx.later (Nat.le_refl _) hW) (hx.later (Nat.le_refl _) hW) hf hf
  have ev : fw ⟨#[]⟩ = ⟨#[]⟩ := by unfold fw; rw [if_pos (by rfl)]
  rw [hc, ev] at HE
  generalize (MD.eqv n x x).1 = q at HE
  clear hx hf hc ev
  obtain ⟨⟨k, t, a, f, s, r0, r1, r2, r3, pp, path, pc⟩, ip, ic, items⟩ := x
  simp only [MD.val, D] at *
  go_enter Tryd.func27, Tryd.ntmps27
  go_wp2_with fail
  refine (HE.out _ (below2 _ _ _)).mono ?_
  rintro r w1 ⟨rfl, b1⟩
  have q1 : Below w.heap.size w w1 := (below2 _ _ _).trans (b1.mono (by simp; omega))
  have g1 : w1.heap[w.heap.size + 1]? = some (.cells #[.string ⟨#[]⟩, .string ⟨#[]⟩] 53 (0, 0)) := (b1.block _ (by simp)).trans (heap2_1 _ _ _)
  have gc := row_at g1
  have gf := fun j => fz _ _ _ _ j g1
  have hz := (lt_of_some g1)
  have hne : ¬ w1.heap.size = w.heap.size + 1 := by omega
  have hne2 : ¬ w.heap.size + 1 = w1.heap.size := by omega
  have al : ∀ (W : World) (o : Obj) (j : Nat), w.heap.size + 1 < W.heap.size → (W.alloc o).cell? ⟨w.heap.size + 1, j, none⟩ = W.cell? ⟨w.heap.size + 1, j, none⟩ := fun W o j h => by unfold World.cell?; rw [Below.heap_alloc _ _ _ h]
  have AL : Hid _ := al
  clear b1 g1 al
  go_wp2
  refine bodyPost_ret (v := .agg #[.string ⟨#[]⟩, .string ⟨#[]⟩]) (by simp [results, Tryd.results27, go_sem, gc, AL.out, hz]) rfl ⟨rfl, ?_⟩
  have q2 := (q1.setCell (p := ⟨w.heap.size + 1, 0, none⟩) (by show w.heap.size ≤ w.heap.size + 1; omega) (.string ⟨#[]⟩)).setCell (p := ⟨w.heap.size + 1, 1, none⟩) (by show w.heap.size ≤ w.heap.size + 1; omega) (.string ⟨#[]⟩)
  exact q2.alloc q2.size _

set_option maxRecDepth 100000 in
set_option maxHeartbeats 2000000 in
theorem refKey_fault (n : Nat) (x : MD) (w : World) (hx : MD.In w.heap.size w n x) (hf : MD.full n x = true) (hc : (MD.eqv n x x).2.size ≠ 0) :
    Calls Tryd.prog 27 #[x.val] w fun r w' => r = .returned (.agg #[.string ⟨#[107, 101, 121]⟩, .string (MD.eqv n x x).2]) ∧ Below w.heap.size w w' := by
  have HE : Hid (∀ W, Below w.heap.size w W → Calls Tryd.prog 23 #[x.val, x.val] W fun r w' => r = .returned (.tuple #[.bool (MD.eqv n x x).1, .agg #[.string (fw (MD.eqv n x x).2), .string (MD.eqv n x x).2]]) ∧ Below W.heap.size W w') := fun W hW => refEq_any n x x W (hx.later (Nat.le_refl _) hW) (hx.later (Nat.le_refl _) hW) hf hf
  have ev : fw (MD.eqv n x x).2 = ⟨#[99, 111, 109, 112, 97, 114, 101]⟩ := if_neg hc
  rw [ev] at HE
  generalize (MD.eqv n x x).1 = q at HE
  generalize (MD.eqv n x x).2 = c at HE ⊢
  clear hx hf hc ev
  obtain ⟨⟨k, t, a, f, s, r0, r1, r2, r3, pp, path, pc⟩, ip, ic, items⟩ := x
  simp only [MD.val, D] at *
  go_enter Tryd.func27, Tryd.ntmps27
  go_wp2_with fail
  refine (HE.out _ (below2 _ _ _)).mono ?_
  rintro r w1 ⟨rfl, b1⟩
  have q1 : Below w.heap.size w w1 := (below2 _ _ _).trans (b1.mono (by simp; omega))
  have g1 : w1.heap[w.heap.size + 1]? = some (.cells #[.string ⟨#[]⟩, .string ⟨#[]⟩] 53 (0, 0)) := (b1.block _ (by simp)).trans (heap2_1 _ _ _)
  have gc := row_at g1
  have gf := fun j => fz _ _ _ _ j g1
  have hz := (lt_of_some g1)
  have hne : ¬ w1.heap.size = w.heap.size + 1 := by omega
  have hne2 : ¬ w.heap.size + 1 = w1.heap.size := by omega
  have al : ∀ (W : World) (o : Obj) (j : Nat), w.heap.size + 1 < W.heap.size → (W.alloc o).cell? ⟨w.heap.size + 1, j, none⟩ = W.cell? ⟨w.heap.size + 1, j, none⟩ := fun W o j h => by unfold World.cell?; rw [Below.heap_alloc _ _ _ h]
  have AL : Hid _ := al
  clear b1 g1 al
  go_wp2
  refine bodyPost_ret (v := .agg #[.string ⟨#[107, 101, 121]⟩, .string c]) (by simp [results, Tryd.results27, go_sem, gc, AL.out, hz]) rfl ⟨rfl, ?_⟩
  have q2 := (q1.setCell (p := ⟨w.heap.size + 1, 0, none⟩) (by show w.heap.size ≤ w.heap.size + 1; omega) (.string ⟨#[107, 101, 121]⟩)).setCell (p := ⟨w.heap.size + 1, 1, none⟩) (by show w.heap.size ≤ w.heap.size + 1; omega) (.string c)
  exact q2.alloc q2.size _

end Go.Proofs.YtnhbpcmiolkllaaDoor
namespace Go.Proofs.YtnhbpcmiolkllaaDoor
open Go.RowKit
attribute [local go_sem] refold2 cell3_0 cell3_1 b28_0 b28_01

set_option maxRecDepth 100000 in
set_option maxHeartbeats 4000000 in
theorem Hash_good (n : Nat) (x : MD) (w : World) (hN : NamesAt w) (hx : MD.In w.heap.size w n x) (h : MD.right n x = true) (hc : (MD.eqv n x x).2 = ⟨#[]⟩) : Calls Tryd.prog 26 #[x.val] w fun r w' => r = .returned (.tuple #[.int .u64 (MD.hash n 14695981039346656037 x), .nilIface]) ∧ Below w.heap.size w w' := by
  have HKy : Hid (∀ W, Below w.heap.size w W → Calls Tryd.prog 25 #[x.val] W fun r w' => r = .returned .nilIface ∧ Below W.heap.size W w') := fun W hW => Key_good n x W (hN.kept hW) (hx.later (Nat.le_refl _) hW) h hc
  have HH : Hid (∀ W, Below w.heap.size w W → Calls Tryd.prog 50 #[x.val] W fun r w' => r = .returned (.int .u64 (MD.hash n 14695981039346656037 x)) ∧ Below W.heap.size W w') := fun W hW => hashed_any n x W (hx.later (Nat.le_refl _) hW) (right_full h)
  clear hx h hc
  generalize MD.hash n 14695981039346656037 x = hv at HH ⊢
  obtain ⟨⟨k, t, a, f, s, r0, r1, r2, r3, pp, path, pc⟩, ip, ic, items⟩ := x
  simp only [MD.val, D] at HKy HH ⊢
  go_enter Tryd.func26, Tryd.ntmps26
  go_wp2_with fail
  refine (HKy.out _ (below1 _ _)).mono ?_
  rintro r w1 ⟨rfl, b1⟩
  have e1 := one_kept _ _ _ b1
  have q1 : Below w.heap.size w w1 := (below1 _ _).trans (b1.mono (by simp))
  clear b1
  go_wp2_with (go_at_call 50; refine (HH.out _ q1).mono ?_; rintro r w2 ⟨rfl, b2⟩)
  refine bodyPost_ret (v := .tuple #[.int .u64 hv, .nilIface]) (by simp [results, Tryd.results26, go_sem]) rfl ⟨rfl, q1.trans (b2.mono q1.size)⟩
theorem bytes_none {c : ByteArray} (h : c.size = 0) : c = ⟨#[]⟩ := by apply ByteArray.ext; apply Array.eq_empty_of_size_eq_zero; exact h
end Go.Proofs.YtnhbpcmiolkllaaDoor
namespace Go.Proofs.YtnhbpcmiolkllaaDoor
open Go.RowKit
attribute [local go_sem] refold2 cell3_0 cell3_1 b28_0 b28_01

set_option maxRecDepth 100000 in
set_option maxHeartbeats 4000000 in
theorem ordered_any (x : MD) (w : World) : Calls Tryd.prog 20 #[x.val] w fun r w' => r = .returned (.bool (x.h.k == 2 || x.h.k == 3 || x.h.k == 4)) ∧ Below w.heap.size w w' := by
  obtain ⟨⟨k, t, a, f, s, r0, r1, r2, r3, pp, path, pc⟩, ip, ic, items⟩ := x
  simp only [MD.val, D]
  by_cases h2 : k = 2
  · subst h2
    go_enter Tryd.func20, Tryd.ntmps20
    go_wp2
    go_ret
    exact ⟨rfl, below1 _ _⟩
  · by_cases h3 : k = 3
    · subst h3
      go_enter Tryd.func20, Tryd.ntmps20
      go_wp2
      go_ret
      exact ⟨rfl, below1 _ _⟩
    · have e2 : (k == 2) = false := by simpa using h2
      have e3 : (k == 3) = false := by simpa using h3
      rw [e2, e3]
      go_enter Tryd.func20, Tryd.ntmps20
      go_wp2
      go_ret
      exact ⟨by simp, below1 _ _⟩
end Go.Proofs.YtnhbpcmiolkllaaDoor
namespace Go.Proofs.YtnhbpcmiolkllaaDoor
open Go.RowKit
attribute [local go_sem] refold2 cell3_0 cell3_1 b28_0 b28_01

set_option maxRecDepth 100000 in
set_option maxHeartbeats 4000000 in
theorem sized_any (x : MD) (w : World) : Calls Tryd.prog 38 #[x.val] w fun r w' => r = .returned (.bool (x.h.k == 4 || x.h.k == 5)) ∧ Below w.heap.size w w' := by
  obtain ⟨⟨k, t, a, f, s, r0, r1, r2, r3, pp, path, pc⟩, ip, ic, items⟩ := x
  simp only [MD.val, D]
  by_cases h4 : k = 4
  · subst h4
    go_enter Tryd.func38, Tryd.ntmps38
    go_wp2
    go_ret
    exact ⟨rfl, below1 _ _⟩
  · have e4 : (k == 4) = false := by simpa using h4
    rw [e4]
    go_enter Tryd.func38, Tryd.ntmps38
    go_wp2
    go_ret
    exact ⟨by simp, below1 _ _⟩
set_option maxRecDepth 100000 in
set_option maxHeartbeats 4000000 in
theorem pointing_any (x : MD) (w : World) : Calls Tryd.prog 40 #[x.val] w fun r w' => r = .returned (.bool (x.h.k == 5 || x.h.k == 6 || x.h.k == 7 || x.h.k == 9)) ∧ Below w.heap.size w w' := by
  obtain ⟨⟨k, t, a, f, s, r0, r1, r2, r3, pp, path, pc⟩, ip, ic, items⟩ := x
  simp only [MD.val, D]
  by_cases h5 : k = 5
  · subst h5
    go_enter Tryd.func40, Tryd.ntmps40
    go_wp2
    go_ret
    exact ⟨rfl, below1 _ _⟩
  · have e5 : (k == 5) = false := by simpa using h5
    by_cases h6 : k = 6
    · subst h6
      go_enter Tryd.func40, Tryd.ntmps40
      go_wp2
      go_ret
      exact ⟨rfl, below1 _ _⟩
    · have e6 : (k == 6) = false := by simpa using h6
      by_cases h7 : k = 7
      · subst h7
        go_enter Tryd.func40, Tryd.ntmps40
        go_wp2
        go_ret
        exact ⟨rfl, below1 _ _⟩
      · have e7 : (k == 7) = false := by simpa using h7
        rw [e5, e6, e7]
        go_enter Tryd.func40, Tryd.ntmps40
        go_wp2
        go_ret
        exact ⟨by simp, below1 _ _⟩
set_option maxRecDepth 100000 in
set_option maxHeartbeats 4000000 in
theorem refLen_any (x : MD) (w : World) : Calls Tryd.prog 43 #[x.val] w fun r w' => r = .returned (.int .i64 (if x.h.k = 4 then x.h.s.size else x.h.r2)) ∧ Below w.heap.size w w' := by
  obtain ⟨⟨k, t, a, f, s, r0, r1, r2, r3, pp, path, pc⟩, ip, ic, items⟩ := x
  simp only [MD.val, D]
  by_cases h4 : k = 4
  · rw [if_pos h4]
    subst h4
    go_enter Tryd.func43, Tryd.ntmps43
    go_wp2
    go_ret
    exact ⟨rfl, below1 _ _⟩
  · rw [if_neg h4]
    go_enter Tryd.func43, Tryd.ntmps43
    go_wp2
    go_ret
    exact ⟨rfl, below1 _ _⟩
set_option maxRecDepth 100000 in
set_option maxHeartbeats 4000000 in
theorem textLen_any (b : Nat) (d : MD) (w : World) (hr : w.heap[b]? = some (.cells d.cells 28 (0, 0))) :
    Calls Tryd.prog 108 #[.agg #[.pointer (some ⟨b, 0, none⟩)]] w fun r w' => r = .returned (.int .i64 d.h.s.size) ∧ Below w.heap.size w w' := by
  obtain ⟨⟨k, t, a, f, s, r0, r1, r2, r3, pp, path, pc⟩, ip, ic, items⟩ := d
  have hc : ∀ j, w.cell? ⟨b, j, none⟩ = (#[.int .i64 k, .string t, .int .i64 a, .int .u64 f, .string s, .int .i64 r0, .int .i64 r1, .int .i64 r2, .int .i64 r3, .slice pp path.length pc, .slice ip items.length ic] : Array Value)[j]? := fun j => row_at hr j
  have hb : b < w.heap.size := (Array.getElem?_eq_some_iff.1 hr).1
  clear hr
  go_enter Tryd.func108, Tryd.ntmps108
  go_wp2
  go_ret
  exact ⟨rfl, below1 _ _⟩
set_option maxRecDepth 100000 in
set_option maxHeartbeats 4000000 in
theorem listLen_any (b : Nat) (d : MD) (w : World) (hr : w.heap[b]? = some (.cells d.cells 28 (0, 0))) :
    Calls Tryd.prog 112 #[.agg #[.pointer (some ⟨b, 0, none⟩)]] w fun r w' => r = .returned (.int .i64 d.h.r2) ∧ Below w.heap.size w w' := by
  obtain ⟨⟨k, t, a, f, s, r0, r1, r2, r3, pp, path, pc⟩, ip, ic, items⟩ := d
  have hc : ∀ j, w.cell? ⟨b, j, none⟩ = (#[.int .i64 k, .string t, .int .i64 a, .int .u64 f, .string s, .int .i64 r0, .int .i64 r1, .int .i64 r2, .int .i64 r3, .slice pp path.length pc, .slice ip items.length ic] : Array Value)[j]? := fun j => row_at hr j
  have hb : b < w.heap.size := (Array.getElem?_eq_some_iff.1 hr).1
  clear hr
  go_enter Tryd.func112, Tryd.ntmps112
  go_wp2
  go_ret
  exact ⟨rfl, below1 _ _⟩
set_option maxRecDepth 100000 in
set_option maxHeartbeats 4000000 in
theorem hashM_any (n b : Nat) (d : MD) (w : World) (hr : w.heap[b]? = some (.cells d.cells 28 (0, 0))) (hin : MD.In w.heap.size w n d) (hf : MD.full n d = true) :
    Calls Tryd.prog 99 #[.agg #[.pointer (some ⟨b, 0, none⟩)]] w fun r w' => r = .returned (.int .u64 (MD.hash n 14695981039346656037 d)) ∧ Below w.heap.size w w' := by
  have HH : Hid (∀ W, Below w.heap.size w W → Calls Tryd.prog 50 #[d.val] W fun r w' => r = .returned (.int .u64 (MD.hash n 14695981039346656037 d)) ∧ Below W.heap.size W w') := fun W hW => hashed_any n d W (hin.later (Nat.le_refl _) hW) hf
  generalize MD.hash n 14695981039346656037 d = z at HH ⊢
  obtain ⟨⟨k, t, a, f, s, r0, r1, r2, r3, pp, path, pc⟩, ip, ic, items⟩ := d
  have hc : ∀ j, w.cell? ⟨b, j, none⟩ = (#[.int .i64 k, .string t, .int .i64 a, .int .u64 f, .string s, .int .i64 r0, .int .i64 r1, .int .i64 r2, .int .i64 r3, .slice pp path.length pc, .slice ip items.length ic] : Array Value)[j]? := fun j => row_at hr j
  have hb : b < w.heap.size := (Array.getElem?_eq_some_iff.1 hr).1
  clear hr hin hf
  simp only [MD.val, D] at HH
  go_enter Tryd.func99, Tryd.ntmps99
  go_wp2_with (go_at_call 50; refine (HH.out _ (below1 _ _)).mono ?_; rintro r w1 ⟨rfl, b1⟩)
  go_ret
  exact ⟨rfl, (below1 _ _).trans (b1.mono (by simp))⟩
end Go.Proofs.YtnhbpcmiolkllaaDoor
