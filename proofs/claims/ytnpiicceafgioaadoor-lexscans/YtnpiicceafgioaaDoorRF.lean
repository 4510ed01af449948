/-
  The walk of the document's own token: a literal.
-/
import Derived.Test.YtnpiicceafgioaaDoorRE
namespace Go.Proofs.YtnpiicceafgioaaDoor
open Go.RowKit

theorem below_tok {w w2 : World} (HB : Below w.heap.size w w2) (u0 u1 u2 v0 v1 v2 : Value) :
    Below w.heap.size w ((((((w2.setCell ⟨w.heap.size, 0, none⟩ u0).setCell ⟨w.heap.size, 1, none⟩ u1).setCell ⟨w.heap.size, 2, none⟩ u2).setCell ⟨w.heap.size + 1, 0, none⟩ v0).setCell ⟨w.heap.size + 1, 1, none⟩ v1).setCell ⟨w.heap.size + 1, 2, none⟩ v2) :=
  (((((HB.setCell (Nat.le_refl _) _).setCell (Nat.le_refl _) _).setCell (Nat.le_refl _) _).setCell (Nat.le_succ _) _).setCell (Nat.le_succ _) _).setCell (Nat.le_succ _) _

set_option maxHeartbeats 2000000 in
theorem refToken_text (s : ByteArray) (a : Nat) (w : World) (ha : a < s.size) (hlim : s.size ≤ 60000) (hc : letterN (s[a]'ha).toNat = false) (hd : digitN (s[a]'ha).toNat = false) (h34 : (((s[a]'ha).toNat : Int) == 34) = true) :
    Calls Tryd.prog 30 #[.string s, .int .i64 a] w fun e w' => RefTok w w' e a (textSpec s.data.toList a) := by
  obtain ⟨X, hX⟩ : ∃ X, X = textSpec s.data.toList a := ⟨_, rfl⟩
  have HX : Hid (X = textSpec s.data.toList a) := hX
  rw [← hX]
  clear hX
  go_enter Tryd.func30, Tryd.ntmps30
  go_wp2_with (first | (go_at_call 42; refine (refLetter_any _ _).mono ?_; rintro e w' ⟨rfl, rfl⟩) | (go_at_call 43; refine (refDigit_any _ _).mono ?_; rintro e w' ⟨rfl, rfl⟩))
  refine (refLiteral_any s a _ ha (by omega)).mono ?_
  intro r w2 hres
  obtain ⟨Y, hY⟩ : ∃ Y, Y = lit s.data.toList a (a + 1) [] := ⟨_, rfl⟩
  have HY : Hid (Y = lit s.data.toList a (a + 1) []) := hY
  rw [← hY] at hres
  clear hY
  cases hres with
  | ok t n he hb2 =>
    subst he
    obtain ⟨⟨x0, x1, x2⟩, y0, y1, y2⟩ := cells_two hb2
    obtain ⟨hc2, hf2⟩ := bcell hb2
    have hza : w.heap.size < w2.heap.size := (by (have := hb2.size; simp at this; omega))
    have hzb : w.heap.size + 1 < w2.heap.size := (by (have := hb2.size; simp at this; omega))
    have HB : Below w.heap.size w w2 := (((Below.refl _ _).alloc (Nat.le_refl _) _).alloc (by simp) _).trans (hb2.mono (by simp; omega))
    go_wp2_with fail
    go_region
    go_wp2_with fail
    refine bodyPost_ret (v := .tuple #[.agg #[.int .i64 6, .string ⟨t.toArray⟩, .int .i64 a], .int .i64 n, .agg #[.int .i64 0, .int .i64 0, .string ⟨#[]⟩]]) (by simp [results, Tryd.results30, go_sem, x0, x1, x2, y0, y1, y2, hza, hzb]) rfl ?_
    have hsp : X = .ok (6, t, n) := by rw [HX.out, textSpec, ← HY.out]
    rw [hsp]
    have H6 := below_tok HB (.int .i64 6) (.string ⟨t.toArray⟩) (.int .i64 a) (.int .i64 0) (.int .i64 0) (.string ⟨#[]⟩)
    exact .ok 6 _ n rfl (H6.alloc H6.size _).drew
  | error c p he hb2 =>
    subst he
    obtain ⟨⟨x0, x1, x2⟩, y0, y1, y2⟩ := cells_two hb2
    obtain ⟨hc2, hf2⟩ := bcell hb2
    have hza : w.heap.size < w2.heap.size := (by (have := hb2.size; simp at this; omega))
    have hzb : w.heap.size + 1 < w2.heap.size := (by (have := hb2.size; simp at this; omega))
    have HB : Below w.heap.size w w2 := (((Below.refl _ _).alloc (Nat.le_refl _) _).alloc (by simp) _).trans (hb2.mono (by simp; omega))
    go_wp2_with fail
    go_region
    go_wp2_with fail
    refine bodyPost_ret (v := .tuple #[.agg #[.int .i64 6, .string ⟨#[]⟩, .int .i64 a], .int .i64 0, .agg #[.int .i64 c, .int .i64 p, .string ⟨#[]⟩]]) (by simp [results, Tryd.results30, go_sem, x0, x1, x2, y0, y1, y2, hza, hzb]) rfl ?_
    have hsp : X = .error (c, p) := by rw [HX.out, textSpec, ← HY.out]
    rw [hsp]
    have H6 := below_tok HB (.int .i64 6) (.string ⟨#[]⟩) (.int .i64 a) (.int .i64 c) (.int .i64 p) (.string ⟨#[]⟩)
    exact .error c p 6 a _ 0 rfl (H6.alloc H6.size _).drew
end Go.Proofs.YtnpiicceafgioaaDoor
