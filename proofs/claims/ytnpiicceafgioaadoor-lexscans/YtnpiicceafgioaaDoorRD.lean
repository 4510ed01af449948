/-
  The walk of the document's own token: a name.
-/
import Derived.Test.YtnpiicceafgioaaDoorRC
namespace Go.Proofs.YtnpiicceafgioaaDoor
open Go.RowKit

inductive RefTok (w w' : World) (e : Ending) (a : Nat) : Except (Nat × Nat) (Nat × Bytes × Nat) → Prop
  | ok (k : Nat) (t : Bytes) (p : Nat) (he : e = .returned (.tuple #[.agg #[.int .i64 k, .string ⟨t.toArray⟩, .int .i64 a], .int .i64 p, .agg #[.int .i64 0, .int .i64 0, .string ⟨#[]⟩]])) (hb : Below w.heap.size w w') : RefTok w w' e a (.ok (k, t, p))
  | error (c p : Nat) (k q : Nat) (t : ByteArray) (n : Nat) (he : e = .returned (.tuple #[.agg #[.int .i64 k, .string t, .int .i64 q], .int .i64 n, .agg #[.int .i64 c, .int .i64 p, .string ⟨#[]⟩]])) (hb : Below w.heap.size w w') : RefTok w w' e a (.error (c, p))

theorem cells_three {w w2 : World} {x0 x1 x2 y0 y1 y2 : Value} {o : Obj}
    (hb : Below (((w.alloc (.cells #[x0, x1, x2] 48)).alloc (.cells #[y0, y1, y2] 26)).alloc o).heap.size (((w.alloc (.cells #[x0, x1, x2] 48)).alloc (.cells #[y0, y1, y2] 26)).alloc o) w2) :
    (w2.cell? ⟨w.heap.size, 0, none⟩ = some x0 ∧ w2.cell? ⟨w.heap.size, 1, none⟩ = some x1 ∧ w2.cell? ⟨w.heap.size, 2, none⟩ = some x2) ∧
    (w2.cell? ⟨w.heap.size + 1, 0, none⟩ = some y0 ∧ w2.cell? ⟨w.heap.size + 1, 1, none⟩ = some y1 ∧ w2.cell? ⟨w.heap.size + 1, 2, none⟩ = some y2) := by
  obtain ⟨hc, -⟩ := bcell hb
  refine ⟨⟨?_, ?_, ?_⟩, ?_, ?_, ?_⟩ <;> (rw [hc _ _ (by first | (simp; done) | (simp; omega))]; simp [go_sem])

set_option maxHeartbeats 2000000 in
theorem refToken_name (s : ByteArray) (a : Nat) (w : World) (ha : a < s.size) (hlim : s.size ≤ 60000) (hc : letterN (s[a]'ha).toNat = true) :
    Calls Tryd.prog 30 #[.string s, .int .i64 a] w fun e w' => RefTok w w' e a (nameSpec s.data.toList a) := by
  obtain ⟨X, hX⟩ : ∃ X, X = nameSpec s.data.toList a := ⟨_, rfl⟩
  have HX : Hid (X = nameSpec s.data.toList a) := hX
  rw [← hX]
  clear hX
  go_enter Tryd.func30, Tryd.ntmps30
  go_wp2_with (go_at_call 42; refine (refLetter_any _ _).mono ?_; rintro e w' ⟨rfl, rfl⟩)
  refine (refRun_parts s a _ (by omega) hlim).mono ?_
  rintro r w1 ⟨n, rfl, hn3, hn2, hw1⟩
  have hw1' := hw1.symm
  subst hw1'
  clear hw1
  go_wp2_with (go_at_call 24; refine (refWord_at _ _).mono ?_; rintro r w2 ⟨b, rfl, hbw, hb2⟩; obtain ⟨hc2, hf2⟩ := bcell hb2; have hza : w.heap.size < w2.heap.size := (by (have := hb2.size; simp at this; omega)); have hzb : w.heap.size + 1 < w2.heap.size := (by (have := hb2.size; simp at this; omega)); have hz2 : w.heap.size + 1 + 1 < w2.heap.size := (by (have := hb2.size; simp at this; omega)))
  · refine bodyPost_ret (v := .tuple #[.agg #[.int .i64 2, .string (s.extract a (a + n)), .int .i64 a], .int .i64 0, .agg #[.int .i64 13, .int .i64 a, .string ⟨#[]⟩]]) (by simp [results, Tryd.results30, go_sem]) rfl ?_
    have hsp : X = .error (13, a) := by
      rw [HX.out]
      simp only [nameSpec, ← hn2.out]
      rw [if_pos (by omega)]
    rw [hsp]
    exact .error 13 a 2 a _ 0 rfl ((((Below.refl _ _).alloc (Nat.le_refl _) _).alloc (by simp) _).alloc (by simp; omega) _)
  all_goals obtain ⟨⟨x0, x1, x2⟩, y0, y1, y2⟩ := cells_three hb2
  all_goals have HB : Below w.heap.size w w2 := ((((Below.refl _ _).alloc (Nat.le_refl _) _).alloc (by simp) _).alloc (by simp; omega) _).trans (hb2.mono (by simp; omega))
  · have hwd : isWord (s.extract a (a + n)).toList = true := by rw [ByteArray.toList_eq, ← hbw.out]; assumption
    refine bodyPost_ret (v := .tuple #[.agg #[.int .i64 3, .string (s.extract a (a + n)), .int .i64 a], .int .i64 ((a : Int) + n), .agg #[.int .i64 0, .int .i64 0, .string ⟨#[]⟩]]) (by simp [results, Tryd.results30, go_sem, x0, x1, x2, y0, y1, y2]) rfl ?_
    rw [HX.out, name_fin s a n true hn2.out (by omega) hwd]
    exact .ok 3 _ _ (by rw [extract_add]; simp) (((((((HB.setCell (by simp; omega) _).setCell (Nat.le_refl _) _).setCell (Nat.le_refl _) _).setCell (Nat.le_refl _) _).setCell (by simp) _).setCell (by simp) _).setCell (by simp) _)
  · have hwd : isWord (s.extract a (a + n)).toList = false := by rw [ByteArray.toList_eq, ← hbw.out]; assumption
    refine bodyPost_ret (v := .tuple #[.agg #[.int .i64 2, .string (s.extract a (a + n)), .int .i64 a], .int .i64 ((a : Int) + n), .agg #[.int .i64 0, .int .i64 0, .string ⟨#[]⟩]]) (by simp [results, Tryd.results30, go_sem, x0, x1, x2, y0, y1, y2]) rfl ?_
    rw [HX.out, name_fin s a n false hn2.out (by omega) hwd]
    exact .ok 2 _ _ (by rw [extract_add]; simp) ((((((HB.setCell (Nat.le_refl _) _).setCell (Nat.le_refl _) _).setCell (Nat.le_refl _) _).setCell (by simp) _).setCell (by simp) _).setCell (by simp) _)
end Go.Proofs.YtnpiicceafgioaaDoor
