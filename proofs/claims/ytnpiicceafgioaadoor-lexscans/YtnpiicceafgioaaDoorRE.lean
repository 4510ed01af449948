/-
  The walk of the document's own token: a number.
-/
import Derived.Test.YtnpiicceafgioaaDoorRD
namespace Go.Proofs.YtnpiicceafgioaaDoor
open Go.RowKit

theorem refNumber_at (s : ByteArray) (a : Nat) (w : World) (ha : a < s.size) (hlim : s.size ≤ 60000) :
    Calls Tryd.prog 46 #[.string s, .int .i64 a] w fun e w' => ∃ (K E : Nat) (B : Bool), e = .returned (.tuple #[.agg #[.int .i64 K, .string (s.extract a E), .int .i64 a], .bool B]) ∧ Hid (K = numKind s.data.toList a ∧ E = numEnd s.data.toList a ∧ B = numBad s.data.toList a) ∧ Below w.heap.size w w' :=
  (refNumber_any s a w ha hlim).mono fun _ _ ⟨he, hb⟩ => ⟨_, _, _, he, ⟨rfl, rfl, rfl⟩, hb⟩

theorem cells_two {w w2 : World} {x0 x1 x2 y0 y1 y2 : Value}
    (hb : Below ((w.alloc (.cells #[x0, x1, x2] 48)).alloc (.cells #[y0, y1, y2] 26)).heap.size ((w.alloc (.cells #[x0, x1, x2] 48)).alloc (.cells #[y0, y1, y2] 26)) w2) :
    (w2.cell? ⟨w.heap.size, 0, none⟩ = some x0 ∧ w2.cell? ⟨w.heap.size, 1, none⟩ = some x1 ∧ w2.cell? ⟨w.heap.size, 2, none⟩ = some x2) ∧
    (w2.cell? ⟨w.heap.size + 1, 0, none⟩ = some y0 ∧ w2.cell? ⟨w.heap.size + 1, 1, none⟩ = some y1 ∧ w2.cell? ⟨w.heap.size + 1, 2, none⟩ = some y2) := by
  obtain ⟨hc, -⟩ := bcell hb
  refine ⟨⟨?_, ?_, ?_⟩, ?_, ?_, ?_⟩ <;> (rw [hc _ _ (by first | (simp; done) | (simp; omega))]; simp [go_sem])

theorem numEnd_in (l : Bytes) (a : Nat) (ha : a < l.length) : a ≤ numEnd l a ∧ numEnd l a ≤ l.length := by
  have hn := spanB_le digitN (l.drop a)
  rw [List.length_drop] at hn
  by_cases hm : 0 < partLen (l.drop (a + spanB digitN (l.drop a)))
  · have e : numEnd l a = a + spanB digitN (l.drop a) + 1 + partLen (l.drop (a + spanB digitN (l.drop a))) := if_pos hm
    have hk : a + spanB digitN (l.drop a) < l.length := by
      by_cases h : a + spanB digitN (l.drop a) < l.length
      · exact h
      · rw [List.drop_of_length_le (by omega)] at hm; exact absurd hm (by decide)
    have h46 : (l.getD (a + spanB digitN (l.drop a)) 0).toNat = 46 := by
      by_cases h : (l.getD (a + spanB digitN (l.drop a)) 0).toNat = 46
      · exact h
      · rw [part_none _ _ (fun _ => h)] at hm; exact absurd hm (by decide)
    have hp := part_dot l _ hk h46
    have hq := spanB_le digitN (l.drop (a + spanB digitN (l.drop a) + 1))
    rw [List.length_drop, ← hp] at hq
    omega
  · have e : numEnd l a = a + spanB digitN (l.drop a) := if_neg hm
    omega

set_option maxHeartbeats 2000000 in
theorem refToken_number (s : ByteArray) (a : Nat) (w : World) (ha : a < s.size) (hlim : s.size ≤ 60000) (hc : letterN (s[a]'ha).toNat = false) (hd : digitN (s[a]'ha).toNat = true) :
    Calls Tryd.prog 30 #[.string s, .int .i64 a] w fun e w' => RefTok w w' e a (numSpec s.data.toList a) := by
  obtain ⟨X, hX⟩ : ∃ X, X = numSpec s.data.toList a := ⟨_, rfl⟩
  have HX : Hid (X = numSpec s.data.toList a) := hX
  rw [← hX]
  clear hX
  go_enter Tryd.func30, Tryd.ntmps30
  go_wp2_with (first | (go_at_call 42; refine (refLetter_any _ _).mono ?_; rintro e w' ⟨rfl, rfl⟩) | (go_at_call 43; refine (refDigit_any _ _).mono ?_; rintro e w' ⟨rfl, rfl⟩))
  refine (refNumber_at s a _ ha hlim).mono ?_
  rintro r w2 ⟨K, E, B, rfl, HS, hb2⟩
  obtain ⟨⟨x0, x1, x2⟩, y0, y1, y2⟩ := cells_two hb2
  obtain ⟨hc2, hf2⟩ := bcell hb2
  have hza : w.heap.size < w2.heap.size := (by (have := hb2.size; simp at this; omega))
  have hzb : w.heap.size + 1 < w2.heap.size := (by (have := hb2.size; simp at this; omega))
  go_wp2_with fail
  all_goals have HB : Below w.heap.size w w2 := (((Below.refl _ _).alloc (Nat.le_refl _) _).alloc (by simp) _).trans (hb2.mono (by simp; omega))
  · have hq : B = true := by assumption
    refine bodyPost_ret (v := .tuple #[.agg #[.int .i64 K, .string (s.extract a E), .int .i64 a], .int .i64 0, .agg #[.int .i64 12, .int .i64 a, .string ⟨#[]⟩]]) (by simp [results, Tryd.results30, go_sem, x0, x1, x2, y0, y1, y2, hza, hzb]) rfl ?_
    have hsp : X = .error (12, a) := by rw [HX.out, numSpec, if_pos (by rw [← HS.out.2.2]; exact hq)]
    rw [hsp]
    refine .error 12 a K a _ 0 rfl ?_
    have H6 := (((((HB.setCell (p := ⟨w.heap.size, 0, none⟩) (Nat.le_refl _) (.int .i64 K)).setCell (p := ⟨w.heap.size, 1, none⟩) (Nat.le_refl _) (.string (s.extract a E))).setCell (p := ⟨w.heap.size, 2, none⟩) (Nat.le_refl _) (.int .i64 a)).setCell (p := ⟨w.heap.size + 1, 0, none⟩) (Nat.le_succ _) (.int .i64 12)).setCell (p := ⟨w.heap.size + 1, 1, none⟩) (Nat.le_succ _) (.int .i64 a)).setCell (p := ⟨w.heap.size + 1, 2, none⟩) (Nat.le_succ _) (.string ⟨#[]⟩)
    exact H6.alloc H6.size _
  · go_region
    go_wp2_with fail
    have hq : B = false := by assumption
    have hle := numEnd_in s.data.toList a (by simpa using ha)
    rw [← HS.out.2.1] at hle
    have hl : s.data.toList.length = s.size := by simp
    rw [hl] at hle
    have hmin : (a : Int) + (min E s.size - a : Nat) = (E : Int) := by omega
    refine bodyPost_ret (v := .tuple #[.agg #[.int .i64 K, .string (s.extract a E), .int .i64 a], .int .i64 E, .agg #[.int .i64 0, .int .i64 0, .string ⟨#[]⟩]]) (by simp [results, Tryd.results30, go_sem, x0, x1, x2, y0, y1, y2, hza, hzb, hmin]) rfl ?_
    have hsp : X = .ok (K, (s.data.toList.drop a).take (E - a), E) := by
      rw [HX.out, numSpec, if_neg (by rw [← HS.out.2.2, hq]; decide), HS.out.1, HS.out.2.1]; rfl
    rw [hsp]
    have H6 := (((((HB.setCell (p := ⟨w.heap.size, 0, none⟩) (Nat.le_refl _) (.int .i64 K)).setCell (p := ⟨w.heap.size, 1, none⟩) (Nat.le_refl _) (.string (s.extract a E))).setCell (p := ⟨w.heap.size, 2, none⟩) (Nat.le_refl _) (.int .i64 a)).setCell (p := ⟨w.heap.size + 1, 0, none⟩) (Nat.le_succ _) (.int .i64 0)).setCell (p := ⟨w.heap.size + 1, 1, none⟩) (Nat.le_succ _) (.int .i64 0)).setCell (p := ⟨w.heap.size + 1, 2, none⟩) (Nat.le_succ _) (.string ⟨#[]⟩)
    exact .ok K _ E (by rw [extract_eq]) (H6.alloc H6.size _).drew
end Go.Proofs.YtnpiicceafgioaaDoor
