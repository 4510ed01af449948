/-
  The walks of lex.textAt and lex.tokenAt: the token that begins at a place, or what is wrong there.
-/
import Derived.Test.YthbnegggohegkaaGreatDoorF
import Derived.Test.YthbnegggohegkaaGreatDoorI
namespace Go.Proofs.YthbnegggohegkaaGreatDoor
open Go.RowKit

def textSpec (l : Bytes) (a : Nat) : Except (Nat × Nat) (Nat × Bytes × Nat) :=
  match lit l a (a + 1) [] with
  | .error e => .error e
  | .ok (t, n) => .ok (6, t, n)

set_option maxHeartbeats 1000000 in
theorem textAt_any (s : ByteArray) (a : Nat) (w : World) (ha : a < s.size) (hlim : s.size ≤ 60000) :
    Calls Tryz.prog 171 #[.string s, .int .i64 a] w fun e w' => TokRes w w' e a (textSpec s.data.toList a) := by
  have hb0 : Below w.heap.size w (w.alloc (Obj.cells #[.int .i64 0, .string ⟨#[]⟩, .int .i64 0] 169)) := (Below.refl _ _).alloc (Nat.le_refl _) _
  have HB0 : Hid (Below w.heap.size w (w.alloc (Obj.cells #[.int .i64 0, .string ⟨#[]⟩, .int .i64 0] 169))) := hb0
  clear hb0
  have HT : Hid (∀ e, lit s.data.toList a (a + 1) [] = .error e → textSpec s.data.toList a = .error e) := fun e h => by simp [textSpec, h]
  have HO : Hid (∀ t n, lit s.data.toList a (a + 1) [] = .ok (t, n) → textSpec s.data.toList a = .ok (6, t, n)) := fun t n h => by simp [textSpec, h]
  obtain ⟨sp, hsp⟩ : ∃ sp, sp = textSpec s.data.toList a := ⟨_, rfl⟩
  rw [← hsp] at HT HO ⊢
  clear hsp
  go_enter Tryz.func171, Tryz.ntmps171
  go_wp2_with fail
  refine (literalAt_any s a _ ha (by omega)).mono ?_
  intro r w2 hres
  generalize hlit : lit s.data.toList a (a + 1) [] = x at hres
  have HLIT : Hid (lit s.data.toList a (a + 1) [] = x) := hlit
  clear hlit
  cases hres with
  | ok t n he hb =>
    subst he
    obtain ⟨hc, hf⟩ := bcell hb
    have hz : w.heap.size < w2.heap.size := by have := hb.size; simp at this; omega
    go_wp2
    refine bodyPost_ret (v := .tuple #[.agg #[.int .i64 6, .string ⟨t.toArray⟩, .int .i64 a], .int .i64 n, .nilIface]) (by simp [results, Tryz.results171, go_sem, hc]) rfl ?_
    rw [HO.out t n HLIT.out]
    exact .ok 6 t n rfl ((((HB0.out.trans (hb.mono (by simp))).setCell (Nat.le_refl _) _).setCell (Nat.le_refl _) _).setCell (Nat.le_refl _) _)
  | error c p b he hlo hwr hb =>
    subst he
    obtain ⟨hc, hf⟩ := bcell hb
    have hz : w.heap.size < w2.heap.size := by have := hb.size; simp at this; omega
    have hlo' : w.heap.size < b := by simp at hlo; omega
    go_wp2
    refine bodyPost_ret (v := .tuple #[.agg #[.int .i64 0, .string ⟨#[]⟩, .int .i64 0], .int .i64 0, .iface 67 (.pointer (some ⟨b, 0, none⟩))]) (by simp [results, Tryz.results171, go_sem, hc]) rfl ?_
    rw [HT.out _ HLIT.out]
    refine .error c p b rfl (by omega) (((hwr.setCell ?_ _).setCell ?_ _).setCell ?_ _) ?_
    · show w.heap.size ≠ b; omega
    · show w.heap.size ≠ b; omega
    · show w.heap.size ≠ b; omega
    · exact (((HB0.out.trans (hb.mono (by simp))).setCell (Nat.le_refl _) _).setCell (Nat.le_refl _) _).setCell (Nat.le_refl _) _

/-- The token that begins at a, with the byte c. -/
def tokSpec (l : Bytes) (a : Nat) (c : Nat) : Except (Nat × Nat) (Nat × Bytes × Nat) :=
  if c = 59 then .ok (1, [], a + 1) else if c = 34 then textSpec l a else if letterN c then nameSpec l a else if digitN c then numSpec l a else signSpec l a

set_option maxHeartbeats 2000000 in
theorem tokenAt_any {gw ow gs os : Nat} (s : ByteArray) (a c : Nat) (R : Int) (w : World) (ht : TabsAt gw ow gs os w) (ha : a < s.size) (hlim : s.size ≤ 60000)
    (h59 : (R == 59) = decide (c = 59)) (h34 : (R == 34) = decide (c = 34)) (hle : letterI R = letterN c) (hdi : digitI R = digitN c) :
    Calls Tryz.prog 158 #[.string s, .int .i64 a, .int .i32 R] w fun e w' => TokRes w w' e a (tokSpec s.data.toList a c) := by
  have hb0 : Below w.heap.size w (w.alloc (Obj.cells #[.int .i64 0, .string ⟨#[]⟩, .int .i64 0] 169)) := (Below.refl _ _).alloc (Nat.le_refl _) _
  have ht1 := ht.below (Nat.le_refl _) hb0
  have HB0 : Hid (Below w.heap.size w (w.alloc (Obj.cells #[.int .i64 0, .string ⟨#[]⟩, .int .i64 0] 169))) := hb0
  clear hb0
  obtain ⟨l, hl⟩ : ∃ l, l = s.data.toList := ⟨_, rfl⟩
  have HL : Hid (l = s.data.toList) := hl
  rw [← hl]
  clear hl
  by_cases c59 : c = 59
  · rw [decide_eq_true c59] at h59
    have HSP : Hid (tokSpec l a c = .ok (1, [], a + 1)) := by show _ = _; rw [tokSpec, if_pos c59]
    clear c59 h34 hle hdi
    go_enter Tryz.func158, Tryz.ntmps158
    go_wp2
    refine bodyPost_ret (v := .tuple #[.agg #[.int .i64 1, .string ⟨#[]⟩, .int .i64 a], .int .i64 ((a : Int) + 1), .nilIface]) (by simp [results, Tryz.results158, go_sem]) rfl ?_
    rw [HSP.out]
    exact .ok 1 [] _ (by simp) (by first | exact (Below.refl _ _).alloc (Nat.le_refl _) _ | exact (((HB0.out.setCell (Nat.le_refl _) _).setCell (Nat.le_refl _) _).setCell (Nat.le_refl _) _))
  rw [decide_eq_false c59] at h59
  by_cases c34 : c = 34
  · rw [decide_eq_true c34] at h34
    go_enter Tryz.func158, Tryz.ntmps158
    have HSP : Hid (tokSpec l a c = textSpec l a) := by
      show _ = _
      rw [tokSpec, if_neg c59, if_pos c34]
    generalize hy : textSpec l a = y at HSP
    have hy' := hy.symm
    clear hy
    go_wp2_with (first | (go_at_call 152; refine (isLetter_any _ _).mono ?_; rintro r w1 ⟨rfl, rfl⟩) | (go_at_call 168; refine (isDigit_any _ _).mono ?_; rintro r w1 ⟨rfl, rfl⟩))
    refine (textAt_any s a _ ha hlim).mono ?_
    intro r w2 hres
    rw [← HL.out, ← hy'] at hres
    clear hy'
    cases hres with
    | ok k t n he hb =>
      subst he
      obtain ⟨hc, hf⟩ := bcell hb
      have hz : w.heap.size < w2.heap.size := by have := hb.size; simp at this; omega
      go_wp2
      refine bodyPost_ret (v := .tuple #[.agg #[.int .i64 k, .string ⟨t.toArray⟩, .int .i64 a], .int .i64 n, .nilIface]) (by simp [results, Tryz.results158, go_sem, hc]) rfl ?_
      rw [HSP.out]
      exact .ok k t n rfl ((((HB0.out.trans (hb.mono (by simp))).setCell (Nat.le_refl _) _).setCell (Nat.le_refl _) _).setCell (Nat.le_refl _) _)
    | error c' p b he hlo hwr hb =>
      subst he
      obtain ⟨hc, hf⟩ := bcell hb
      have hz : w.heap.size < w2.heap.size := by have := hb.size; simp at this; omega
      have hlo' : w.heap.size < b := by simp at hlo; omega
      go_wp2
      refine bodyPost_ret (v := .tuple #[.agg #[.int .i64 0, .string ⟨#[]⟩, .int .i64 0], .int .i64 0, .iface 67 (.pointer (some ⟨b, 0, none⟩))]) (by simp [results, Tryz.results158, go_sem, hc]) rfl ?_
      rw [HSP.out]
      refine .error c' p b rfl (by omega) (((hwr.setCell ?_ _).setCell ?_ _).setCell ?_ _) ?_
      · show w.heap.size ≠ b; omega
      · show w.heap.size ≠ b; omega
      · show w.heap.size ≠ b; omega
      · exact (((HB0.out.trans (hb.mono (by simp))).setCell (Nat.le_refl _) _).setCell (Nat.le_refl _) _).setCell (Nat.le_refl _) _
  rw [decide_eq_false c34] at h34
  cases cl : letterN c with
  | true =>
    rw [cl] at hle
    go_enter Tryz.func158, Tryz.ntmps158
    have HSP : Hid (tokSpec l a c = nameSpec l a) := by
      show _ = _
      rw [tokSpec, if_neg c59, if_neg c34, if_pos cl]
    generalize hy : nameSpec l a = y at HSP
    have hy' := hy.symm
    clear hy
    go_wp2_with (first | (go_at_call 152; refine (isLetter_any _ _).mono ?_; rintro r w1 ⟨rfl, rfl⟩) | (go_at_call 168; refine (isDigit_any _ _).mono ?_; rintro r w1 ⟨rfl, rfl⟩))
    refine (nameAt_any s a _ ht1 (by omega) hlim).mono ?_
    intro r w2 hres
    rw [← HL.out, ← hy'] at hres
    clear hy'
    cases hres with
    | ok k t n he hb =>
      subst he
      obtain ⟨hc, hf⟩ := bcell hb
      have hz : w.heap.size < w2.heap.size := by have := hb.size; simp at this; omega
      go_wp2
      refine bodyPost_ret (v := .tuple #[.agg #[.int .i64 k, .string ⟨t.toArray⟩, .int .i64 a], .int .i64 n, .nilIface]) (by simp [results, Tryz.results158, go_sem, hc]) rfl ?_
      rw [HSP.out]
      exact .ok k t n rfl ((((HB0.out.trans (hb.mono (by simp))).setCell (Nat.le_refl _) _).setCell (Nat.le_refl _) _).setCell (Nat.le_refl _) _)
    | error c' p b he hlo hwr hb =>
      subst he
      obtain ⟨hc, hf⟩ := bcell hb
      have hz : w.heap.size < w2.heap.size := by have := hb.size; simp at this; omega
      have hlo' : w.heap.size < b := by simp at hlo; omega
      go_wp2
      refine bodyPost_ret (v := .tuple #[.agg #[.int .i64 0, .string ⟨#[]⟩, .int .i64 0], .int .i64 0, .iface 67 (.pointer (some ⟨b, 0, none⟩))]) (by simp [results, Tryz.results158, go_sem, hc]) rfl ?_
      rw [HSP.out]
      refine .error c' p b rfl (by omega) (((hwr.setCell ?_ _).setCell ?_ _).setCell ?_ _) ?_
      · show w.heap.size ≠ b; omega
      · show w.heap.size ≠ b; omega
      · show w.heap.size ≠ b; omega
      · exact (((HB0.out.trans (hb.mono (by simp))).setCell (Nat.le_refl _) _).setCell (Nat.le_refl _) _).setCell (Nat.le_refl _) _
  | false =>
  rw [cl] at hle
  cases cd : digitN c with
  | true =>
    rw [cd] at hdi
    go_enter Tryz.func158, Tryz.ntmps158
    have HSP : Hid (tokSpec l a c = numSpec l a) := by
      show _ = _
      rw [tokSpec, if_neg c59, if_neg c34, if_neg (by rw [cl]; decide), if_pos cd]
    generalize hy : numSpec l a = y at HSP
    have hy' := hy.symm
    clear hy
    go_wp2_with (first | (go_at_call 152; refine (isLetter_any _ _).mono ?_; rintro r w1 ⟨rfl, rfl⟩) | (go_at_call 168; refine (isDigit_any _ _).mono ?_; rintro r w1 ⟨rfl, rfl⟩))
    refine (numberAt_any s a _ ha hlim).mono ?_
    intro r w2 hres
    rw [← HL.out, ← hy'] at hres
    clear hy'
    cases hres with
    | ok k t n he hb =>
      subst he
      obtain ⟨hc, hf⟩ := bcell hb
      have hz : w.heap.size < w2.heap.size := by have := hb.size; simp at this; omega
      go_wp2
      refine bodyPost_ret (v := .tuple #[.agg #[.int .i64 k, .string ⟨t.toArray⟩, .int .i64 a], .int .i64 n, .nilIface]) (by simp [results, Tryz.results158, go_sem, hc]) rfl ?_
      rw [HSP.out]
      exact .ok k t n rfl ((((HB0.out.trans (hb.mono (by simp))).setCell (Nat.le_refl _) _).setCell (Nat.le_refl _) _).setCell (Nat.le_refl _) _)
    | error c' p b he hlo hwr hb =>
      subst he
      obtain ⟨hc, hf⟩ := bcell hb
      have hz : w.heap.size < w2.heap.size := by have := hb.size; simp at this; omega
      have hlo' : w.heap.size < b := by simp at hlo; omega
      go_wp2
      refine bodyPost_ret (v := .tuple #[.agg #[.int .i64 0, .string ⟨#[]⟩, .int .i64 0], .int .i64 0, .iface 67 (.pointer (some ⟨b, 0, none⟩))]) (by simp [results, Tryz.results158, go_sem, hc]) rfl ?_
      rw [HSP.out]
      refine .error c' p b rfl (by omega) (((hwr.setCell ?_ _).setCell ?_ _).setCell ?_ _) ?_
      · show w.heap.size ≠ b; omega
      · show w.heap.size ≠ b; omega
      · show w.heap.size ≠ b; omega
      · exact (((HB0.out.trans (hb.mono (by simp))).setCell (Nat.le_refl _) _).setCell (Nat.le_refl _) _).setCell (Nat.le_refl _) _
  | false =>
    rw [cd] at hdi
    go_enter Tryz.func158, Tryz.ntmps158
    have HSP : Hid (tokSpec l a c = signSpec l a) := by
      show _ = _
      rw [tokSpec, if_neg c59, if_neg c34, if_neg (by rw [cl]; decide), if_neg (by rw [cd]; decide)]
    generalize hy : signSpec l a = y at HSP
    have hy' := hy.symm
    clear hy
    go_wp2_with (first | (go_at_call 152; refine (isLetter_any _ _).mono ?_; rintro r w1 ⟨rfl, rfl⟩) | (go_at_call 168; refine (isDigit_any _ _).mono ?_; rintro r w1 ⟨rfl, rfl⟩))
    refine (signAt_any s a _ ht1 (by omega) hlim).mono ?_
    intro r w2 hres
    rw [← HL.out, ← hy'] at hres
    clear hy'
    cases hres with
    | ok k t n he hb =>
      subst he
      obtain ⟨hc, hf⟩ := bcell hb
      have hz : w.heap.size < w2.heap.size := by have := hb.size; simp at this; omega
      go_wp2
      refine bodyPost_ret (v := .tuple #[.agg #[.int .i64 k, .string ⟨t.toArray⟩, .int .i64 a], .int .i64 n, .nilIface]) (by simp [results, Tryz.results158, go_sem, hc]) rfl ?_
      rw [HSP.out]
      exact .ok k t n rfl ((((HB0.out.trans (hb.mono (by simp))).setCell (Nat.le_refl _) _).setCell (Nat.le_refl _) _).setCell (Nat.le_refl _) _)
    | error c' p b he hlo hwr hb =>
      subst he
      obtain ⟨hc, hf⟩ := bcell hb
      have hz : w.heap.size < w2.heap.size := by have := hb.size; simp at this; omega
      have hlo' : w.heap.size < b := by simp at hlo; omega
      go_wp2
      refine bodyPost_ret (v := .tuple #[.agg #[.int .i64 0, .string ⟨#[]⟩, .int .i64 0], .int .i64 0, .iface 67 (.pointer (some ⟨b, 0, none⟩))]) (by simp [results, Tryz.results158, go_sem, hc]) rfl ?_
      rw [HSP.out]
      refine .error c' p b rfl (by omega) (((hwr.setCell ?_ _).setCell ?_ _).setCell ?_ _) ?_
      · show w.heap.size ≠ b; omega
      · show w.heap.size ≠ b; omega
      · show w.heap.size ≠ b; omega
      · exact (((HB0.out.trans (hb.mono (by simp))).setCell (Nat.le_refl _) _).setCell (Nat.le_refl _) _).setCell (Nat.le_refl _) _
end Go.Proofs.YthbnegggohegkaaGreatDoor
