/-
  The walk of lex.numberAt: the number that stands at a place, or that it may not be.
-/
import Derived.Test.YthbnegggohegkaaGreatDoorEJ
namespace Go.Proofs.YthbnegggohegkaaGreatDoor
open Go.RowKit

theorem partLen_le (l : Bytes) (h : 0 < partLen l) : partLen l + 1 ≤ l.length := by
  unfold partLen at *
  split at h
  · rename_i r; have := spanB_le digitN r; simp; omega
  · omega

def numEnd (l : Bytes) (a : Nat) : Nat :=
  let n := spanB digitN (l.drop a)
  let m := partLen (l.drop (a + n))
  if 0 < m then a + n + 1 + m else a + n
def numBad (l : Bytes) (a : Nat) : Bool :=
  let n := spanB digitN (l.drop a)
  let m := partLen (l.drop (a + n))
  !(if 0 < m then decide (n + m ≤ 15) else intOk ((l.drop a).take n)) || (decide (1 < n) && l[a]? == some 48) || decide (0 < spanB partN (l.drop (numEnd l a)))
def numSpec (l : Bytes) (a : Nat) : Except (Nat × Nat) (Nat × Bytes × Nat) :=
  if numBad l a then .error (12, a)
  else .ok (if 0 < partLen (l.drop (a + spanB digitN (l.drop a))) then 5 else 4, (l.drop a).take (numEnd l a - a), numEnd l a)

theorem num_err1 (l : Bytes) (a n m : Nat) (hn : n = spanB digitN (l.drop a)) (hm : m = partLen (l.drop (a + n))) (h : (if 0 < m then decide (n + m ≤ 15) else intOk ((l.drop a).take n)) = false) : numSpec l a = .error (12, a) := by
  subst hn; subst hm
  simp [numSpec, numBad, h]
theorem num_err2 (l : Bytes) (a n : Nat) (hn : n = spanB digitN (l.drop a)) (h1 : 1 < n) (h2 : l[a]? = some 48) : numSpec l a = .error (12, a) := by
  subst hn
  simp [numSpec, numBad, h1, h2]
theorem numEnd_eq (l : Bytes) (a n m : Nat) (hn : n = spanB digitN (l.drop a)) (hm : m = partLen (l.drop (a + n))) : numEnd l a = if 0 < m then a + n + 1 + m else a + n := by
  subst hn; subst hm; rfl
theorem num_err3 (l : Bytes) (a q : Nat) (hq : q = spanB partN (l.drop (numEnd l a))) (h : 0 < q) : numSpec l a = .error (12, a) := by
  subst hq
  simp [numSpec, numBad, h]
theorem num_ok (l : Bytes) (a n m q e : Nat) (hn : n = spanB digitN (l.drop a)) (hm : m = partLen (l.drop (a + n))) (he : numEnd l a = e) (hq : q = spanB partN (l.drop e)) (h0 : q = 0)
    (h1 : (if 0 < m then decide (n + m ≤ 15) else intOk ((l.drop a).take n)) = true) (h2 : ¬ (1 < n ∧ l[a]? = some 48)) : numSpec l a = .ok (if 0 < m then 5 else 4, (l.drop a).take (e - a), e) := by
  subst hn; subst hm; subst he
  have hb : numBad l a = false := by
    simp only [numBad, h1, ← hq, h0]
    simp only [Bool.not_true, Bool.false_or, Nat.lt_irrefl, decide_false, Bool.or_false]
    rw [Bool.eq_false_iff]
    intro h3
    exact h2 (by simpa using h3)
  simp [numSpec, hb]

theorem digits_at (s : ByteArray) (a : Nat) (w : World) (ha : a ≤ s.size) :
    Calls Tryz.prog 151 #[.string (s.extract a s.size), .func (.func 168) #[] #[]] w fun e w' => ∃ n : Nat, e = .returned (.int .i64 n) ∧ a + n ≤ s.size ∧ Hid (n = spanB digitN (s.data.toList.drop a)) ∧ Below w.heap.size w w' :=
  (span_digit (s.extract a s.size) w).mono fun _ _ ⟨he, hb⟩ => by
    rw [extract_end] at he
    exact ⟨_, he, by have := spanB_le digitN (s.data.toList.drop a); simp at this; omega, rfl, hb⟩
theorem parts_at (s : ByteArray) (a : Nat) (w : World) (ha : a ≤ s.size) :
    Calls Tryz.prog 151 #[.string (s.extract a s.size), .func (.func 153) #[] #[]] w fun e w' => ∃ n : Nat, e = .returned (.int .i64 n) ∧ a + n ≤ s.size ∧ Hid (n = spanB partN (s.data.toList.drop a)) ∧ Below w.heap.size w w' :=
  (span_part (s.extract a s.size) w).mono fun _ _ ⟨he, hb⟩ => by
    rw [extract_end] at he
    exact ⟨_, he, by have := spanB_le partN (s.data.toList.drop a); simp at this; omega, rfl, hb⟩
theorem partLength_at (s : ByteArray) (a : Nat) (w : World) (ha : a ≤ s.size) :
    Calls Tryz.prog 185 #[.string (s.extract a s.size)] w fun e w' => ∃ n : Nat, e = .returned (.int .i64 n) ∧ (0 < n → a + 1 + n ≤ s.size) ∧ Hid (n = partLen (s.data.toList.drop a)) ∧ Below w.heap.size w w' :=
  (partLength_any (s.extract a s.size) w).mono fun _ _ ⟨n, he, hn, hb⟩ => by
    have hn' := hn.out
    rw [extract_end] at hn'
    exact ⟨n, he, fun h0 => by have := partLen_le (s.data.toList.drop a) (by omega); simp at this; omega, hn', hb⟩
theorem isInt_at (s : ByteArray) (a e : Nat) (w : World) :
    Calls Tryz.prog 186 #[.string (s.extract a e)] w fun r w' => ∃ b : Bool, r = .returned (.bool b) ∧ Hid (b = intOk ((s.data.toList.drop a).take (e - a))) ∧ w' = w :=
  (isInt_any (s.extract a e) w).mono fun _ _ ⟨he, hw⟩ => ⟨_, he, by rw [Lib.extract_toList]; rfl, hw⟩

theorem byte_is (s : ByteArray) (a : Nat) (h : a < s.size) (h1 : ((s[a]'h).toNat : Int) = 48) : s.data.toList[a]? = some 48 := by
  have h2 : s[a]'h = 48 := UInt8.toNat_inj.1 (by show (s[a]'h).toNat = 48; omega)
  rw [List.getElem?_eq_getElem (by simpa using h)]
  exact congrArg some h2
theorem byte_not (s : ByteArray) (a : Nat) (h : a < s.size) (h1 : ¬ ((s[a]'h).toNat : Int) = 48) : ¬ s.data.toList[a]? = some 48 := by
  rw [List.getElem?_eq_getElem (by simpa using h)]
  intro h2
  have h3 : s[a]'h = 48 := Option.some.inj h2
  rw [h3] at h1
  exact h1 rfl

set_option maxHeartbeats 4000000 in
theorem numberAt_any (s : ByteArray) (a : Nat) (w : World) (ha : a < s.size) (hlim : s.size ≤ 60000) :
    Calls Tryz.prog 173 #[.string s, .int .i64 a] w fun e w' => TokRes w w' e a (numSpec s.data.toList a) := by
  have hb0 : Below w.heap.size w (w.alloc (Obj.cells #[.int .i64 0, .string ⟨#[]⟩, .int .i64 0] 169)) := (Below.refl _ _).alloc (Nat.le_refl _) _
  have HB0 : Hid (Below w.heap.size w (w.alloc (Obj.cells #[.int .i64 0, .string ⟨#[]⟩, .int .i64 0] 169))) := hb0
  clear hb0
  go_enter Tryz.func173, Tryz.ntmps173
  go_wp2_with (go_at_call 151; refine (digits_at _ _ _ (by omega)).mono ?_; rintro r w1 ⟨n, rfl, hn3, hn2, hb1⟩; obtain ⟨hc1, hf1⟩ := bcell hb1; have hz1 : w.heap.size < w1.heap.size := (by (have := hb1.size; simp at this; omega)))
  go_wp2_with (go_at_call 185; refine (partLength_at _ _ _ (by omega)).mono ?_; rintro r w2 ⟨m, rfl, hm3, hm2, hb2⟩; obtain ⟨hc2, hf2⟩ := bcell hb2; have hz2 : w.heap.size < w2.heap.size := (by (have := hb2.size; omega)))
  refine (isInt_at _ _ _ _).mono ?_
  rintro r w3 ⟨ok, rfl, hok, hw3⟩
  have hw3' := hw3.symm
  subst hw3'
  clear hw3
  have HN : Hid (n = spanB digitN (s.data.toList.drop a)) := hn2
  have HM : Hid (m = partLen (s.data.toList.drop (a + n))) := hm2
  have HOK : Hid (ok = intOk ((s.data.toList.drop a).take n)) := hok.out.trans (by rw [Nat.add_sub_cancel_left])
  have HX : Hid (Below w.heap.size w w2) := (HB0.out.trans (hb1.mono (by simp))).trans (hb2.mono (by omega))
  clear hn2 hm2 hok
  by_cases hm : 0 < m
  · have hm4 := hm3 hm
    go_wp2_with (first | (go_at_call 151; refine (parts_at s (a + n + 1 + m) _ (by omega)).mono ?_; rintro r w3 ⟨q, rfl, hq3, hq2, hb3⟩; obtain ⟨hc3, hf3⟩ := bcell hb3; have hz3 : w.heap.size < w3.heap.size := (by (have := hb3.size; omega)); have HX3 : Hid (Below w.heap.size w w3) := (HX.out.trans (hb3.mono (by omega)))))
    · have hsp : numSpec s.data.toList a = .error (12, a) := num_err2 _ a n HN.out (by omega) (byte_is s a ha (by assumption : ((s[a]'ha).toNat : Int) = 48))
      refine (wrong_at _ _ _).mono ?_
      rintro r w5 ⟨b, rfl, hlo, hwr, hb5⟩
      obtain ⟨hc5, hf5⟩ := bcell hb5
      have hz5 : w.heap.size < w5.heap.size := by have := hb5.size; omega
      go_wp2
      refine bodyPost_ret (v := .tuple #[.agg #[.int .i64 0, .string ⟨#[]⟩, .int .i64 0], .int .i64 0, .iface 67 (.pointer (some ⟨b, 0, none⟩))]) (by simp [results, Tryz.results173, go_sem, hz1, hc1, hc2, hz2, hc5]) rfl ?_
      rw [hsp]
      refine .error 12 a b rfl (by omega) (((hwr.setCell ?_ _).setCell ?_ _).setCell ?_ _) ?_
      · show w.heap.size ≠ b; omega
      · show w.heap.size ≠ b; omega
      · show w.heap.size ≠ b; omega
      · exact (((HX.out.trans (hb5.mono (by omega))).setCell (Nat.le_refl _) _).setCell (Nat.le_refl _) _).setCell (Nat.le_refl _) _
    · have hsp : numSpec s.data.toList a = .error (12, a) := by
        have hor : (((s[a]'ha).toNat : Int) == 48) = true ∨ 0 < q := by assumption
        have hq0 : 0 < q := hor.resolve_left (by simpa using (by assumption : ¬ ((s[a]'ha).toNat : Int) = 48))
        exact num_err3 _ a q (by rw [numEnd_eq _ _ n m HN.out HM.out, if_pos hm]; exact hq2.out) hq0
      refine (wrong_at _ _ _).mono ?_
      rintro r w5 ⟨b, rfl, hlo, hwr, hb5⟩
      obtain ⟨hc5, hf5⟩ := bcell hb5
      have hz5 : w.heap.size < w5.heap.size := by have := hb5.size; omega
      go_wp2
      refine bodyPost_ret (v := .tuple #[.agg #[.int .i64 0, .string ⟨#[]⟩, .int .i64 0], .int .i64 0, .iface 67 (.pointer (some ⟨b, 0, none⟩))]) (by simp [results, Tryz.results173, go_sem, hz1, hc1, hc2, hz2, hc3, hz3, hc5]) rfl ?_
      rw [hsp]
      refine .error 12 a b rfl (by omega) (((hwr.setCell ?_ _).setCell ?_ _).setCell ?_ _) ?_
      · show w.heap.size ≠ b; omega
      · show w.heap.size ≠ b; omega
      · show w.heap.size ≠ b; omega
      · exact (((HX3.out.trans (hb5.mono (by omega))).setCell (Nat.le_refl _) _).setCell (Nat.le_refl _) _).setCell (Nat.le_refl _) _
    · have hsp : numSpec s.data.toList a = .ok (5, (s.data.toList.drop a).take (a + n + 1 + m - a), a + n + 1 + m) := by
        have := num_ok s.data.toList a n m q (a + n + 1 + m) HN.out HM.out (by rw [numEnd_eq _ _ n m HN.out HM.out, if_pos hm]) hq2.out (by have hand : (((s[a]'ha).toNat : Int) == 48) = false ∧ ¬ 0 < q := (by assumption); omega) (by rw [if_pos hm]; simp; omega) (fun h => byte_not s a ha (by assumption : ¬ ((s[a]'ha).toNat : Int) = 48) h.2)
        rw [if_pos hm] at this
        exact this
      refine (standing_any _ s a (a + n + 1 + m) _ (by omega) (by omega) hlim).mono ?_
      rintro r w5 ⟨rfl, hb5⟩
      obtain ⟨hc5, hf5⟩ := bcell hb5
      have hz5 : w.heap.size < w5.heap.size := by have := hb5.size; omega
      go_wp2
      refine bodyPost_ret (v := .tuple #[.agg #[.int .i64 5, .string (s.extract a (a + n + 1 + m)), .int .i64 a], .int .i64 ((a : Int) + n + 1 + m), .nilIface]) (by simp [results, Tryz.results173, go_sem, hz1, hc1, hc2, hz2, hc3, hz3, hc5]) rfl ?_
      rw [hsp]
      exact .ok 5 _ _ (by rw [extract_eq]; simp) ((((HX3.out.trans (hb5.mono (by omega))).setCell (Nat.le_refl _) _).setCell (Nat.le_refl _) _).setCell (Nat.le_refl _) _)
    · have hsp : numSpec s.data.toList a = .error (12, a) := num_err3 _ a q (by rw [numEnd_eq _ _ n m HN.out HM.out, if_pos hm]; exact hq2.out) (by omega)
      refine (wrong_at _ _ _).mono ?_
      rintro r w5 ⟨b, rfl, hlo, hwr, hb5⟩
      obtain ⟨hc5, hf5⟩ := bcell hb5
      have hz5 : w.heap.size < w5.heap.size := by have := hb5.size; omega
      go_wp2
      refine bodyPost_ret (v := .tuple #[.agg #[.int .i64 0, .string ⟨#[]⟩, .int .i64 0], .int .i64 0, .iface 67 (.pointer (some ⟨b, 0, none⟩))]) (by simp [results, Tryz.results173, go_sem, hz1, hc1, hc2, hz2, hc3, hz3, hc5]) rfl ?_
      rw [hsp]
      refine .error 12 a b rfl (by omega) (((hwr.setCell ?_ _).setCell ?_ _).setCell ?_ _) ?_
      · show w.heap.size ≠ b; omega
      · show w.heap.size ≠ b; omega
      · show w.heap.size ≠ b; omega
      · exact (((HX3.out.trans (hb5.mono (by omega))).setCell (Nat.le_refl _) _).setCell (Nat.le_refl _) _).setCell (Nat.le_refl _) _
    · have hsp : numSpec s.data.toList a = .ok (5, (s.data.toList.drop a).take (a + n + 1 + m - a), a + n + 1 + m) := by
        have := num_ok s.data.toList a n m q (a + n + 1 + m) HN.out HM.out (by rw [numEnd_eq _ _ n m HN.out HM.out, if_pos hm]) hq2.out (by omega) (by rw [if_pos hm]; simp; omega) (fun h => by omega)
        rw [if_pos hm] at this
        exact this
      refine (standing_any _ s a (a + n + 1 + m) _ (by omega) (by omega) hlim).mono ?_
      rintro r w5 ⟨rfl, hb5⟩
      obtain ⟨hc5, hf5⟩ := bcell hb5
      have hz5 : w.heap.size < w5.heap.size := by have := hb5.size; omega
      go_wp2
      refine bodyPost_ret (v := .tuple #[.agg #[.int .i64 5, .string (s.extract a (a + n + 1 + m)), .int .i64 a], .int .i64 ((a : Int) + n + 1 + m), .nilIface]) (by simp [results, Tryz.results173, go_sem, hz1, hc1, hc2, hz2, hc3, hz3, hc5]) rfl ?_
      rw [hsp]
      exact .ok 5 _ _ (by rw [extract_eq]; simp) ((((HX3.out.trans (hb5.mono (by omega))).setCell (Nat.le_refl _) _).setCell (Nat.le_refl _) _).setCell (Nat.le_refl _) _)
    · have hsp : numSpec s.data.toList a = .error (12, a) := num_err1 _ a n m HN.out HM.out (by rw [if_pos hm]; simp; omega)
      refine (wrong_at _ _ _).mono ?_
      rintro r w5 ⟨b, rfl, hlo, hwr, hb5⟩
      obtain ⟨hc5, hf5⟩ := bcell hb5
      have hz5 : w.heap.size < w5.heap.size := by have := hb5.size; omega
      go_wp2
      refine bodyPost_ret (v := .tuple #[.agg #[.int .i64 0, .string ⟨#[]⟩, .int .i64 0], .int .i64 0, .iface 67 (.pointer (some ⟨b, 0, none⟩))]) (by simp [results, Tryz.results173, go_sem, hz1, hc1, hc2, hz2, hc5]) rfl ?_
      rw [hsp]
      refine .error 12 a b rfl (by omega) (((hwr.setCell ?_ _).setCell ?_ _).setCell ?_ _) ?_
      · show w.heap.size ≠ b; omega
      · show w.heap.size ≠ b; omega
      · show w.heap.size ≠ b; omega
      · exact (((HX.out.trans (hb5.mono (by omega))).setCell (Nat.le_refl _) _).setCell (Nat.le_refl _) _).setCell (Nat.le_refl _) _
  · go_wp2_with (first | (go_at_call 151; refine (parts_at s (a + n) _ (by omega)).mono ?_; rintro r w3 ⟨q, rfl, hq3, hq2, hb3⟩; obtain ⟨hc3, hf3⟩ := bcell hb3; have hz3 : w.heap.size < w3.heap.size := (by (have := hb3.size; omega)); have HX3 : Hid (Below w.heap.size w w3) := (HX.out.trans (hb3.mono (by omega)))))
    · have hsp : numSpec s.data.toList a = .error (12, a) := num_err2 _ a n HN.out (by omega) (byte_is s a ha (by assumption : ((s[a]'ha).toNat : Int) = 48))
      refine (wrong_at _ _ _).mono ?_
      rintro r w5 ⟨b, rfl, hlo, hwr, hb5⟩
      obtain ⟨hc5, hf5⟩ := bcell hb5
      have hz5 : w.heap.size < w5.heap.size := by have := hb5.size; omega
      go_wp2
      refine bodyPost_ret (v := .tuple #[.agg #[.int .i64 0, .string ⟨#[]⟩, .int .i64 0], .int .i64 0, .iface 67 (.pointer (some ⟨b, 0, none⟩))]) (by simp [results, Tryz.results173, go_sem, hz1, hc1, hc2, hz2, hc5]) rfl ?_
      rw [hsp]
      refine .error 12 a b rfl (by omega) (((hwr.setCell ?_ _).setCell ?_ _).setCell ?_ _) ?_
      · show w.heap.size ≠ b; omega
      · show w.heap.size ≠ b; omega
      · show w.heap.size ≠ b; omega
      · exact (((HX.out.trans (hb5.mono (by omega))).setCell (Nat.le_refl _) _).setCell (Nat.le_refl _) _).setCell (Nat.le_refl _) _
    · have hsp : numSpec s.data.toList a = .error (12, a) := by
        have hor : (((s[a]'ha).toNat : Int) == 48) = true ∨ 0 < q := by assumption
        have hq0 : 0 < q := hor.resolve_left (by simpa using (by assumption : ¬ ((s[a]'ha).toNat : Int) = 48))
        exact num_err3 _ a q (by rw [numEnd_eq _ _ n m HN.out HM.out, if_neg hm]; exact hq2.out) hq0
      refine (wrong_at _ _ _).mono ?_
      rintro r w5 ⟨b, rfl, hlo, hwr, hb5⟩
      obtain ⟨hc5, hf5⟩ := bcell hb5
      have hz5 : w.heap.size < w5.heap.size := by have := hb5.size; omega
      go_wp2
      refine bodyPost_ret (v := .tuple #[.agg #[.int .i64 0, .string ⟨#[]⟩, .int .i64 0], .int .i64 0, .iface 67 (.pointer (some ⟨b, 0, none⟩))]) (by simp [results, Tryz.results173, go_sem, hz1, hc1, hc2, hz2, hc3, hz3, hc5]) rfl ?_
      rw [hsp]
      refine .error 12 a b rfl (by omega) (((hwr.setCell ?_ _).setCell ?_ _).setCell ?_ _) ?_
      · show w.heap.size ≠ b; omega
      · show w.heap.size ≠ b; omega
      · show w.heap.size ≠ b; omega
      · exact (((HX3.out.trans (hb5.mono (by omega))).setCell (Nat.le_refl _) _).setCell (Nat.le_refl _) _).setCell (Nat.le_refl _) _
    · have hsp : numSpec s.data.toList a = .ok (4, (s.data.toList.drop a).take (a + n - a), a + n) := by
        have := num_ok s.data.toList a n m q (a + n) HN.out HM.out (by rw [numEnd_eq _ _ n m HN.out HM.out, if_neg hm]) hq2.out (by have hand : (((s[a]'ha).toNat : Int) == 48) = false ∧ ¬ 0 < q := (by assumption); omega) (by rw [if_neg hm]; exact HOK.out.symm.trans (by assumption)) (fun h => byte_not s a ha (by assumption : ¬ ((s[a]'ha).toNat : Int) = 48) h.2)
        rw [if_neg hm] at this
        exact this
      refine (standing_any _ s a (a + n) _ (by omega) (by omega) hlim).mono ?_
      rintro r w5 ⟨rfl, hb5⟩
      obtain ⟨hc5, hf5⟩ := bcell hb5
      have hz5 : w.heap.size < w5.heap.size := by have := hb5.size; omega
      go_wp2
      refine bodyPost_ret (v := .tuple #[.agg #[.int .i64 4, .string (s.extract a (a + n)), .int .i64 a], .int .i64 ((a : Int) + n), .nilIface]) (by simp [results, Tryz.results173, go_sem, hz1, hc1, hc2, hz2, hc3, hz3, hc5]) rfl ?_
      rw [hsp]
      exact .ok 4 _ _ (by rw [extract_eq]; simp) ((((HX3.out.trans (hb5.mono (by omega))).setCell (Nat.le_refl _) _).setCell (Nat.le_refl _) _).setCell (Nat.le_refl _) _)
    · have hsp : numSpec s.data.toList a = .error (12, a) := num_err3 _ a q (by rw [numEnd_eq _ _ n m HN.out HM.out, if_neg hm]; exact hq2.out) (by omega)
      refine (wrong_at _ _ _).mono ?_
      rintro r w5 ⟨b, rfl, hlo, hwr, hb5⟩
      obtain ⟨hc5, hf5⟩ := bcell hb5
      have hz5 : w.heap.size < w5.heap.size := by have := hb5.size; omega
      go_wp2
      refine bodyPost_ret (v := .tuple #[.agg #[.int .i64 0, .string ⟨#[]⟩, .int .i64 0], .int .i64 0, .iface 67 (.pointer (some ⟨b, 0, none⟩))]) (by simp [results, Tryz.results173, go_sem, hz1, hc1, hc2, hz2, hc3, hz3, hc5]) rfl ?_
      rw [hsp]
      refine .error 12 a b rfl (by omega) (((hwr.setCell ?_ _).setCell ?_ _).setCell ?_ _) ?_
      · show w.heap.size ≠ b; omega
      · show w.heap.size ≠ b; omega
      · show w.heap.size ≠ b; omega
      · exact (((HX3.out.trans (hb5.mono (by omega))).setCell (Nat.le_refl _) _).setCell (Nat.le_refl _) _).setCell (Nat.le_refl _) _
    · have hsp : numSpec s.data.toList a = .ok (4, (s.data.toList.drop a).take (a + n - a), a + n) := by
        have := num_ok s.data.toList a n m q (a + n) HN.out HM.out (by rw [numEnd_eq _ _ n m HN.out HM.out, if_neg hm]) hq2.out (by omega) (by rw [if_neg hm]; exact HOK.out.symm.trans (by assumption)) (fun h => by omega)
        rw [if_neg hm] at this
        exact this
      refine (standing_any _ s a (a + n) _ (by omega) (by omega) hlim).mono ?_
      rintro r w5 ⟨rfl, hb5⟩
      obtain ⟨hc5, hf5⟩ := bcell hb5
      have hz5 : w.heap.size < w5.heap.size := by have := hb5.size; omega
      go_wp2
      refine bodyPost_ret (v := .tuple #[.agg #[.int .i64 4, .string (s.extract a (a + n)), .int .i64 a], .int .i64 ((a : Int) + n), .nilIface]) (by simp [results, Tryz.results173, go_sem, hz1, hc1, hc2, hz2, hc3, hz3, hc5]) rfl ?_
      rw [hsp]
      exact .ok 4 _ _ (by rw [extract_eq]; simp) ((((HX3.out.trans (hb5.mono (by omega))).setCell (Nat.le_refl _) _).setCell (Nat.le_refl _) _).setCell (Nat.le_refl _) _)
    · have hsp : numSpec s.data.toList a = .error (12, a) := num_err1 _ a n m HN.out HM.out (by rw [if_neg hm]; exact HOK.out.symm.trans (by simpa using (by assumption : ¬ ok = true)))
      refine (wrong_at _ _ _).mono ?_
      rintro r w5 ⟨b, rfl, hlo, hwr, hb5⟩
      obtain ⟨hc5, hf5⟩ := bcell hb5
      have hz5 : w.heap.size < w5.heap.size := by have := hb5.size; omega
      go_wp2
      refine bodyPost_ret (v := .tuple #[.agg #[.int .i64 0, .string ⟨#[]⟩, .int .i64 0], .int .i64 0, .iface 67 (.pointer (some ⟨b, 0, none⟩))]) (by simp [results, Tryz.results173, go_sem, hz1, hc1, hc2, hz2, hc5]) rfl ?_
      rw [hsp]
      refine .error 12 a b rfl (by omega) (((hwr.setCell ?_ _).setCell ?_ _).setCell ?_ _) ?_
      · show w.heap.size ≠ b; omega
      · show w.heap.size ≠ b; omega
      · show w.heap.size ≠ b; omega
      · exact (((HX.out.trans (hb5.mono (by omega))).setCell (Nat.le_refl _) _).setCell (Nat.le_refl _) _).setCell (Nat.le_refl _) _
end Go.Proofs.YthbnegggohegkaaGreatDoor
