/-
  The walk of the document's own number; a plain fact on a number's end: what stands right behind it, if it is of a name, is a letter.
-/
import Derived.Test.YtnpiicceafgioaaDoorRA
namespace Go.Proofs.YtnpiicceafgioaaDoor
open Go.RowKit

theorem num_tail (l : Bytes) (a : Nat) (ha : a < l.length) : decide (0 < spanB partN (l.drop (numEnd l a))) = (decide (numEnd l a < l.length) && letterN (l.getD (numEnd l a) 0).toNat) := by
  have hnd : numEnd l a < l.length → digitN (l.getD (numEnd l a) 0).toNat = false := by
    intro h
    have hn := spanB_le digitN (l.drop a)
    simp at hn
    by_cases hm : 0 < partLen (l.drop (a + spanB digitN (l.drop a)))
    · have e : numEnd l a = a + spanB digitN (l.drop a) + 1 + partLen (l.drop (a + spanB digitN (l.drop a))) := if_pos hm
      have hdot : partLen (l.drop (a + spanB digitN (l.drop a))) = spanB digitN ((l.drop (a + spanB digitN (l.drop a))).drop 1) := by
        by_cases hh : (l.drop (a + spanB digitN (l.drop a))).head? = some 46
        · exact partLen_dot _ hh
        · rw [partLen_not _ hh] at hm; omega
      rw [List.drop_drop] at hdot
      have := spanB_next digitN (l.drop (a + spanB digitN (l.drop a) + 1)) (by rw [← hdot]; simp; omega)
      rw [getD_drop, ← hdot, ← e] at this
      exact this
    · have e : numEnd l a = a + spanB digitN (l.drop a) := if_neg hm
      have := spanB_next digitN (l.drop a) (by simp; omega)
      rw [getD_drop, ← e] at this
      exact this
  by_cases h : numEnd l a < l.length
  · have hd := hnd h
    rw [decide_eq_true h, Bool.true_and]
    have hdr : l.drop (numEnd l a) = l.getD (numEnd l a) 0 :: l.drop (numEnd l a + 1) := by
      rw [List.drop_eq_getElem_cons h, List.getD_eq_getElem?_getD, List.getElem?_eq_getElem h]; rfl
    rw [hdr, spanB_cons]
    have hp : partN (l.getD (numEnd l a) 0).toNat = letterN (l.getD (numEnd l a) 0).toNat := by rw [partN, hd, Bool.or_false]
    rw [hp]
    cases letterN (l.getD (numEnd l a) 0).toNat with
    | true => simp
    | false => simp
  · rw [decide_eq_false h, Bool.false_and, List.drop_of_length_le (by omega), spanB_nil]; rfl

def numKind (l : Bytes) (a : Nat) : Nat := if 0 < partLen (l.drop (a + spanB digitN (l.drop a))) then 5 else 4

theorem bad_iff (l : Bytes) (a n m : Nat) (ha : a < l.length) (hn : n = spanB digitN (l.drop a)) (hm : m = partLen (l.drop (a + n))) :
    numBad l a = true ↔ ((if 0 < m then decide (n + m ≤ 15) else intOk ((l.drop a).take n)) = false ∨ (1 < n ∧ l[a]? = some 48) ∨ (numEnd l a < l.length ∧ letterN (l.getD (numEnd l a) 0).toNat = true)) := by
  subst hn; subst hm
  unfold numBad
  simp only
  rw [num_tail l a ha]
  simp [or_assoc]

theorem part_dot (l : Bytes) (k : Nat) (h : k < l.length) (h46 : (l.getD k 0).toNat = 46) : partLen (l.drop k) = spanB digitN (l.drop (k + 1)) := by
  have hd : l.drop k = l.getD k 0 :: l.drop (k + 1) := by
    rw [List.drop_eq_getElem_cons h, List.getD_eq_getElem?_getD, List.getElem?_eq_getElem h]; rfl
  have hb : l.getD k 0 = 46 := UInt8.toNat_inj.1 h46
  rw [partLen_dot _ (by rw [hd, hb]; rfl), List.drop_drop]
theorem part_none (l : Bytes) (k : Nat) (h : k < l.length → (l.getD k 0).toNat ≠ 46) : partLen (l.drop k) = 0 := by
  by_cases hk : k < l.length
  · have hd : l.drop k = l.getD k 0 :: l.drop (k + 1) := by
      rw [List.drop_eq_getElem_cons hk, List.getD_eq_getElem?_getD, List.getElem?_eq_getElem hk]; rfl
    refine partLen_not _ ?_
    rw [hd]
    simp only [List.head?_cons, ne_eq, Option.some.injEq]
    intro e
    exact h hk (by rw [e]; rfl)
  · rw [List.drop_of_length_le (by omega)]; rfl

set_option maxHeartbeats 2000000 in
theorem refNumber_float (s : ByteArray) (a n m : Nat) (w : World) (ha : a < s.size) (hlim : s.size ≤ 60000) (K E : Nat) (B L : Bool)
    (hn : n = spanB digitN (s.data.toList.drop a)) (hdot : a + n < s.size) (h46 : (s[a + n]'hdot).toNat = 46) (hm : m = spanB digitN (s.data.toList.drop (a + n + 1))) (h0 : 0 < m) (hfit : a + n + 1 + m ≤ s.size)
    (hK : K = 5) (hE : E = a + (n + 1 + m)) (hL : ∀ h : a + (n + 1 + m) < s.size, letterN (s[a + (n + 1 + m)]'h).toNat = L) (hL' : s.size ≤ a + (n + 1 + m) → L = false)
    (hB : B = (decide (15 < n + m) || (decide (1 < n) && decide ((s[a]'ha).toNat = 48)) || L)) :
    Calls Tryd.prog 46 #[.string s, .int .i64 a] w fun e w' => e = .returned (.tuple #[.agg #[.int .i64 K, .string (s.extract a E), .int .i64 a], .bool B]) ∧ Below w.heap.size w w' := by
  have HN : Hid (n = spanB digitN (s.data.toList.drop a)) := hn
  have HM : Hid (m = spanB digitN (s.data.toList.drop (a + n + 1))) := hm
  have HL : Hid (∀ h : a + (n + 1 + m) < s.size, letterN (s[a + (n + 1 + m)]'h).toNat = L) := hL
  have HL' : Hid (s.size ≤ a + (n + 1 + m) → L = false) := hL'
  have HB : Hid (B = (decide (15 < n + m) || (decide (1 < n) && decide ((s[a]'ha).toNat = 48)) || L)) := hB
  have HE : Hid (E = a + (n + 1 + m)) := hE
  have HK : Hid (K = 5) := hK
  have t46 : (((s[a + n]'hdot).toNat : Int) == 46) = true := by rw [h46]; rfl
  have i1 : (a : Int) + n < s.size := by omega
  clear hn hm h46 hL hL' hB hE hK
  go_enter Tryd.func46, Tryd.ntmps46
  go_wp2_with fail
  refine (refRun_digits s a _ (by omega) hlim).mono ?_
  rintro r w1 ⟨n', rfl, hn3, hn2, hw1⟩
  have hw1' := hw1.symm
  subst hw1'
  clear hw1
  have hnn : n' = n := hn2.out.trans HN.out.symm
  subst hnn
  clear hn2
  go_wp2_with fail
  all_goals
    have hr := refRun_digits s (a + n' + 1) ((w.alloc (.cells #[.int .i64 0, .string ⟨#[]⟩, .int .i64 0] 48)).alloc (.cells #[.int .i64 4, .string ⟨#[]⟩, .int .i64 a] 48)) (by omega) hlim
    rw [show ((a + n' + 1 : Nat) : Int) = (a : Int) + n' + 1 by omega] at hr
    refine hr.mono ?_
    clear hr
    rintro r w1 ⟨m', rfl, hm3, hm2, hw1⟩
    have hw1' := hw1.symm
    subst hw1'
    clear hw1
    have hmm : m' = m := hm2.out.trans HM.out.symm
    subst hmm
    clear hm2
    have h0' : (0 : Int) < m' := by omega
    go_wp2_with (first | (go_at_call 42; refine (refLetter_any _ _).mono ?_; rintro e w' ⟨rfl, rfl⟩))
  all_goals
    have hK := HK.out
    have hE := HE.out
    have hb : B = _ := HB.out
    subst hK
    subst hE
    clear HK HE HB HN HM
  all_goals first
    | (have l1 : L = true := (HL.out (by omega)).symm.trans (by assumption)
       have e : B = true := by rw [hb, l1]; simp
       subst e
       refine bodyPost_ret (v := .tuple #[.agg #[.int .i64 5, .string (s.extract a (a + (n' + 1 + m'))), .int .i64 a], .bool true]) (by simp [results, Tryd.results46, go_sem]) rfl ⟨rfl, ?_⟩
       exact ((Below.refl _ _).alloc (Nat.le_refl _) _).alloc (by simp) _)
    | (have z : ((s[a]'ha).toNat : Int) = 48 := by assumption
       have z' : (s[a]'ha).toNat = 48 := by omega
       have o : 1 < n' := by omega
       have e : B = true := by rw [hb]; simp [o, z']
       subst e
       refine bodyPost_ret (v := .tuple #[.agg #[.int .i64 5, .string (s.extract a (a + (n' + 1 + m'))), .int .i64 a], .bool true]) (by simp [results, Tryd.results46, go_sem]) rfl ⟨rfl, ?_⟩
       exact ((Below.refl _ _).alloc (Nat.le_refl _) _).alloc (by simp) _)
    | (
       have l0 : L = false := by first | exact HL'.out (by omega) | exact (HL.out (by omega)).symm.trans (by assumption)
       have e : B = decide (15 < (n' : Int) + m') := by
         rw [hb, l0, Bool.or_false]
         have d : (decide (1 < n') && decide ((s[a]'ha).toNat = 48)) = false := by
           simp only [Bool.and_eq_false_iff, decide_eq_false_iff_not]
           omega
         rw [d, Bool.or_false, decide_eq_decide]
         omega
       clear hb
       subst e
       refine bodyPost_ret (v := .tuple #[.agg #[.int .i64 5, .string (s.extract a (a + (n' + 1 + m'))), .int .i64 a], .bool (decide (15 < (n' : Int) + m'))]) (by simp [results, Tryd.results46, go_sem]; try simp [*]) rfl ⟨rfl, ?_⟩
       exact ((Below.refl _ _).alloc (Nat.le_refl _) _).alloc (by simp) _)

set_option maxHeartbeats 4000000 in
theorem refNumber_int (s : ByteArray) (a n : Nat) (w : World) (ha : a < s.size) (hlim : s.size ≤ 60000) (K E : Nat) (A B L : Bool)
    (hn : n = spanB digitN (s.data.toList.drop a)) (hm : ∀ h : a + n < s.size, (s[a + n]'h).toNat = 46 → spanB digitN (s.data.toList.drop (a + n + 1)) = 0)
    (hK : K = 4) (hE : E = a + n) (hA : A = !intOk (s.extract a (a + n)).data.toList) (hL : ∀ h : a + n < s.size, letterN (s[a + n]'h).toNat = L) (hL' : s.size ≤ a + n → L = false)
    (hB : B = (A || (decide (1 < n) && decide ((s[a]'ha).toNat = 48)) || L)) :
    Calls Tryd.prog 46 #[.string s, .int .i64 a] w fun e w' => e = .returned (.tuple #[.agg #[.int .i64 K, .string (s.extract a E), .int .i64 a], .bool B]) ∧ Below w.heap.size w w' := by
  have HN : Hid (n = spanB digitN (s.data.toList.drop a)) := hn
  have HM : Hid (∀ h : a + n < s.size, (s[a + n]'h).toNat = 46 → spanB digitN (s.data.toList.drop (a + n + 1)) = 0) := hm
  have HA : Hid (A = !intOk (s.extract a (a + n)).data.toList) := hA
  have HL : Hid (∀ h : a + n < s.size, letterN (s[a + n]'h).toNat = L) := hL
  have HL' : Hid (s.size ≤ a + n → L = false) := hL'
  have HB : Hid (B = (A || (decide (1 < n) && decide ((s[a]'ha).toNat = 48)) || L)) := hB
  have HE : Hid (E = a + n) := hE
  have HK : Hid (K = 4) := hK
  clear hn hm hL hL' hB hE hK hA
  go_enter Tryd.func46, Tryd.ntmps46
  go_wp2_with fail
  refine (refRun_digits s a _ (by omega) hlim).mono ?_
  rintro r w1 ⟨n', rfl, hn3, hn2, hw1⟩
  have hw1' := hw1.symm
  subst hw1'
  clear hw1
  have hnn : n' = n := hn2.out.trans HN.out.symm
  subst hnn
  clear hn2
  go_wp2_with fail
  all_goals try
    (have t : (((s[a + n']'(by omega)).toNat : Int) == 46) = true := by assumption
     have t' := eq_of_beq t
     have hr := refRun_digits s (a + n' + 1) ((w.alloc (.cells #[.int .i64 0, .string ⟨#[]⟩, .int .i64 0] 48)).alloc (.cells #[.int .i64 4, .string ⟨#[]⟩, .int .i64 a] 48)) (by omega) hlim
     rw [show ((a + n' + 1 : Nat) : Int) = (a : Int) + n' + 1 by omega] at hr
     refine hr.mono ?_
     clear hr
     rintro r w1 ⟨m', rfl, hm3, hm2, hw1⟩
     have hw1' := hw1.symm
     subst hw1'
     clear hw1
     have hmm : m' = 0 := hm2.out.trans (HM.out (by omega) (by omega))
     subst hmm
     clear hm2 t'
     go_wp2_with fail)
  all_goals try (refine (refAbove_any _ _).mono ?_; rintro e w' ⟨b, rfl, HAb, hw2⟩; have hw2' := hw2.symm; subst hw2'; clear hw2; go_wp2_with fail)
  all_goals try (refine (refLetter_any _ _).mono ?_; rintro e w' ⟨rfl, hw3⟩; have hw3' := hw3.symm; subst hw3'; clear hw3; go_wp2_with fail)
  all_goals
    have hK := HK.out
    have hE := HE.out
    have hb : B = _ := HB.out
    subst hK
    subst hE
    clear HK HE HB HN HM
  all_goals try
    (have l1 : L = true := (HL.out (by omega)).symm.trans (by assumption)
     have e : B = true := by rw [hb, l1]; simp
     subst e
     refine bodyPost_ret (v := .tuple #[.agg #[.int .i64 4, .string (s.extract a (a + n')), .int .i64 a], .bool true]) (by simp [results, Tryd.results46, go_sem]) rfl ⟨rfl, ?_⟩
     exact ((Below.refl _ _).alloc (Nat.le_refl _) _).alloc (by simp) _)
  all_goals try
    (have z : ((s[a]'ha).toNat : Int) = 48 := by assumption
     have z' : (s[a]'ha).toNat = 48 := by omega
     have o : 1 < n' := by omega
     have e : B = true := by rw [hb]; simp [o, z']
     subst e
     refine bodyPost_ret (v := .tuple #[.agg #[.int .i64 4, .string (s.extract a (a + n')), .int .i64 a], .bool true]) (by simp [results, Tryd.results46, go_sem]) rfl ⟨rfl, ?_⟩
     exact ((Below.refl _ _).alloc (Nat.le_refl _) _).alloc (by simp) _)
  all_goals
    (have l0 : L = false := by first | exact HL'.out (by omega) | exact (HL.out (by omega)).symm.trans (by assumption)
     have e : B = b := by
       rw [hb, l0, Bool.or_false, HA.out, ← HAb.out]
       have d : (decide (1 < n') && decide ((s[a]'ha).toNat = 48)) = false := by
         simp only [Bool.and_eq_false_iff, decide_eq_false_iff_not]
         omega
       rw [d, Bool.or_false]
     clear hb HAb
     subst e
     refine bodyPost_ret (v := .tuple #[.agg #[.int .i64 4, .string (s.extract a (a + n')), .int .i64 a], .bool B]) (by simp [results, Tryd.results46, go_sem]; try simp [*]) rfl ⟨rfl, ?_⟩
     exact ((Below.refl _ _).alloc (Nat.le_refl _) _).alloc (by simp) _)
end Go.Proofs.YtnpiicceafgioaaDoor
