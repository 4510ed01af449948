/-
  The walks of the document's own Words, Word, letter, digit and Name, and of lex.Words.
-/
import Derived.Test.YtnpiicceafgioaaDoorN
namespace Go.Proofs.YtnpiicceafgioaaDoor
open Go.RowKit

def wordVals : List Value := wordTab.map fun x => .string ⟨x.1.toArray⟩
theorem wordVals_length : wordVals.length = 22 := rfl
theorem wordVals_get (k : Nat) (h : k < 22) : wordVals[k]? = some (.string (wordS k)) := by
  have : ∀ k, k < 22 → (wordTab.map fun x => x.1)[k]? = some (wordL k) := by decide
  have h2 := this k h
  rw [wordVals, List.getElem?_map]
  rw [List.getElem?_map] at h2
  cases h3 : wordTab[k]? with
  | none => rw [h3] at h2; simp at h2
  | some x => rw [h3] at h2; simp at h2; simp [wordS, ← h2]

set_option maxHeartbeats 1000000 in
theorem refWords_any (w : World) :
    Calls Tryd.prog 20 #[] w fun e w' => e = .returned (.slice (some ⟨w.heap.size, 0, none⟩) 22 22) ∧ w'.ownsRow w.heap.size 9 1 (.slice (some ⟨w.heap.size, 0, none⟩) 22 22) 22 wordVals ∧ Below w.heap.size w w' := by
  go_enter Tryd.func20, Tryd.ntmps20
  go_wp2
  go_ret
  refine ⟨rfl, ?_, (Below.refl _ _).alloc (Nat.le_refl _) _⟩
  exact World.ownsRow_lit w _ 22 (Nat.le_refl _) (by unfold maxLen; omega) rfl

set_option maxHeartbeats 1000000 in
theorem refWord_any (s : ByteArray) (w : World) :
    Calls Tryd.prog 24 #[.string s] w fun e w' => e = .returned (.bool (isWord s.data.toList)) ∧ Below w.heap.size w w' := by
  rw [← ByteArray.toList_eq]
  go_enter Tryd.func24, Tryd.ntmps24
  go_wp2_with (go_at_call 20; refine (refWords_any _).mono ?_; rintro r w1 ⟨rfl, hown, hb⟩)
  go_loopw [4] (fun i wr => ∃ k : Nat, k ≤ 22 ∧ i = .int .i64 k ∧ wr = w1 ∧ ∀ j, j < k → wordL j ≠ s.toList) (fun i _ => 22 - (intOf i).toNat)
  case atStart => exact ⟨0, Nat.zero_le _, rfl, rfl, fun j hj => by omega⟩
  case round =>
    obtain ⟨k, hk, rfl, rfl, hno⟩ := hrel
    by_cases hlt : k < 22
    · have h1 := (hown.cellAt k (by omega)).trans (wordVals_get k hlt)
      have HN : Hid (∀ j, j < k → wordL j ≠ s.toList) := hno
      clear hno
      go_wp2
      · have hq : ((wordS k).toList == s.toList) = true := by assumption
        go_ret
        rw [wordS_toList] at hq
        exact ⟨congrArg (fun b => Ending.returned (.bool b)) (isWord_of s.toList k hlt (by simpa using hq)).symm, hb⟩
      · have hq : ((wordS k).toList == s.toList) = false := by assumption
        rw [wordS_toList] at hq
        go_roundw
        case rel => exact ⟨k + 1, by omega, by go_num, by first | trivial | rfl, fun j hj => if e : j = k then by subst e; simpa using hq else HN.out j (by omega)⟩
        case measure => simp [intOf]; omega
    · go_wp2
      go_ret
      exact ⟨congrArg (fun b => Ending.returned (.bool b)) (isWord_not s.toList (fun j hj => hno j (by omega))).symm, hb⟩

set_option maxHeartbeats 400000 in
theorem refLetter_any (n : Nat) (w : World) :
    Calls Tryd.prog 42 #[.int .u8 n] w fun e w' => e = .returned (.bool (letterN n)) ∧ w' = w := by
  go_enter Tryd.func42, Tryd.ntmps42
  go_wp2
  all_goals go_ret
  all_goals refine ⟨congrArg (fun b => Ending.returned (.bool b)) ?_, rfl⟩
  all_goals (rw [Bool.eq_iff_iff]; simp [letterN]; omega)

set_option maxHeartbeats 400000 in
theorem refDigit_any (n : Nat) (w : World) :
    Calls Tryd.prog 43 #[.int .u8 n] w fun e w' => e = .returned (.bool (digitN n)) ∧ w' = w := by
  go_enter Tryd.func43, Tryd.ntmps43
  go_wp2
  all_goals go_ret
  all_goals refine ⟨congrArg (fun b => Ending.returned (.bool b)) ?_, rfl⟩
  all_goals (rw [Bool.eq_iff_iff]; simp [digitN]; omega)

theorem span_all_of (q : Nat → Bool) (l : Bytes) (h : ∀ j, j < l.length → q (l.getD j 0).toNat = true) : spanB q l = l.length := by
  refine spanB_all q l fun b hb => ?_
  obtain ⟨j, hj, rfl⟩ := List.mem_iff_getElem.1 hb
  have := h j hj
  rw [List.getD_eq_getElem?_getD, List.getElem?_eq_getElem hj] at this
  exact this
theorem span_not_of (q : Nat → Bool) (l : Bytes) (j : Nat) (hj : j < l.length) (h : q (l.getD j 0).toNat = false) : spanB q l ≠ l.length := by
  intro e
  have := spanB_mem q l j (by omega)
  rw [h] at this
  cases this

theorem refWord_at (s : ByteArray) (w : World) :
    Calls Tryd.prog 24 #[.string s] w fun e w' => ∃ b : Bool, e = .returned (.bool b) ∧ Hid (b = isWord s.data.toList) ∧ Below w.heap.size w w' :=
  (refWord_any s w).mono fun _ _ ⟨he, hb⟩ => ⟨_, he, rfl, hb⟩

set_option maxHeartbeats 1000000 in
theorem refName_any (s : ByteArray) (w : World) :
    Calls Tryd.prog 25 #[.string s] w fun e w' => e = .returned (.bool (isName s.data.toList)) ∧ Below w.heap.size w w' := by
  by_cases h0 : s.size = 0
  · obtain rfl := empty_toList s h0
    go_enter Tryd.func25, Tryd.ntmps25
    go_wp2
    go_ret
    exact ⟨rfl, Below.refl _ _⟩
  have hp : 0 < s.size := by omega
  have hne : s.toList.isEmpty = false := by rw [ByteArray.toList_eq]; cases h : s.data.toList with | nil => exact absurd (by rw [Lib.size_eq, h]; rfl) h0 | cons b r => rfl
  have hnl : s.data.toList ≠ [] := fun h => h0 (by rw [Lib.size_eq, h]; rfl)
  obtain ⟨L, hL⟩ : ∃ L, L = s.data.toList := ⟨_, rfl⟩
  have hLs : L.length = s.size := by rw [hL]; simp
  have HL : Hid (L = s.data.toList) := hL
  rw [← hL] at hnl ⊢
  clear hL
  have HN : Hid (isName L = (decide (s.size ≤ 40) && !isWord L && letterN (L.getD 0 0).toNat && decide (spanB partN L = s.size))) := by
    show _ = _; rw [isName, decide_eq_true hnl, hLs, Bool.true_and]
  have HB : Hid (∀ k, (h : k < s.size) → s[k]'h = L.getD k 0) := fun k h => by rw [HL.out, getD_byte s k h]
  clear hnl
  obtain ⟨nm, hnm⟩ : ∃ nm, nm = isName L := ⟨_, rfl⟩
  rw [← hnm] at HN ⊢
  clear hnm
  by_cases h40 : 40 < s.size
  · go_enter Tryd.func25, Tryd.ntmps25
    go_wp2
    go_ret
    refine ⟨congrArg (fun b => Ending.returned (.bool b)) ?_, Below.refl _ _⟩
    rw [HN.out, decide_eq_false (by omega)]; simp
  have hix : (0 : Int) < (s.size : Int) := by omega
  cases hlt : letterN (s[0]'hp).toNat with
  | false =>
    have HLT : Hid (letterN (L.getD 0 0).toNat = false) := by show _ = _; rw [← HB.out 0 hp]; exact hlt
    go_enter Tryd.func25, Tryd.ntmps25
    go_wp2_with (go_at_call 42; refine (refLetter_any _ _).mono ?_; rintro r w1 ⟨rfl, rfl⟩)
    go_ret
    refine ⟨congrArg (fun b => Ending.returned (.bool b)) ?_, Below.refl _ _⟩
    rw [HN.out, HLT.out]; simp
  | true =>
    have HLT : Hid (letterN (L.getD 0 0).toNat = true) := by show _ = _; rw [← HB.out 0 hp]; exact hlt
    go_enter Tryd.func25, Tryd.ntmps25
    go_wp2_with (go_at_call 42; refine (refLetter_any _ _).mono ?_; rintro r w1 ⟨rfl, rfl⟩)
    clear hlt
    go_loop [4] (fun i => ∃ k : Nat, 1 ≤ k ∧ k ≤ s.size ∧ i = .int .i64 k ∧ Hid (∀ j, j < k → partN (L.getD j 0).toNat = true)) (fun i => s.size - (intOf i).toNat)
    case atStart => exact ⟨1, Nat.le_refl _, by omega, rfl, fun j hj => by obtain rfl : j = 0 := (by omega); unfold partN; rw [HLT.out]; rfl⟩
    case round =>
      obtain ⟨k, hk1, hk, rfl, HA⟩ := hrel
      by_cases hlt : k < s.size
      · have HK : Hid (s[k]'hlt = L.getD k 0) := HB.out k hlt
        go_wp2_with (first | (go_at_call 42; refine (refLetter_any _ _).mono ?_; rintro r w1 ⟨rfl, rfl⟩) | (go_at_call 43; refine (refDigit_any _ _).mono ?_; rintro r w1 ⟨rfl, rfl⟩))
        · have hq : letterN (s[k]'hlt).toNat = true := by assumption
          rw [HK.out] at hq
          go_round
          case rel => exact ⟨k + 1, by omega, by omega, by go_num, fun j hj => if e : j = k then by subst e; unfold partN; rw [hq]; rfl else HA.out j (by omega)⟩
          case measure => simp [intOf]; omega
        · have hq1 : ¬ letterN (s[k]'hlt).toNat = true := by assumption
          have hq2 : (!digitN (s[k]'hlt).toNat) = true := by assumption
          rw [HK.out] at hq1 hq2
          have hpn : partN (L.getD k 0).toNat = false := by
            unfold partN
            rw [Bool.not_eq_true] at hq1
            rw [hq1]
            simpa using hq2
          go_ret
          refine ⟨congrArg (fun b => Ending.returned (.bool b)) ?_, Below.refl _ _⟩
          rw [HN.out, decide_eq_false (show ¬ spanB partN L = s.size by rw [← hLs]; exact span_not_of partN L k (by omega) hpn)]
          simp
        · have hq2 : (!digitN (s[k]'hlt).toNat) = false := by assumption
          rw [HK.out] at hq2
          have hdg : digitN (L.getD k 0).toNat = true := by simpa using hq2
          go_round
          case rel => exact ⟨k + 1, by omega, by omega, by go_num, fun j hj => if e : j = k then by subst e; unfold partN; rw [hdg, Bool.or_true] else HA.out j (by omega)⟩
          case measure => simp [intOf]; omega
      · have HA' : Hid (spanB partN L = s.size) := by show _ = _; rw [← hLs]; exact span_all_of partN L (fun j hj => HA.out j (by omega))
        go_wp2_with (go_at_call 24; refine (refWord_at _ _).mono ?_; rintro r w1 ⟨wd, rfl, hwd, hb1⟩)
        go_ret
        refine ⟨congrArg (fun b => Ending.returned (.bool b)) ?_, hb1⟩
        rw [HN.out, HLT.out, decide_eq_true HA'.out, decide_eq_true (show s.size ≤ 40 by omega), HL.out, ← hwd.out]; simp

theorem info9 : (Tryd.prog.info? 9).map (fun i => (i.zero, i.size, i.bytes)) = some (some (.string ⟨#[]⟩), 1, 16) := by kernel_rfl

theorem take_word (k : Nat) (h : k < 22) : wordVals.take (k + 1) = wordVals.take k ++ [.string (wordS k)] := by
  have hk : k < wordVals.length := by rw [wordVals_length]; exact h
  rw [List.take_succ_eq_append_getElem hk]
  have := wordVals_get k h
  rw [List.getElem?_eq_getElem hk] at this
  rw [Option.some.inj this]

set_option maxHeartbeats 1000000 in
theorem words_any {gw ow gs os : Nat} (w : World) (ht : TabsAt gw ow gs os w) :
    Calls Tryd.prog 21 #[] w fun e w' => ∃ g cap, e = .returned (.slice (some ⟨g, 0, none⟩) 22 cap) ∧ w.heap.size ≤ g ∧ w'.ownsRow w.heap.size 9 1 (.slice (some ⟨g, 0, none⟩) 22 cap) 22 wordVals ∧ Below w.heap.size w w' := by
  obtain ⟨i0, hi, hz0, hz1, hz2⟩ := info_parts info9
  have hw0 := ht.words
  have hgw := ht.gwLt
  have h2 := ht.two
  have HT : Hid (TabsAt gw ow gs os w) := ht
  clear ht
  go_enter Tryd.func21, Tryd.ntmps21
  go_wp2_with (at_make; refine wpList_make_own _ rfl _ _ 43 rfl w.heap.size 9 i0 (.string ⟨#[]⟩) 1 Tryd.underlying43 hi hz0 hz1 .i64 .i64 _ 22 rfl rfl (by simp) (by rw [hz2]; omega) (by unfold maxLen; omega) (Nat.le_refl _) ?_; intro w1 hown1 hgr1; have hsz1 : w.heap.size ≤ w1.heap.size := hgr1.size; have hb1 : Below w.heap.size w w1 := (Below.grown (Below.refl _ _) hgr1 (Nat.le_refl _) (fun j hj => by cases hj)); have hw1 := (HT.out.below (Nat.le_refl _) hb1).words)
  clear hgr1
  go_loopw [1, 9] (fun v i wr => ∃ k : Nat, k ≤ 22 ∧ i = .int .i64 k ∧ wr.ownsRow w.heap.size 9 1 v k (wordVals.take k) ∧ Below w.heap.size w wr) (fun _ i _ => 22 - (intOf i).toNat)
  case atStart => exact ⟨0, Nat.zero_le _, rfl, hown1, hb1⟩
  case round =>
    obtain ⟨k, hk, rfl, hown, hb⟩ := hrel
    have ht' := HT.out.below (Nat.le_refl _) hb
    have hbs := hb.size
    by_cases hlt : k < 22
    · obtain ⟨h3, h4⟩ := ht'.word k hlt
      have hgw' := ht'.gwLt
      clear hw0 hw1 hown1 hb1
      have HTT : Hid (TabsAt gw ow gs os wr) := ht'
      clear ht'
      go_wp2_with (at_builtin; refine wpList_append_own _ rfl _ _ 43 rfl w.heap.size 9 i0 (.string ⟨#[]⟩) 1 16 Tryd.underlying43 hi hz0 hz1 hz2 rfl (by decide) _ _ _ rfl ((hown.alloc _).alloc _) ⟨wr.heap.size + 1, 0, none⟩ 1 1 [.string (wordS k)] rfl rfl ?_ (fun x hx => by simp at hx; subst hx; rfl) (by unfold maxLen; omega) (by omega) (by simp; omega) ?_)
      · have := cell_one_new (wr.alloc (.cells #[.string (wordS k), .bool (wordE k)] 69)) (.string (wordS k)) 9
        simpa using this
      intro v' w3 hown3 hgr3 _
      have HB3 : Hid (Below w.heap.size w w3) := Below.grown ((hb.alloc (by omega) _).alloc (by simp; omega) _) hgr3 (by simp; omega) (fun j hj => by have := (hown.lt _ hj).1; omega)
      have HO3 : Hid (w3.ownsRow w.heap.size 9 1 v' (k + 1) (wordVals.take (k + 1))) := by
        show World.ownsRow _ _ _ _ _ _ _
        rw [take_word k hlt]; exact hown3
      clear hgr3 hown3
      go_wp2
      go_roundw
      case rel => exact ⟨k + 1, by omega, by go_num, HO3.out, HB3.out⟩
      case measure => simp [intOf]; omega
    · obtain rfl : k = 22 := by omega
      have hown' : wr.ownsRow w.heap.size 9 1 u1 22 wordVals := hown
      rcases hown'.2 with ⟨_, h0⟩ | ⟨g, cap, cur, hv, hg, _⟩
      · omega
      subst hv
      go_wp2
      go_ret
      exact ⟨g, cap, rfl, hg, hown', hb⟩
end Go.Proofs.YtnpiicceafgioaaDoor
