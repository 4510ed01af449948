/-
  The document's own number, whole.
-/
import Derived.Test.YtnpiicceafgioaaDoorRB
namespace Go.Proofs.YtnpiicceafgioaaDoor
open Go.RowKit

theorem byte_list (s : ByteArray) (i : Nat) (h : i < s.size) : (s[i]'h).toNat = (s.data.toList.getD i 0).toNat := by
  have hl : i < s.data.toList.length := by simpa using h
  rw [List.getD_eq_getElem?_getD, List.getElem?_eq_getElem hl]
  rfl

theorem refNumber_any (s : ByteArray) (a : Nat) (w : World) (ha : a < s.size) (hlim : s.size ≤ 60000) :
    Calls Tryd.prog 46 #[.string s, .int .i64 a] w fun e w' => e = .returned (.tuple #[.agg #[.int .i64 (numKind s.data.toList a), .string (s.extract a (numEnd s.data.toList a)), .int .i64 a], .bool (numBad s.data.toList a)]) ∧ Below w.heap.size w w' := by
  have hl : s.data.toList.length = s.size := by simp
  have hn := spanB_le digitN (s.data.toList.drop a)
  rw [List.length_drop, hl] at hn
  have hbad := bad_iff s.data.toList a _ _ (by omega) rfl rfl
  have hh : ((s.data.toList)[a]? = some 48) ↔ (s[a]'ha).toNat = 48 := by
    rw [byte_list s a ha, List.getElem?_eq_getElem (by omega), List.getD_eq_getElem?_getD, List.getElem?_eq_getElem (by omega)]
    simp only [Option.some.injEq, Option.getD_some]
    exact ⟨fun e => by rw [e]; rfl, fun e => UInt8.toNat_inj.1 e⟩
  rw [hh] at hbad
  by_cases hm : 0 < partLen (s.data.toList.drop (a + spanB digitN (s.data.toList.drop a)))
  · have e : numEnd s.data.toList a = a + spanB digitN (s.data.toList.drop a) + 1 + partLen (s.data.toList.drop (a + spanB digitN (s.data.toList.drop a))) := if_pos hm
    have hdot : a + spanB digitN (s.data.toList.drop a) < s.size := by
      by_cases h : a + spanB digitN (s.data.toList.drop a) < s.size
      · exact h
      · rw [List.drop_of_length_le (by omega)] at hm; exact absurd hm (by decide)
    have h46 : (s.data.toList.getD (a + spanB digitN (s.data.toList.drop a)) 0).toNat = 46 := by
      by_cases h : (s.data.toList.getD (a + spanB digitN (s.data.toList.drop a)) 0).toNat = 46
      · exact h
      · rw [part_none _ _ (fun _ => h)] at hm; exact absurd hm (by decide)
    have hp := part_dot s.data.toList _ (by omega) h46
    have hq := spanB_le digitN (s.data.toList.drop (a + spanB digitN (s.data.toList.drop a) + 1))
    rw [List.length_drop, hl, ← hp] at hq
    have E2 : numEnd s.data.toList a = a + (spanB digitN (s.data.toList.drop a) + 1 + partLen (s.data.toList.drop (a + spanB digitN (s.data.toList.drop a)))) := by omega
    refine refNumber_float s a _ _ w ha hlim _ _ _ (decide (numEnd s.data.toList a < s.size) && letterN (s.data.toList.getD (numEnd s.data.toList a) 0).toNat) rfl hdot (by rw [byte_list]; exact h46) hp hm (by omega) (if_pos hm) E2 ?_ ?_ ?_
    · intro h
      rw [byte_list, ← E2, decide_eq_true (by omega), Bool.true_and]
    · intro h
      rw [decide_eq_false (by omega), Bool.false_and]
    · rw [Bool.eq_iff_iff, hbad, hl, if_pos hm]
      simp only [Bool.or_eq_true, decide_eq_true_eq, Bool.and_eq_true, decide_eq_false_iff_not, Nat.not_le, or_assoc]
  · have e : numEnd s.data.toList a = a + spanB digitN (s.data.toList.drop a) := if_neg hm
    refine refNumber_int s a _ w ha hlim _ _ (!intOk (s.extract a (a + spanB digitN (s.data.toList.drop a))).data.toList) _ (decide (numEnd s.data.toList a < s.size) && letterN (s.data.toList.getD (numEnd s.data.toList a) 0).toNat) rfl ?_ (if_neg hm) e rfl ?_ ?_ ?_
    · intro h h46
      rw [byte_list] at h46
      have := part_dot s.data.toList _ (by omega) h46
      omega
    · intro h
      rw [byte_list, ← e, decide_eq_true (by omega), Bool.true_and]
    · intro h
      rw [decide_eq_false (by omega), Bool.false_and]
    · have ex : (s.extract a (a + spanB digitN (s.data.toList.drop a))).data.toList = (s.data.toList.drop a).take (spanB digitN (s.data.toList.drop a)) := by
        rw [extract_eq]; simp
      rw [Bool.eq_iff_iff, hbad, hl, if_neg hm, ex]
      simp [or_assoc]

def signVals : List Value := signTab.map fun x => .string ⟨x.toArray⟩
theorem signVals_length : signVals.length = 42 := rfl
theorem signVals_get (k : Nat) (h : k < 42) : signVals[k]? = some (.string (signS k)) := by
  have : ∀ k, k < 42 → signTab[k]? = some (signL k) := by decide
  rw [signVals, List.getElem?_map, this k h]; rfl

set_option maxHeartbeats 1000000 in
theorem refSigns_any (w : World) :
    Calls Tryd.prog 47 #[] w fun e w' => e = .returned (.slice (some ⟨w.heap.size, 0, none⟩) 42 42) ∧ w'.ownsRow w.heap.size 9 1 (.slice (some ⟨w.heap.size, 0, none⟩) 42 42) 42 signVals ∧ Below w.heap.size w w' := by
  go_enter Tryd.func47, Tryd.ntmps47
  go_wp2
  go_ret
  refine ⟨rfl, ?_, (Below.refl _ _).alloc (Nat.le_refl _) _⟩
  exact World.ownsRow_lit w _ 42 (Nat.le_refl _) (by unfold maxLen; omega) rfl
end Go.Proofs.YtnpiicceafgioaaDoor
