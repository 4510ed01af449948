/-
  The walks of lex.wordEndsLine, signEndsLine, signLength, wrong, endsLine and strings.HasPrefix, at every argument.
-/
import Derived.Test.YthbnegggohegkaaGreatDoorBJ
import Derived.Lib.Strings
namespace Go.Proofs.YthbnegggohegkaaGreatDoor
open Go.RowKit

set_option maxHeartbeats 400000 in
theorem wordEnds_any {gw ow gs os : Nat} (s : ByteArray) (w : World) (ht : TabsAt gw ow gs os w) :
    Calls Tryz.prog 181 #[.string s] w fun e w' => e = .returned (.bool (wordEnds s.toList)) ∧ Below w.heap.size w w' := by
  have hw0 := ht.words
  go_enter Tryz.func181, Tryz.ntmps181
  go_wp2
  clear hw0
  go_loopw [7] (fun i wr => ∃ k : Nat, k ≤ 22 ∧ i = .int .i64 k ∧ Below w.heap.size w wr ∧ ∀ j, j < k → wordL j ≠ s.toList) (fun i _ => 22 - (intOf i).toNat)
  case atStart => exact ⟨0, Nat.zero_le _, rfl, Below.refl _ _, fun j hj => by omega⟩
  case round =>
    obtain ⟨k, hk, rfl, hb, hno⟩ := hrel
    have ht' := ht.below (Nat.le_refl _) hb
    by_cases hlt : k < 22
    · obtain ⟨h1, h2⟩ := ht'.word k hlt
      have HN : Hid (∀ j, j < k → wordL j ≠ s.toList) := hno
      clear hno
      have hb2 : Below w.heap.size w (wr.alloc (Obj.cells #[Value.string (wordS k), Value.bool (wordE k)] 187)) := hb.alloc hb.size _
      go_wp2
      · have hq : ((wordS k).toList == s.toList) = true := by assumption
        go_ret
        rw [wordS_toList] at hq
        exact ⟨congrArg (fun b => Ending.returned (.bool b)) (wordEnds_of s.toList k hlt (by simpa using hq)).symm, hb2⟩
      · have hq : ((wordS k).toList == s.toList) = false := by assumption
        rw [wordS_toList] at hq
        go_roundw
        case rel => exact ⟨k + 1, by omega, by go_num, hb2, fun j hj => if e : j = k then by subst e; simpa using hq else HN.out j (by omega)⟩
        case measure => simp [intOf]; omega
    · go_wp2
      go_ret
      exact ⟨congrArg (fun b => Ending.returned (.bool b)) (wordEnds_not s.toList (fun j hj => hno j (by omega))).symm, hb⟩

set_option maxHeartbeats 400000 in
theorem signEnds_any (s : ByteArray) (w : World) :
    Calls Tryz.prog 182 #[.string s] w fun e w' => e = .returned (.bool (signEnds s.toList)) ∧ w' = w := by
  go_enter Tryz.func182, Tryz.ntmps182
  go_wp2
  all_goals go_ret
  all_goals refine ⟨congrArg (fun b => Ending.returned (.bool b)) ?_, rfl⟩
  all_goals simp_all [signEnds, ByteArray.toList_eq]

set_option maxHeartbeats 400000 in
theorem hasPrefix_any (s p : ByteArray) (w : World) :
    Calls Tryz.prog 156 #[.string s, .string p] w fun e w' => e = .returned (.bool (p.toList.isPrefixOf s.toList)) ∧ w' = w := by
  have hl1 : s.toList.length = s.size := by rw [ByteArray.toList_eq]; simp
  have hl2 : p.toList.length = p.size := by rw [ByteArray.toList_eq]; simp
  by_cases h : p.size ≤ s.size
  · go_enter Tryz.func156, Tryz.ntmps156
    go_wp2
    all_goals go_ret
    all_goals refine ⟨congrArg (fun b => Ending.returned (.bool b)) ?_, rfl⟩
    all_goals (rw [← prefix_take, Lib.extract_toList, hl2, ByteArray.toList_eq s]; simp)
  · have h' : s.size < p.size := by omega
    go_enter Tryz.func156, Tryz.ntmps156
    go_wp2
    all_goals go_ret
    all_goals refine ⟨congrArg (fun b => Ending.returned (.bool b)) ?_, rfl⟩
    all_goals exact (prefix_long _ _ (by omega)).symm

set_option maxHeartbeats 400000 in
theorem wrong_any (c a : Int) (w : World) :
    Calls Tryz.prog 154 #[.int .i64 c, .int .i64 a] w fun e w' => e = .returned (.iface 67 (.pointer (some ⟨w.heap.size, 0, none⟩))) ∧ w' = w.alloc (.cells #[.int .i64 c, .int .i64 a, .string ⟨#[]⟩] 28) := by
  go_enter Tryz.func154, Tryz.ntmps154
  go_wp2
  go_ret
  exact ⟨rfl, rfl⟩

theorem signS_size (k : Nat) : (signS k).size = (signL k).length := by simp [signS, ByteArray.size]

set_option maxHeartbeats 400000 in
theorem signLength_any {gw ow gs os : Nat} (s : ByteArray) (w : World) (ht : TabsAt gw ow gs os w) :
    Calls Tryz.prog 187 #[.string s] w fun e w' => e = .returned (.int .i64 (signLen s.toList)) ∧ w' = w := by
  have hw0 := ht.signs
  go_enter Tryz.func187, Tryz.ntmps187
  go_wp2
  clear hw0
  go_loop [7] (fun i => ∃ k : Nat, k ≤ 42 ∧ i = .int .i64 k ∧ ∀ j, j < k → (signL j).isPrefixOf s.toList = false) (fun i => 42 - (intOf i).toNat)
  case atStart => exact ⟨0, Nat.zero_le _, rfl, fun j hj => by omega⟩
  case round =>
    obtain ⟨k, hk, rfl, hno⟩ := hrel
    by_cases hlt : k < 42
    · have h1 := ht.sign k hlt
      have HN : Hid (∀ j, j < k → (signL j).isPrefixOf s.toList = false) := hno
      clear hno
      go_wp2_with (go_at_call 156; refine (hasPrefix_any _ _ _).mono ?_; rintro e w' ⟨rfl, rfl⟩)
      · have hq : (signS k).toList.isPrefixOf s.toList = true := by assumption
        go_ret
        rw [signS_toList] at hq
        refine ⟨congrArg (fun n : Nat => Ending.returned (.int .i64 n)) ?_, rfl⟩
        rw [signLen_of s.toList k hlt hq HN.out, signS_size]
      · have hq : (signS k).toList.isPrefixOf s.toList = false := by assumption
        rw [signS_toList] at hq
        go_round
        case rel => exact ⟨k + 1, by omega, by go_num, fun j hj => if e : j = k then by subst e; exact hq else HN.out j (by omega)⟩
        case measure => simp [intOf]; omega
    · go_wp2
      go_ret
      exact ⟨congrArg (fun n : Nat => Ending.returned (.int .i64 n)) (signLen_not s.toList (fun j hj => hno j (by omega))).symm, rfl⟩

/-- Does a line feed behind that token end a statement? -/
def endsB (kind : Int) (l : Bytes) : Bool := if kind = 2 ∨ kind = 4 ∨ kind = 5 ∨ kind = 6 then true else if kind = 3 then wordEnds l else if kind = 7 then signEnds l else false

set_option maxHeartbeats 400000 in
theorem endsLine_any {gw ow gs os : Nat} (kind a : Int) (s : ByteArray) (w : World) (ht : TabsAt gw ow gs os w) :
    Calls Tryz.prog 169 #[.agg #[.int .i64 kind, .string s, .int .i64 a]] w fun e w' => e = .returned (.bool (endsB kind s.toList)) ∧ Below w.heap.size w w' := by
  have hb0 : Below w.heap.size w (w.alloc (Obj.cells #[.int .i64 kind, .string s, .int .i64 a] 169)) := (Below.refl _ _).alloc (Nat.le_refl _) _
  have ht1 := ht.below (Nat.le_refl _) hb0
  have HB : Hid (Below w.heap.size w (w.alloc (Obj.cells #[.int .i64 kind, .string s, .int .i64 a] 169))) := hb0
  clear hb0
  go_enter Tryz.func169, Tryz.ntmps169
  go_wp2_with (first | (go_at_call 181; refine (wordEnds_any _ _ ht1).mono ?_; rintro e w' ⟨rfl, hb1⟩) | (go_at_call 182; refine (signEnds_any _ _).mono ?_; rintro e w' ⟨rfl, rfl⟩))
  all_goals go_ret
  all_goals refine ⟨congrArg (fun b => Ending.returned (.bool b)) ?_, ?_⟩
  all_goals first | exact HB.out | exact HB.out.trans (hb1.mono (by simp)) | simp_all [endsB]
end Go.Proofs.YthbnegggohegkaaGreatDoor
