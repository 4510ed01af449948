/-
  Names that are taken, and declared ones.
-/
import Derived.Test.YtnhbpcmiolkllabDoorB
namespace Go.Proofs.YtnhbpcmiolkllabDoor
open Go.RowKit
attribute [local go_sem] refold2 cell3_0 cell3_1 b28_0 b28_01

/-- The kinds' own names. -/
def names8 : Array Value := #[.string ⟨#[]⟩, .string ⟨#[98, 111, 111, 108]⟩, .string ⟨#[105, 110, 116]⟩, .string ⟨#[102, 108, 111, 97, 116]⟩, .string ⟨#[116, 101, 120, 116]⟩, .string ⟨#[108, 105, 115, 116]⟩, .string ⟨#[109, 97, 112]⟩, .string ⟨#[102, 117, 110, 99]⟩]
structure NamesAt (w : World) : Prop where
  cells : ∀ j, w.cell? ⟨0, j, none⟩ = names8[j]?
  lt : 0 < w.heap.size
theorem NamesAt.kept {w W : World} (h : NamesAt w) (hb : Below w.heap.size w W) : NamesAt W := ⟨fun j => (hb.cell (p := ⟨0, j, none⟩) h.lt).trans (h.cells j), Nat.lt_of_lt_of_le h.lt hb.size⟩

theorem ix0 (w : World) : (Instr.index 130 (.agg #[.string ⟨#[]⟩, .string ⟨#[98, 111, 111, 108]⟩, .string ⟨#[105, 110, 116]⟩, .string ⟨#[102, 108, 111, 97, 116]⟩, .string ⟨#[116, 101, 120, 116]⟩, .string ⟨#[108, 105, 115, 116]⟩, .string ⟨#[109, 97, 112]⟩, .string ⟨#[102, 117, 110, 99]⟩]) (.int .i64 0)).run Tryd.prog w = .ok (.string ⟨#[]⟩) w := by kernel_rfl
theorem ix1 (w : World) : (Instr.index 130 (.agg #[.string ⟨#[]⟩, .string ⟨#[98, 111, 111, 108]⟩, .string ⟨#[105, 110, 116]⟩, .string ⟨#[102, 108, 111, 97, 116]⟩, .string ⟨#[116, 101, 120, 116]⟩, .string ⟨#[108, 105, 115, 116]⟩, .string ⟨#[109, 97, 112]⟩, .string ⟨#[102, 117, 110, 99]⟩]) (.int .i64 1)).run Tryd.prog w = .ok (.string ⟨#[98, 111, 111, 108]⟩) w := by kernel_rfl
theorem ix2 (w : World) : (Instr.index 130 (.agg #[.string ⟨#[]⟩, .string ⟨#[98, 111, 111, 108]⟩, .string ⟨#[105, 110, 116]⟩, .string ⟨#[102, 108, 111, 97, 116]⟩, .string ⟨#[116, 101, 120, 116]⟩, .string ⟨#[108, 105, 115, 116]⟩, .string ⟨#[109, 97, 112]⟩, .string ⟨#[102, 117, 110, 99]⟩]) (.int .i64 2)).run Tryd.prog w = .ok (.string ⟨#[105, 110, 116]⟩) w := by kernel_rfl
theorem ix3 (w : World) : (Instr.index 130 (.agg #[.string ⟨#[]⟩, .string ⟨#[98, 111, 111, 108]⟩, .string ⟨#[105, 110, 116]⟩, .string ⟨#[102, 108, 111, 97, 116]⟩, .string ⟨#[116, 101, 120, 116]⟩, .string ⟨#[108, 105, 115, 116]⟩, .string ⟨#[109, 97, 112]⟩, .string ⟨#[102, 117, 110, 99]⟩]) (.int .i64 3)).run Tryd.prog w = .ok (.string ⟨#[102, 108, 111, 97, 116]⟩) w := by kernel_rfl
theorem ix4 (w : World) : (Instr.index 130 (.agg #[.string ⟨#[]⟩, .string ⟨#[98, 111, 111, 108]⟩, .string ⟨#[105, 110, 116]⟩, .string ⟨#[102, 108, 111, 97, 116]⟩, .string ⟨#[116, 101, 120, 116]⟩, .string ⟨#[108, 105, 115, 116]⟩, .string ⟨#[109, 97, 112]⟩, .string ⟨#[102, 117, 110, 99]⟩]) (.int .i64 4)).run Tryd.prog w = .ok (.string ⟨#[116, 101, 120, 116]⟩) w := by kernel_rfl
theorem ix5 (w : World) : (Instr.index 130 (.agg #[.string ⟨#[]⟩, .string ⟨#[98, 111, 111, 108]⟩, .string ⟨#[105, 110, 116]⟩, .string ⟨#[102, 108, 111, 97, 116]⟩, .string ⟨#[116, 101, 120, 116]⟩, .string ⟨#[108, 105, 115, 116]⟩, .string ⟨#[109, 97, 112]⟩, .string ⟨#[102, 117, 110, 99]⟩]) (.int .i64 5)).run Tryd.prog w = .ok (.string ⟨#[108, 105, 115, 116]⟩) w := by kernel_rfl
theorem ix6 (w : World) : (Instr.index 130 (.agg #[.string ⟨#[]⟩, .string ⟨#[98, 111, 111, 108]⟩, .string ⟨#[105, 110, 116]⟩, .string ⟨#[102, 108, 111, 97, 116]⟩, .string ⟨#[116, 101, 120, 116]⟩, .string ⟨#[108, 105, 115, 116]⟩, .string ⟨#[109, 97, 112]⟩, .string ⟨#[102, 117, 110, 99]⟩]) (.int .i64 6)).run Tryd.prog w = .ok (.string ⟨#[109, 97, 112]⟩) w := by kernel_rfl
theorem ix7 (w : World) : (Instr.index 130 (.agg #[.string ⟨#[]⟩, .string ⟨#[98, 111, 111, 108]⟩, .string ⟨#[105, 110, 116]⟩, .string ⟨#[102, 108, 111, 97, 116]⟩, .string ⟨#[116, 101, 120, 116]⟩, .string ⟨#[108, 105, 115, 116]⟩, .string ⟨#[109, 97, 112]⟩, .string ⟨#[102, 117, 110, 99]⟩]) (.int .i64 7)).run Tryd.prog w = .ok (.string ⟨#[102, 117, 110, 99]⟩) w := by kernel_rfl
attribute [local go_sem] ix0 ix1 ix2 ix3 ix4 ix5 ix6 ix7

/-- Names that no type may have. -/
def takenB (t : ByteArray) : Bool := t.toList.isEmpty || t.toList == [98, 111, 111, 108] || t.toList == [105, 110, 116] || t.toList == [102, 108, 111, 97, 116] || t.toList == [116, 101, 120, 116] || t.toList == [108, 105, 115, 116] || t.toList == [109, 97, 112] || t.toList == [102, 117, 110, 99] || t.toList == [97, 110, 121] || t.toList == [110, 105, 108] || t.toList == [115, 116, 114, 117, 99, 116] || t.toList == [112, 111, 105, 110, 116, 101, 114]

set_option maxRecDepth 100000 in
set_option maxHeartbeats 4000000 in
theorem taken_any (t : ByteArray) (w : World) (hN : NamesAt w) : Calls Tryd.prog 52 #[.string t] w fun r w' => r = .returned (.bool (takenB t)) ∧ w' = w := by
  have n0 : w.cell? ⟨0, 0, none⟩ = some (.string ⟨#[]⟩) := hN.cells 0
  have n1 : w.cell? ⟨0, 1, none⟩ = some (.string ⟨#[98, 111, 111, 108]⟩) := hN.cells 1
  have n2 : w.cell? ⟨0, 2, none⟩ = some (.string ⟨#[105, 110, 116]⟩) := hN.cells 2
  have n3 : w.cell? ⟨0, 3, none⟩ = some (.string ⟨#[102, 108, 111, 97, 116]⟩) := hN.cells 3
  have n4 : w.cell? ⟨0, 4, none⟩ = some (.string ⟨#[116, 101, 120, 116]⟩) := hN.cells 4
  have n5 : w.cell? ⟨0, 5, none⟩ = some (.string ⟨#[108, 105, 115, 116]⟩) := hN.cells 5
  have n6 : w.cell? ⟨0, 6, none⟩ = some (.string ⟨#[109, 97, 112]⟩) := hN.cells 6
  have n7 : w.cell? ⟨0, 7, none⟩ = some (.string ⟨#[102, 117, 110, 99]⟩) := hN.cells 7
  clear hN
  go_enter Tryd.func52, Tryd.ntmps52
  go_wp2
  go_rounds 9
  all_goals (go_ret; refine ⟨?_, rfl⟩; simp_all [takenB])

/-- May a text be a declared type's name? -/
def letterAt (t : ByteArray) (j : Nat) : Bool := isLetter ((t.data[j]?.getD 0).toNat : Int) || (j != 0 && isDigit ((t.data[j]?.getD 0).toNat : Int))
def lettersFrom (t : ByteArray) : Nat → Nat → Bool
  | _, 0 => true
  | j, n + 1 => letterAt t j && lettersFrom t (j + 1) n
def declB (t : ByteArray) : Bool := decide (t.size ≠ 0) && decide (t.size ≤ 40) && !takenB t && lettersFrom t 0 t.size

set_option maxRecDepth 100000 in
set_option maxHeartbeats 4000000 in
theorem declared_any (t : ByteArray) (w : World) (hN : NamesAt w) : Calls Tryd.prog 48 #[.string t] w fun r w' => r = .returned (.bool (declB t)) ∧ w' = w := by
  have HT : Hid (∀ W, NamesAt W → Calls Tryd.prog 52 #[.string t] W fun r w' => r = .returned (.bool (takenB t)) ∧ w' = W) := fun W h => taken_any t W h
  by_cases h0 : t.size = 0
  · have hd : declB t = false := by unfold declB; simp [h0]
    rw [hd]
    obtain rfl : t = ⟨#[]⟩ := ByteArray.ext (Array.eq_empty_of_size_eq_zero h0)
    go_enter Tryd.func48, Tryd.ntmps48
    go_wp2
    go_ret
    exact ⟨rfl, rfl⟩
  · have hne : ¬ t.toList = [] := fun e => h0 (by rw [Lib.size_eq]; rw [Lib.toList_data] at e; rw [e]; rfl)
    have hne' : t.toList.isEmpty = false := by simpa using hne
    by_cases h40 : t.size ≤ 40
    · have h40' : (t.size : Int) ≤ 40 := by omega
      by_cases htk : takenB t = true
      · have hd : declB t = false := by unfold declB; simp [htk]
        rw [hd]
        rw [htk] at HT
        go_enter Tryd.func48, Tryd.ntmps48
        go_wp2_with (go_at_call 52; refine (HT.out _ hN).mono ?_; rintro r w' ⟨rfl, rfl⟩)
        go_ret
        exact ⟨rfl, rfl⟩
      · have htf : takenB t = false := by simpa using htk
        have hd : declB t = lettersFrom t 0 t.size := by unfold declB; simp [h0, h40, htf]
        rw [hd]
        rw [htf] at HT
        clear htk hd htf
        have HL : Hid (∀ (c : Int) (W : World), Calls Tryd.prog 53 #[.int .u8 c] W fun r w' => r = .returned (.bool (isLetter c)) ∧ w' = W) := letter_any
        have HD : Hid (∀ (c : Int) (W : World), Calls Tryd.prog 54 #[.int .u8 c] W fun r w' => r = .returned (.bool (isDigit c)) ∧ w' = W) := digit_any
        go_enter Tryd.func48, Tryd.ntmps48
        go_wp2_with (go_at_call 52; refine (HT.out _ hN).mono ?_; rintro r w' ⟨rfl, rfl⟩)
        go_loop [17] (fun i => ∃ j : Nat, j ≤ t.size ∧ i = .int .i64 j ∧ lettersFrom t 0 t.size = lettersFrom t j (t.size - j)) (fun i => t.size - (intOf i).toNat)
        case atStart => exact ⟨0, by omega, rfl, rfl⟩
        case round =>
          obtain ⟨j, hj, rfl, hlf⟩ := hrel
          by_cases hlt : j < t.size
          · have i1 : (j : Int) < t.size := by omega
            have hstep : lettersFrom t j (t.size - j) = (letterAt t j && lettersFrom t (j + 1) (t.size - (j + 1))) := by
              rw [show t.size - j = (t.size - (j + 1)) + 1 by omega]; rfl
            have hb : letterAt t j = (isLetter (t[j].toNat : Int) || (j != 0 && isDigit (t[j].toNat : Int))) := by
              have e : t.data[j]?.getD 0 = t[j] := by rw [Array.getElem?_eq_getElem (by exact hlt)]; rfl
              unfold letterAt; rw [e]
            go_wp2_with (first | (go_at_call 53; refine (HL.out _ _).mono ?_; rintro r w' ⟨rfl, rfl⟩) | (go_at_call 54; refine (HD.out _ _).mono ?_; rintro r w' ⟨rfl, rfl⟩))
            all_goals first
              | (refine ⟨⟨j + 1, by omega, by go_num, ?_⟩, by simp [intOf]; omega⟩; rw [hlf, hstep, hb]; simp_all; done)
              | (go_ret; refine ⟨?_, rfl⟩; rw [hlf, hstep, hb]; simp_all; done)
          · obtain rfl : j = t.size := by omega
            rw [hlf, Nat.sub_self]
            go_wp2
            go_ret
            exact ⟨rfl, rfl⟩
    · have h40' : ¬ (t.size : Int) ≤ 40 := by omega
      have hd : declB t = false := by unfold declB; simp [h40]
      rw [hd]
      go_enter Tryd.func48, Tryd.ntmps48
      go_wp2
      go_ret
      exact ⟨rfl, rfl⟩

end Go.Proofs.YtnhbpcmiolkllabDoor
