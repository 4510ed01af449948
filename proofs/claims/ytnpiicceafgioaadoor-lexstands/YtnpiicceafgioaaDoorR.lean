/-
  The walks of the document's own six, escape, run, above and ends.
-/
import Derived.Test.YtnpiicceafgioaaDoorP
namespace Go.Proofs.YtnpiicceafgioaaDoor
open Go.RowKit

set_option maxHeartbeats 400000 in
theorem refSix_any (n : Nat) (w : World) (hn : n < 256) :
    Calls Tryd.prog 64 #[.int .u8 n] w fun e w' => e = .returned (.int .i64 (six n)) ∧ w' = w := by
  by_cases hd : digitN n = true
  · have hd' : 48 ≤ n ∧ n ≤ 57 := by simpa [digitN] using hd
    go_enter Tryd.func64, Tryd.ntmps64
    go_wp2_with (go_at_call 43; refine (refDigit_any _ _).mono ?_; rintro r w1 ⟨rfl, rfl⟩)
    all_goals go_ret
    all_goals refine ⟨congrArg (fun b => Ending.returned (.int .i64 b)) ?_, rfl⟩
    all_goals (unfold six; rw [if_pos hd'])
  · have hd' : ¬ (48 ≤ n ∧ n ≤ 57) := by simpa [digitN] using hd
    have hd2 : digitN n = false := by simpa using hd
    clear hd
    go_enter Tryd.func64, Tryd.ntmps64
    go_wp2_with (go_at_call 43; refine (refDigit_any _ _).mono ?_; rintro r w1 ⟨rfl, rfl⟩)
    all_goals go_ret
    all_goals refine ⟨congrArg (fun b => Ending.returned (.int .i64 b)) ?_, rfl⟩
    all_goals (unfold six; rw [if_neg hd']; split <;> (try split) <;> omega)

theorem getD_at (s : ByteArray) (a k : Nat) (h : a + k < s.size) : (s.data.toList.drop a).getD k 0 = s[a + k]'h := by
  rw [getD_drop]; exact getD_byte s (a + k) h

set_option maxHeartbeats 1000000 in
theorem refEscape_any (s : ByteArray) (a : Nat) (w : World) (ha : a < s.size) (hlim : s.size ≤ 70368744177664) :
    Calls Tryd.prog 55 #[.string s, .int .i64 a] w fun e w' => ∃ b n : Nat, e = .returned (.tuple #[.int .u8 b, .int .i64 n]) ∧ Hid ((b, n) = esc (s.data.toList.drop a)) ∧ Below w.heap.size w w' := by
  have hls : (s.data.toList.drop a).length = s.size - a := by simp
  by_cases h2 : s.size ≤ a + 1
  · have HE : Hid (esc (s.data.toList.drop a) = (0, 0)) := by unfold esc; rw [if_pos (by omega)]; rfl
    clear hls
    go_enter Tryd.func55, Tryd.ntmps55
    go_wp2
    go_ret2
    exact ⟨0, 0, rfl, HE.out.symm, Below.refl _ _⟩
  have hix : a + 1 < s.size := by omega
  have HL : Hid (¬ (s.data.toList.drop a).length < 2) := by show ¬ _; omega
  have HG : Hid ((s.data.toList.drop a).getD 1 0 = s[a + 1]'hix) := getD_at s a 1 hix
  have hlt := (s[a + 1]'hix).toNat_lt
  have i1 : (a : Int) + 1 < s.size := by omega
  by_cases h4 : a + 3 < s.size
  · have hi2 : a + 2 < s.size := by omega
    have HG2 : Hid ((s.data.toList.drop a).getD 2 0 = s[a + 2]'hi2) := getD_at s a 2 hi2
    have HG3 : Hid ((s.data.toList.drop a).getD 3 0 = s[a + 3]'h4) := getD_at s a 3 h4
    have HL4 : Hid (¬ (s.data.toList.drop a).length < 4) := by show ¬ _; omega
    have l2 := (s[a + 2]'hi2).toNat_lt
    have l3 := (s[a + 3]'h4).toNat_lt
    have j2 : (a : Int) + 2 < s.size := by omega
    have j3 : (a : Int) + 3 < s.size := by omega
    clear hls
    go_enter Tryd.func55, Tryd.ntmps55
    go_wp2_with (go_at_call 64; refine (refSix_any _ _ (by omega)).mono ?_; rintro r w1 ⟨rfl, rfl⟩)
    · have q := (nat_of_beq (c := (s[a + 1]'hix).toNat) (k := 110) (by assumption))
      go_ret2
      exact ⟨10, 2, rfl, show _ = _ by rw [esc_of _ _ HL.out (congrArg UInt8.toNat HG.out), if_pos q], Below.refl _ _⟩
    · have q1 := (nat_of_bne (c := (s[a + 1]'hix).toNat) (k := 110) (by assumption))
      have q2 := (nat_of_beq (c := (s[a + 1]'hix).toNat) (k := 116) (by assumption))
      go_ret2
      exact ⟨9, 2, rfl, show _ = _ by rw [esc_of _ _ HL.out (congrArg UInt8.toNat HG.out), if_neg q1, if_pos q2], Below.refl _ _⟩
    · have q1 := (nat_of_bne (c := (s[a + 1]'hix).toNat) (k := 110) (by assumption))
      have q2 := (nat_of_bne (c := (s[a + 1]'hix).toNat) (k := 116) (by assumption))
      have q3 := (nat_of_beq (c := (s[a + 1]'hix).toNat) (k := 34) (by assumption))
      go_ret2
      exact ⟨_, 2, rfl, show _ = _ by rw [esc_of _ _ HL.out (congrArg UInt8.toNat HG.out), if_neg q1, if_neg q2, if_pos (Or.inr q3)], Below.refl _ _⟩
    · have q1 := (nat_of_bne (c := (s[a + 1]'hix).toNat) (k := 110) (by assumption))
      have q2 := (nat_of_bne (c := (s[a + 1]'hix).toNat) (k := 116) (by assumption))
      have q3 := (nat_of_beq (c := (s[a + 1]'hix).toNat) (k := 92) (by assumption))
      go_ret2
      exact ⟨_, 2, rfl, show _ = _ by rw [esc_of _ _ HL.out (congrArg UInt8.toNat HG.out), if_neg q1, if_neg q2, if_pos (Or.inl q3)], Below.refl _ _⟩
    · have q5 := (nat_of_beq (c := (s[a + 1]'hix).toNat) (k := 120) (by assumption))
      have k2 : 0 ≤ six (s[a + 2]'hi2).toNat := by omega
      have k3 : 0 ≤ six (s[a + 3]'h4).toNat := by omega
      have b2 := (six_lt (s[a + 2]'hi2).toNat).2
      have b3 := (six_lt (s[a + 3]'h4).toNat).2
      go_quiet ((go_at_call 64; exact Calls.quiet_of_same (refSix_any _ _ (by omega))))
      go_wp2
      go_ret2
      refine ⟨(16 * six (s[a + 2]'hi2).toNat + six (s[a + 3]'h4).toNat).toNat, 4, ?_, ?_, below_drewN (Below.refl _ _) _⟩
      · exact congrArg (fun x : Int => Ending.returned (.tuple #[.int .u8 x, .int .i64 4])) (Int.toNat_of_nonneg (by omega)).symm
      · show _ = _
        rw [esc_num _ HL.out ((congrArg UInt8.toNat HG.out).trans q5), if_neg HL4.out, HG2.out, HG3.out, if_neg (by omega)]
    · have q5 := (nat_of_beq (c := (s[a + 1]'hix).toNat) (k := 120) (by assumption))
      have k3 : six (s[a + 3]'h4).toNat < 0 := by omega
      go_ret2
      exact ⟨0, 0, rfl, show _ = _ by rw [esc_num _ HL.out ((congrArg UInt8.toNat HG.out).trans q5), if_neg HL4.out, HG2.out, HG3.out, if_pos (Or.inr k3)], Below.refl _ _⟩
    · have q5 := (nat_of_beq (c := (s[a + 1]'hix).toNat) (k := 120) (by assumption))
      have k2 : six (s[a + 2]'hi2).toNat < 0 := by omega
      go_ret2
      exact ⟨0, 0, rfl, show _ = _ by rw [esc_num _ HL.out ((congrArg UInt8.toNat HG.out).trans q5), if_neg HL4.out, HG2.out, HG3.out, if_pos (Or.inl k2)], Below.refl _ _⟩
    · have q1 := (nat_of_bne (c := (s[a + 1]'hix).toNat) (k := 110) (by assumption))
      have q2 := (nat_of_bne (c := (s[a + 1]'hix).toNat) (k := 116) (by assumption))
      have q3 := (nat_of_bne (c := (s[a + 1]'hix).toNat) (k := 92) (by assumption))
      have q4 := (nat_of_bne (c := (s[a + 1]'hix).toNat) (k := 34) (by assumption))
      have q5 := (nat_of_bne (c := (s[a + 1]'hix).toNat) (k := 120) (by assumption))
      go_ret2
      exact ⟨0, 0, rfl, show _ = _ by rw [esc_of _ _ HL.out (congrArg UInt8.toNat HG.out), if_neg q1, if_neg q2, if_neg (fun h => h.elim q3 q4), if_neg q5], Below.refl _ _⟩
  · have HL4 : Hid ((s.data.toList.drop a).length < 4) := by show _ < _; omega
    clear hls
    go_enter Tryd.func55, Tryd.ntmps55
    go_wp2_with (go_at_call 64; refine (refSix_any _ _ (by omega)).mono ?_; rintro r w1 ⟨rfl, rfl⟩)
    · have q := (nat_of_beq (c := (s[a + 1]'hix).toNat) (k := 110) (by assumption))
      go_ret2
      exact ⟨10, 2, rfl, show _ = _ by rw [esc_of _ _ HL.out (congrArg UInt8.toNat HG.out), if_pos q], Below.refl _ _⟩
    · have q1 := (nat_of_bne (c := (s[a + 1]'hix).toNat) (k := 110) (by assumption))
      have q2 := (nat_of_beq (c := (s[a + 1]'hix).toNat) (k := 116) (by assumption))
      go_ret2
      exact ⟨9, 2, rfl, show _ = _ by rw [esc_of _ _ HL.out (congrArg UInt8.toNat HG.out), if_neg q1, if_pos q2], Below.refl _ _⟩
    · have q1 := (nat_of_bne (c := (s[a + 1]'hix).toNat) (k := 110) (by assumption))
      have q2 := (nat_of_bne (c := (s[a + 1]'hix).toNat) (k := 116) (by assumption))
      have q3 := (nat_of_beq (c := (s[a + 1]'hix).toNat) (k := 34) (by assumption))
      go_ret2
      exact ⟨_, 2, rfl, show _ = _ by rw [esc_of _ _ HL.out (congrArg UInt8.toNat HG.out), if_neg q1, if_neg q2, if_pos (Or.inr q3)], Below.refl _ _⟩
    · have q1 := (nat_of_bne (c := (s[a + 1]'hix).toNat) (k := 110) (by assumption))
      have q2 := (nat_of_bne (c := (s[a + 1]'hix).toNat) (k := 116) (by assumption))
      have q3 := (nat_of_beq (c := (s[a + 1]'hix).toNat) (k := 92) (by assumption))
      go_ret2
      exact ⟨_, 2, rfl, show _ = _ by rw [esc_of _ _ HL.out (congrArg UInt8.toNat HG.out), if_neg q1, if_neg q2, if_pos (Or.inl q3)], Below.refl _ _⟩
    · have q5 := (nat_of_beq (c := (s[a + 1]'hix).toNat) (k := 120) (by assumption))
      go_ret2
      exact ⟨0, 0, rfl, show _ = _ by rw [esc_num _ HL.out ((congrArg UInt8.toNat HG.out).trans q5), if_pos HL4.out], Below.refl _ _⟩
    · have q1 := (nat_of_bne (c := (s[a + 1]'hix).toNat) (k := 110) (by assumption))
      have q2 := (nat_of_bne (c := (s[a + 1]'hix).toNat) (k := 116) (by assumption))
      have q3 := (nat_of_bne (c := (s[a + 1]'hix).toNat) (k := 92) (by assumption))
      have q4 := (nat_of_bne (c := (s[a + 1]'hix).toNat) (k := 34) (by assumption))
      have q5 := (nat_of_bne (c := (s[a + 1]'hix).toNat) (k := 120) (by assumption))
      go_ret2
      exact ⟨0, 0, rfl, show _ = _ by rw [esc_of _ _ HL.out (congrArg UInt8.toNat HG.out), if_neg q1, if_neg q2, if_neg (fun h => h.elim q3 q4), if_neg q5], Below.refl _ _⟩
end Go.Proofs.YtnpiicceafgioaaDoor
