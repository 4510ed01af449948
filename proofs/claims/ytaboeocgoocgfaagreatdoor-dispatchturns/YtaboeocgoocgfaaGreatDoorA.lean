/-
  The walks of the small functions of package lex: isLetter, isDigit, isNamePart, isInLine and span, at every argument.
-/
import Derived.Test.YtaboeocgoocgfaaGreatDoorRows
import Derived.Test.YtaboeocgoocgfaaGreatDoorPlain
import Derived.WalkKit
import Derived.WalkSpells
import Derived.WalkLawsBesides
namespace Go.Proofs.YtaboeocgoocgfaaGreatDoor
open Go.RowKit

def letterI (r : Int) : Bool := (decide (97 ≤ r) && decide (r ≤ 122)) || (decide (65 ≤ r) && decide (r ≤ 90)) || r == 95
def digitI (r : Int) : Bool := decide (48 ≤ r) && decide (r ≤ 57)

set_option maxHeartbeats 400000 in
theorem isLetter_any (r : Int) (w : World) :
    Calls Tryz.prog 119 #[.int .i32 r] w fun e w' => e = .returned (.bool (letterI r)) ∧ w' = w := by
  go_enter Tryz.func119, Tryz.ntmps119
  go_wp2
  all_goals go_ret
  all_goals refine ⟨?_, rfl⟩
  all_goals refine congrArg (fun b => Ending.returned (.bool b)) ?_
  all_goals (rw [Bool.eq_iff_iff]; simp [letterI]; omega)

set_option maxHeartbeats 400000 in
theorem isDigit_any (r : Int) (w : World) :
    Calls Tryz.prog 131 #[.int .i32 r] w fun e w' => e = .returned (.bool (digitI r)) ∧ w' = w := by
  go_enter Tryz.func131, Tryz.ntmps131
  go_wp2
  all_goals go_ret
  all_goals refine ⟨?_, rfl⟩
  all_goals refine congrArg (fun b => Ending.returned (.bool b)) ?_
  all_goals (rw [Bool.eq_iff_iff]; simp [digitI]; omega)

set_option maxHeartbeats 400000 in
theorem isNamePart_any (r : Int) (w : World) :
    Calls Tryz.prog 120 #[.int .i32 r] w fun e w' => e = .returned (.bool (letterI r || digitI r)) ∧ w' = w := by
  go_enter Tryz.func120, Tryz.ntmps120
  go_wp2_with (first | (go_at_call 119; refine (isLetter_any _ _).mono ?_; rintro e w' ⟨rfl, rfl⟩) | (go_at_call 131; refine (isDigit_any _ _).mono ?_; rintro e w' ⟨rfl, rfl⟩))
  all_goals go_ret
  all_goals refine ⟨?_, rfl⟩
  all_goals simp_all

theorem below_iter (w : World) (s : ByteArray) (pos : Nat) : Below w.heap.size w (w.iter s pos) := (Below.refl _ _).alloc (Nat.le_refl _) _

/-- The kind of a rune is that of its first byte. -/
theorem rune_kind (p : Int → Bool) (q : Nat → Bool) (hq : ∀ n : Nat, n < 128 → p n = q n) (c : Bool) (hc : ∀ n : Nat, 128 ≤ n → p n = c ∧ q n = c) (s : ByteArray) (pos : Nat) (h : pos < s.size) :
    p ((Utf8.decode s pos).1 : Nat) = q (s[pos]'h).toNat := by
  by_cases ha : (s[pos]'h).toNat < 128
  · rw [decode_ascii s pos h ha]; exact hq _ ha
  · have := (decode_high s pos h (by omega)).1
    rw [(hc _ this).1, (hc _ (by omega)).2]

/-- span, at a function of a rune that only computes. -/
theorem span_any (F : Nat) (hen : ∀ (args : Array Value) (w : World), (callFunc F args).run Tryz.prog w = .ok (.enter F args) w) (p : Int → Bool) (q : Nat → Bool) (hp : ∀ (r : Int) (w : World), Calls Tryz.prog F #[.int .i32 r] w fun e w' => e = .returned (.bool (p r)) ∧ w' = w)
    (hq : ∀ n : Nat, n < 128 → p n = q n) (c : Bool) (hc : ∀ n : Nat, 128 ≤ n → p n = c ∧ q n = c) (s : ByteArray) (w : World) :
    Calls Tryz.prog 118 #[.string s, .func (.func F) #[] #[]] w fun e w' => e = .returned (.int .i64 (spanB q s.data.toList)) ∧ Below w.heap.size w w' := by
  go_enter Tryz.func118, Tryz.ntmps118
  go_wp2
  go_loopw [4] (fun _ w' => ∃ pos : Nat, w' = w.iter s pos ∧ pos ≤ s.size ∧ ∀ j, (hj : j < pos) → (h2 : j < s.size) → q (s[j]'h2).toNat = true) (fun _ w' => s.size - w'.iterPos w.heap.size)
  case atStart => exact ⟨0, rfl, Nat.zero_le _, fun j hj => by omega⟩
  case round =>
    obtain ⟨pos, rfl, hps, hall⟩ := hrel
    by_cases hlt : pos < s.size
    · have hnx : ∀ ty, (Instr.next (.pointer (some ⟨w.heap.size, 0, none⟩)) true ty).run Tryz.prog (w.iter s pos) = _ := fun ty => run_next_any w s pos ty hlt
      have hpq := rune_kind p q hq c hc s pos hlt
      obtain ⟨hd1, hd2⟩ := decode_rest s pos hlt
      have hwd := width_le s pos hlt
      have HR : Hid (∀ j, pos < j → j < pos + (Utf8.decode s pos).2 → 128 ≤ (s.get! j).toNat) := hd2
      have HA : Hid (∀ j, (hj : j < pos) → (h2 : j < s.size) → q (s[j]'h2).toNat = true) := hall
      have HC : Hid (∀ n : Nat, 128 ≤ n → p n = c ∧ q n = c) := hc
      have HQ : Hid (∀ n : Nat, n < 128 → p n = q n) := hq
      have HP : Hid (p ((Utf8.decode s pos).1 : Nat) = q (s[pos]'hlt).toNat) := hpq
      clear hd2 hall hc hq hpq
      go_wp2_with (first | (refine (hp _ _).mono ?_; rintro e w' ⟨rfl, rfl⟩))
      · go_ret
        refine ⟨congrArg (fun n : Nat => Ending.returned (.int .i64 n)) ?_, below_iter w s _⟩
        refine (spanB_stop q _ pos (by simpa using hlt) (fun j hj => HA.out j hj (by omega)) ?_).symm
        refine (HP.out.symm.trans ?_)
        simp_all
      · have hpt : p ((Utf8.decode s pos).1 : Nat) = true := by simp_all
        go_roundw
        case rel =>
          refine ⟨pos + (Utf8.decode s pos).2, rfl, hd1, fun j hj h2 => ?_⟩
          by_cases h3 : j < pos
          · exact HA.out j h3 h2
          · by_cases h4 : j = pos
            · subst h4; exact HP.out.symm.trans hpt
            · have h5 := HR.out j (by omega) hj
              rw [get_bang s j h2] at h5
              by_cases h6 : (s[pos]'hlt).toNat < 128
              · rw [decode_ascii s pos hlt h6] at hj; simp at hj; omega
              · have h7 := (decode_high s pos hlt (by omega)).1
                rw [(HC.out _ h5).2, ← (HC.out _ h7).1]; exact hpt
        case measure => simp; omega
    · have hnx : ∀ ty, (Instr.next (.pointer (some ⟨w.heap.size, 0, none⟩)) true ty).run Tryz.prog (w.iter s pos) = _ := fun ty => run_next_end w s pos ty hlt
      go_wp2
      go_ret
      refine ⟨congrArg (fun n : Nat => Ending.returned (.int .i64 n)) ?_, below_iter w s pos⟩
      rw [spanB_all q _ ?_]
      · simp
      · intro b hb
        obtain ⟨j, hj, rfl⟩ := List.mem_iff_getElem.1 hb
        exact hall j (by simp at hj; omega) (by simpa using hj)
theorem enters40 (args : Array Value) (w : World) : (callFunc 119 args).run Tryz.prog w = .ok (.enter 119 args) w := by kernel_rfl
theorem enters41 (args : Array Value) (w : World) : (callFunc 120 args).run Tryz.prog w = .ok (.enter 120 args) w := by kernel_rfl
theorem letterI_nat (n : Nat) : letterI n = letterN n := by
  rw [Bool.eq_iff_iff]; simp [letterI, letterN]; omega
theorem digitI_nat (n : Nat) : digitI n = digitN n := by
  rw [Bool.eq_iff_iff]; simp [digitI, digitN]; omega
theorem letterN_high (n : Nat) (h : 128 ≤ n) : letterN n = false := by
  rw [Bool.eq_false_iff]; simp [letterN]; omega
theorem digitN_high (n : Nat) (h : 128 ≤ n) : digitN n = false := by
  rw [Bool.eq_false_iff]; simp [digitN]; omega

theorem span_letter (s : ByteArray) (w : World) :
    Calls Tryz.prog 118 #[.string s, .func (.func 119) #[] #[]] w fun e w' => e = .returned (.int .i64 (spanB letterN s.data.toList)) ∧ Below w.heap.size w w' :=
  span_any 119 enters40 letterI letterN isLetter_any (fun n _ => letterI_nat n) false (fun n h => ⟨by rw [letterI_nat]; exact letterN_high n h, letterN_high n h⟩) s w
theorem span_part (s : ByteArray) (w : World) :
    Calls Tryz.prog 118 #[.string s, .func (.func 120) #[] #[]] w fun e w' => e = .returned (.int .i64 (spanB partN s.data.toList)) ∧ Below w.heap.size w w' :=
  span_any 120 enters41 (fun r => letterI r || digitI r) partN isNamePart_any (fun n _ => by simp only [letterI_nat, digitI_nat, partN]) false
    (fun n h => ⟨by simp only [letterI_nat, digitI_nat, letterN_high n h, digitN_high n h, Bool.or_self], by simp only [partN, letterN_high n h, digitN_high n h, Bool.or_self]⟩) s w
end Go.Proofs.YtaboeocgoocgfaaGreatDoor
