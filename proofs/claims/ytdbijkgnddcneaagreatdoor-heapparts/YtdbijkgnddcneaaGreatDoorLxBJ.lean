/-
  .
  .
-/
import Derived.Test.YtdbijkgnddcneaaGreatDoorRows
import Derived.Test.YtdbijkgnddcneaaGreatDoorLxPlain
import Derived.WalkKit
import Derived.WalkSpells
import Derived.WalkLawsBesides
namespace Go.Proofs.YtdbijkgnddcneaaGreatDoor.Lx
open Go.RowKit
set_option maxHeartbeats 400000
def letterI (r : Int) : Bool := (decide (97 ≤ r) && decide (r ≤ 122)) || (decide (65 ≤ r) && decide (r ≤ 90)) || r == 95
def digitI (r : Int) : Bool := decide (48 ≤ r) && decide (r ≤ 57)
theorem isLetter_any (r : Int) (w : World) :
  Calls Tryz.prog 234 #[.int .i32 r] w fun e w' => e = .returned (.bool (letterI r)) ∧ w' = w := by
 go_enter Tryz.func234, Tryz.ntmps234
 go_wp2
 all_goals go_ret
 all_goals refine ⟨?_, rfl⟩
 all_goals refine congrArg (fun b => Ending.returned (.bool b)) ?_
 all_goals (rw [Bool.eq_iff_iff]; simp [letterI]; omega)
theorem isDigit_any (r : Int) (w : World) :
  Calls Tryz.prog 240 #[.int .i32 r] w fun e w' => e = .returned (.bool (digitI r)) ∧ w' = w := by
 go_enter Tryz.func240, Tryz.ntmps240
 go_wp2
 all_goals go_ret
 all_goals refine ⟨?_, rfl⟩
 all_goals refine congrArg (fun b => Ending.returned (.bool b)) ?_
 all_goals (rw [Bool.eq_iff_iff]; simp [digitI]; omega)
theorem isNamePart_any (r : Int) (w : World) :
  Calls Tryz.prog 235 #[.int .i32 r] w fun e w' => e = .returned (.bool (letterI r || digitI r)) ∧ w' = w := by
 go_enter Tryz.func235, Tryz.ntmps235
 go_wp2_with (first | (go_at_call 234; refine (isLetter_any _ _).mono ?_; rintro e w' ⟨rfl, rfl⟩) | (go_at_call 240; refine (isDigit_any _ _).mono ?_; rintro e w' ⟨rfl, rfl⟩))
 all_goals go_ret
 all_goals refine ⟨?_, rfl⟩
 all_goals simp_all
theorem below_iter (w : World) (s : ByteArray) (pos : Nat) : Below w.heap.size w (w.iter s pos) := (Below.refl _ _).alloc (Nat.le_refl _) _
theorem rune_kind (p : Int → Bool) (q : Nat → Bool) (hq : ∀ n : Nat, n < 128 → p n = q n) (c : Bool) (hc : ∀ n : Nat, 128 ≤ n → p n = c ∧ q n = c) (s : ByteArray) (pos : Nat) (h : pos < s.size) :
  p ((Utf8.decode s pos).1 : Nat) = q (s[pos]'h).toNat := by
 by_cases ha : (s[pos]'h).toNat < 128
 ·rw [decode_ascii s pos h ha]; exact hq _ ha
 ·have := (decode_high s pos h (by omega)).1
  rw [(hc _ this).1, (hc _ (by omega)).2]
theorem span_any (F : Nat) (hen : ∀ (args : Array Value) (w : World), (callFunc F args).run Tryz.prog w = .ok (.enter F args) w) (p : Int → Bool) (q : Nat → Bool) (hp : ∀ (r : Int) (w : World), Calls Tryz.prog F #[.int .i32 r] w fun e w' => e = .returned (.bool (p r)) ∧ w' = w)
  (hq : ∀ n : Nat, n < 128 → p n = q n) (c : Bool) (hc : ∀ n : Nat, 128 ≤ n → p n = c ∧ q n = c) (s : ByteArray) (w : World) :
  Calls Tryz.prog 233 #[.string s, .func (.func F) #[] #[]] w fun e w' => e = .returned (.int .i64 (spanB q s.data.toList)) ∧ Below w.heap.size w w' := by
 go_enter Tryz.func233, Tryz.ntmps233
 go_wp2
 go_loopw [4] (fun _ w' => ∃ pos : Nat, w' = w.iter s pos ∧ pos ≤ s.size ∧ ∀ j, (hj : j < pos) → (h2 : j < s.size) → q (s[j]'h2).toNat = true) (fun _ w' => s.size - w'.iterPos w.heap.size)
 case atStart => exact ⟨0, rfl, Nat.zero_le _, fun j hj => by omega⟩
 case round =>
  obtain ⟨pos, rfl, hps, hall⟩ := hrel
  by_cases hlt : pos < s.size
  ·have hnx : ∀ ty, (Instr.next (.pointer (some ⟨w.heap.size, 0, none⟩)) true ty).run Tryz.prog (w.iter s pos) = _ := fun ty => run_next_any w s pos ty hlt
   have hpq := rune_kind p q hq c hc s pos hlt
   obtain ⟨hd1, hd2⟩ := decode_rest s pos hlt
   have hwd := width_le s pos hlt
   have HR : Hid (∀ j, pos < j → j < pos + (Utf8.decode s pos).2 → 128 ≤ (s.get! j).toNat) := hd2
   have HA : Hid (∀ j, (hj : j < pos) → (h2 : j < s.size) → q (s[j]'h2).toNat = true) := hall
   have HC : Hid (∀ n : Nat, 128 ≤ n → p n = c ∧ q n = c) := hc
   have HQ : Hid (∀ n : Nat, n < 128 → p n = q n) := hq
   have HP : Hid (p ((Utf8.decode s pos).1 : Nat) = q (s[pos]'hlt).toNat) := hpq
   clear hd2 hall hc hq hpq
   go_wp2_with (first | (refine (hp _ _).mono ?_; rintro e w' ⟨rfl, rfl⟩))
   ·go_ret
    refine ⟨congrArg (fun n : Nat => Ending.returned (.int .i64 n)) ?_, below_iter w s _⟩
    refine (spanB_stop q _ pos (by simpa using hlt) (fun j hj => HA.out j hj (by omega)) ?_).symm
    refine (HP.out.symm.trans ?_)
    simp_all
   ·have hpt : p ((Utf8.decode s pos).1 : Nat) = true := by simp_all
    go_roundw
    case rel =>
     refine ⟨pos + (Utf8.decode s pos).2, rfl, hd1, fun j hj h2 => ?_⟩
     by_cases h3 : j < pos
     ·exact HA.out j h3 h2
     ·by_cases h4 : j = pos
      ·subst h4; exact HP.out.symm.trans hpt
      ·have h5 := HR.out j (by omega) hj
       rw [get_bang s j h2] at h5
       by_cases h6 : (s[pos]'hlt).toNat < 128
       ·rw [decode_ascii s pos hlt h6] at hj; simp at hj; omega
       ·have h7 := (decode_high s pos hlt (by omega)).1
        rw [(HC.out _ h5).2, ← (HC.out _ h7).1]; exact hpt
    case measure => simp; omega
  ·have hnx : ∀ ty, (Instr.next (.pointer (some ⟨w.heap.size, 0, none⟩)) true ty).run Tryz.prog (w.iter s pos) = _ := fun ty => run_next_end w s pos ty hlt
   go_wp2
   go_ret
   refine ⟨congrArg (fun n : Nat => Ending.returned (.int .i64 n)) ?_, below_iter w s pos⟩
   rw [spanB_all q _ ?_]
   ·simp
   ·intro b hb
    obtain ⟨j, hj, rfl⟩ := List.mem_iff_getElem.1 hb
    exact hall j (by simp at hj; omega) (by simpa using hj)
theorem enters40 (args : Array Value) (w : World) : (callFunc 234 args).run Tryz.prog w = .ok (.enter 234 args) w := by kernel_rfl
theorem enters41 (args : Array Value) (w : World) : (callFunc 235 args).run Tryz.prog w = .ok (.enter 235 args) w := by kernel_rfl
theorem letterI_nat (n : Nat) : letterI n = letterN n := by
 rw [Bool.eq_iff_iff]; simp [letterI, letterN]; omega
theorem digitI_nat (n : Nat) : digitI n = digitN n := by
 rw [Bool.eq_iff_iff]; simp [digitI, digitN]; omega
theorem letterN_high (n : Nat) (h : 128 ≤ n) : letterN n = false := by
 rw [Bool.eq_false_iff]; simp [letterN]; omega
theorem digitN_high (n : Nat) (h : 128 ≤ n) : digitN n = false := by
 rw [Bool.eq_false_iff]; simp [digitN]; omega
theorem span_letter (s : ByteArray) (w : World) :
  Calls Tryz.prog 233 #[.string s, .func (.func 234) #[] #[]] w fun e w' => e = .returned (.int .i64 (spanB letterN s.data.toList)) ∧ Below w.heap.size w w' :=
 span_any 234 enters40 letterI letterN isLetter_any (fun n _ => letterI_nat n) false (fun n h => ⟨by rw [letterI_nat]; exact letterN_high n h, letterN_high n h⟩) s w
theorem span_part (s : ByteArray) (w : World) :
  Calls Tryz.prog 233 #[.string s, .func (.func 235) #[] #[]] w fun e w' => e = .returned (.int .i64 (spanB partN s.data.toList)) ∧ Below w.heap.size w w' :=
 span_any 235 enters41 (fun r => letterI r || digitI r) partN isNamePart_any (fun n _ => by simp only [letterI_nat, digitI_nat, partN]) false
  (fun n h => ⟨by simp only [letterI_nat, digitI_nat, letterN_high n h, digitN_high n h, Bool.or_self], by simp only [partN, letterN_high n h, digitN_high n h, Bool.or_self]⟩) s w
end Go.Proofs.YtdbijkgnddcneaaGreatDoor.Lx
namespace Go.Proofs.YtdbijkgnddcneaaGreatDoor.Lx
open Go.RowKit
set_option maxHeartbeats 400000
structure TabsAt (gw ow gs os : Nat) (w : World) : Prop where
  words : w.cell? ⟨6, 0, none⟩ = some (.slice (some ⟨gw, ow, none⟩) 22 22)
  signs : w.cell? ⟨7, 0, none⟩ = some (.slice (some ⟨gs, os, none⟩) 42 42)
  word : ∀ k, k < 22 → w.cell? ⟨gw, ow + k * 2, none⟩ = some (.string (wordS k)) ∧ w.cell? ⟨gw, ow + k * 2 + 1, none⟩ = some (.bool (wordE k))
  sign : ∀ k, k < 42 → w.cell? ⟨gs, os + k, none⟩ = some (.string (signS k))
  two : 8 ≤ w.heap.size
  gwLt : gw < w.heap.size
  gsLt : gs < w.heap.size
theorem TabsAt.below {gw ow gs os : Nat} {w w' : World} (h : TabsAt gw ow gs os w) {B : Nat} (hB : w.heap.size ≤ B) (hb : Below B w w') : TabsAt gw ow gs os w' :=
  have h2 := h.two
  have h3 := h.gwLt
  have h4 := h.gsLt
  ⟨(hb.cell (p := ⟨6, 0, none⟩) (by show 6 < B; omega)).trans h.words, (hb.cell (p := ⟨7, 0, none⟩) (by show 7 < B; omega)).trans h.signs,
   fun k hk => ⟨(hb.cell (p := ⟨gw, ow + k * 2, none⟩) (by show gw < B; omega)).trans (h.word k hk).1, (hb.cell (p := ⟨gw, ow + k * 2 + 1, none⟩) (by show gw < B; omega)).trans (h.word k hk).2⟩,
   fun k hk => (hb.cell (p := ⟨gs, os + k, none⟩) (by show gs < B; omega)).trans (h.sign k hk), by have := hb.size; omega, by have := hb.size; omega, by have := hb.size; omega⟩
theorem word_any {gw ow gs os : Nat} (s : ByteArray) (w : World) (ht : TabsAt gw ow gs os w) :
    Calls Tryz.prog 232 #[.string s] w fun e w' => e = .returned (.bool (isWord s.toList)) ∧ Below w.heap.size w w' := by
  have hw0 := ht.words
  go_enter Tryz.func232, Tryz.ntmps232
  go_wp2
  clear hw0
  go_loopw [7] (fun i wr => ∃ k : Nat, k ≤ 22 ∧ i = .int .i64 k ∧ Below w.heap.size w wr ∧ ∀ j, j < k → wordL j ≠ s.toList) (fun i _ => 22 - (intOf i).toNat)
  case atStart => exact ⟨0, Nat.zero_le _, rfl, Below.refl _ _, fun j hj => by omega⟩
  case round =>
    obtain ⟨k, hk, rfl, hb, hno⟩ := hrel
    have ht' := ht.below (Nat.le_refl _) hb
    by_cases hlt : k < 22
    · obtain ⟨h1, h2⟩ := ht'.word k hlt
      have HN : Hid (∀ j, j < k → wordL j ≠ s.toList) := hno
      clear hno
      have hb2 : Below w.heap.size w (wr.alloc (Obj.cells #[Value.string (wordS k), Value.bool (wordE k)] 355)) := hb.alloc hb.size _
      go_wp2
      · have hq : ((wordS k).toList == s.toList) = true := by assumption
        go_ret
        rw [wordS_toList] at hq
        exact ⟨congrArg (fun b => Ending.returned (.bool b)) (isWord_of s.toList k hlt (by simpa using hq)).symm, hb2⟩
      · have hq : ((wordS k).toList == s.toList) = false := by assumption
        rw [wordS_toList] at hq
        go_roundw
        case rel => exact ⟨k + 1, by omega, by go_num, hb2, fun j hj => if e : j = k then by subst e; simpa using hq else HN.out j (by omega)⟩
        case measure => simp [intOf]; omega
    · go_wp2
      go_ret
      exact ⟨congrArg (fun b => Ending.returned (.bool b)) (isWord_not s.toList (fun j hj => hno j (by omega))).symm, hb⟩
end Go.Proofs.YtdbijkgnddcneaaGreatDoor.Lx
