/-
  .
-/
import Derived.Test.YtdbijkgnddcneaaGreatDoorLxD
import Derived.Deep.QuietTactic
import Derived.BigQuiet
import Derived.Lib.AppendStr
import Derived.Lib.BufferRead
import Derived.Lib.OthersKept
namespace Go.Proofs.YtdbijkgnddcneaaGreatDoor.Lx
open Go.RowKit
set_option maxRecDepth 100000
set_option maxHeartbeats 1000000
def isName (l : Bytes) : Bool := decide (l ≠ []) && decide (l.length ≤ 40) && !isWord l && letterN (l.getD 0 0).toNat && decide (spanB partN l = l.length)
theorem first_letter (s : ByteArray) (w : World) (hs : 0 < s.size) :
  Calls Tryz.prog 233 #[.string (s.extract 0 1), .func (.func 234) #[] #[]] w fun e w' => ∃ n : Nat, e = .returned (.int .i64 n) ∧ Hid (n = if letterN (s.data.toList.getD 0 0).toNat then 1 else 0) ∧ Below w.heap.size w w' :=
 (span_letter (s.extract 0 1) w).mono fun _ _ ⟨he, hb⟩ => by
  have e1 : (s.extract 0 1).data.toList = [s.data.toList.getD 0 0] := by
   rw [Lib.extract_data]
   have hl : 0 < s.data.toList.length := by simpa using hs
   cases h : s.data.toList with
   | nil => rw [h] at hl; simp at hl
   | cons b r => simp
  rw [e1] at he
  exact ⟨_, he, by show _ = _; rw [spanB_cons, spanB_nil], hb⟩
theorem part_whole (s : ByteArray) (w : World) :
  Calls Tryz.prog 233 #[.string s, .func (.func 235) #[] #[]] w fun e w' => ∃ n : Nat, e = .returned (.int .i64 n) ∧ Hid (n = spanB partN s.data.toList) ∧ Below w.heap.size w w' :=
 (span_part s w).mono fun _ _ ⟨he, hb⟩ => ⟨_, he, rfl, hb⟩
theorem word_at {gw ow gs os : Nat} (s : ByteArray) (w : World) (ht : TabsAt gw ow gs os w) :
  Calls Tryz.prog 232 #[.string s] w fun e w' => ∃ b : Bool, e = .returned (.bool b) ∧ Hid (b = isWord s.data.toList) ∧ Below w.heap.size w w' :=
 (word_any s w ht).mono fun _ _ ⟨he, hb⟩ => ⟨_, he, by rw [ByteArray.toList_eq]; rfl, hb⟩
theorem name_any {gw ow gs os : Nat} (s : ByteArray) (w : World) (ht : TabsAt gw ow gs os w) :
  Calls Tryz.prog 228 #[.string s] w fun e w' => e = .returned (.bool (isName s.data.toList)) ∧ Below w.heap.size w w' := by
 by_cases h0 : s.size = 0
 ·obtain rfl := empty_toList s h0
  go_enter Tryz.func228, Tryz.ntmps228
  go_wp2
  go_ret
  exact ⟨rfl, Below.refl _ _⟩
 have hp : 0 < s.size := by omega
 have hne : s.toList.isEmpty = false := by rw [ByteArray.toList_eq]; cases h : s.data.toList with | nil => exact absurd (by rw [Lib.size_eq, h]; rfl) h0 | cons b r => rfl
 have hnl : s.data.toList ≠ [] := fun h => h0 (by rw [Lib.size_eq, h]; rfl)
 have hls : s.data.toList.length = s.size := by simp
 have HN : Hid (isName s.data.toList = (decide (s.size ≤ 40) && !isWord s.data.toList && letterN (s.data.toList.getD 0 0).toNat && decide (spanB partN s.data.toList = s.size))) := by
  show _ = _; rw [isName, decide_eq_true hnl, hls, Bool.true_and]
 clear hnl hls
 obtain ⟨nm, hnm⟩ : ∃ nm, nm = isName s.data.toList := ⟨_, rfl⟩
 rw [← hnm] at HN ⊢
 clear hnm
 go_enter Tryz.func228, Tryz.ntmps228
 go_wp2_with (go_at_call 232; refine (word_at _ _ ht).mono ?_; rintro r w1 ⟨wd, rfl, hwd, hb1⟩)
 ·have hor : (40 : Int) < s.size ∨ wd = true := by assumption
  have hw : wd = true := hor.resolve_left (by omega)
  go_ret
  refine ⟨congrArg (fun b => Ending.returned (.bool b)) ?_, hb1⟩
  rw [HN.out, ← hwd.out, hw]; simp
 ·have hand : (s.size : Int) ≤ 40 ∧ wd = false := by assumption
  have hw : wd = false := hand.2
  have h40 : s.size ≤ 40 := by omega
  refine (first_letter s _ hp).mono ?_
  rintro r w2 ⟨n, rfl, hn, hb2⟩
  cases hl : letterN (s.data.toList.getD 0 0).toNat with
  | false =>
   rw [hl] at hn
   have hn0 : n = 0 := hn.out
   subst hn0
   have HLT : Hid (letterN (s.data.toList.getD 0 0).toNat = false) := hl
   clear hl hn
   go_wp2
   go_ret
   refine ⟨congrArg (fun b => Ending.returned (.bool b)) ?_, hb1.trans (hb2.mono (by have := hb1.size; omega))⟩
   rw [HN.out, HLT.out]; simp
  | true =>
   rw [hl] at hn
   have hn0 : n = 1 := hn.out
   subst hn0
   have HLT : Hid (letterN (s.data.toList.getD 0 0).toNat = true) := hl
   clear hl hn
   go_wp2_with (go_at_call 233; refine (part_whole s _).mono ?_; rintro r w3 ⟨m, rfl, hm, hb3⟩)
   go_ret
   have hz1 := hb1.size
   have hz2 := hb2.size
   refine ⟨congrArg (fun b => Ending.returned (.bool b)) ?_, (hb1.trans (hb2.mono (by omega))).trans (hb3.mono (by omega))⟩
   rw [HN.out, HLT.out, ← hwd.out, hw, ← hm.out, decide_eq_true h40]
   rw [Bool.eq_iff_iff]; simp; omega
 ·have h40 : ¬ s.size ≤ 40 := by omega
  go_ret
  refine ⟨congrArg (fun b => Ending.returned (.bool b)) ?_, Below.refl _ _⟩
  rw [HN.out, decide_eq_false h40]; simp
end Go.Proofs.YtdbijkgnddcneaaGreatDoor.Lx
