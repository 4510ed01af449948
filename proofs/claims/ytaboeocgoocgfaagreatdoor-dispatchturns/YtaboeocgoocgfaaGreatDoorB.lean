/-
  The walks of lex.Word, lex.wordEndsLine, lex.signLength and their like over the two tables, at every argument.
-/
import Derived.Test.YtaboeocgoocgfaaGreatDoorA
namespace Go.Proofs.YtaboeocgoocgfaaGreatDoor
open Go.RowKit

/-- The two tables lie in memory. -/
structure TabsAt (gw ow gs os : Nat) (w : World) : Prop where
  words : w.cell? ⟨2, 0, none⟩ = some (.slice (some ⟨gw, ow, none⟩) 22 22)
  signs : w.cell? ⟨3, 0, none⟩ = some (.slice (some ⟨gs, os, none⟩) 42 42)
  word : ∀ k, k < 22 → w.cell? ⟨gw, ow + k * 2, none⟩ = some (.string (wordS k)) ∧ w.cell? ⟨gw, ow + k * 2 + 1, none⟩ = some (.bool (wordE k))
  sign : ∀ k, k < 42 → w.cell? ⟨gs, os + k, none⟩ = some (.string (signS k))
  two : 4 ≤ w.heap.size
  gwLt : gw < w.heap.size
  gsLt : gs < w.heap.size

theorem TabsAt.below {gw ow gs os : Nat} {w w' : World} (h : TabsAt gw ow gs os w) {B : Nat} (hB : w.heap.size ≤ B) (hb : Below B w w') : TabsAt gw ow gs os w' :=
  have h2 := h.two
  have h3 := h.gwLt
  have h4 := h.gsLt
  ⟨(hb.cell (p := ⟨2, 0, none⟩) (by show 2 < B; omega)).trans h.words, (hb.cell (p := ⟨3, 0, none⟩) (by show 3 < B; omega)).trans h.signs,
   fun k hk => ⟨(hb.cell (p := ⟨gw, ow + k * 2, none⟩) (by show gw < B; omega)).trans (h.word k hk).1, (hb.cell (p := ⟨gw, ow + k * 2 + 1, none⟩) (by show gw < B; omega)).trans (h.word k hk).2⟩,
   fun k hk => (hb.cell (p := ⟨gs, os + k, none⟩) (by show gs < B; omega)).trans (h.sign k hk), by have := hb.size; omega, by have := hb.size; omega, by have := hb.size; omega⟩

set_option maxHeartbeats 400000 in
theorem word_any {gw ow gs os : Nat} (s : ByteArray) (w : World) (ht : TabsAt gw ow gs os w) :
    Calls Tryz.prog 117 #[.string s] w fun e w' => e = .returned (.bool (isWord s.toList)) ∧ Below w.heap.size w w' := by
  have hw0 := ht.words
  go_enter Tryz.func117, Tryz.ntmps117
  go_wp2
  clear hw0
  go_loopw [7] (fun i wr => ∃ k : Nat, k ≤ 22 ∧ i = .int .i64 k ∧ Below w.heap.size w wr ∧ ∀ j, j < k → wordL j ≠ s.toList) (fun i _ => 22 - (intOf i).toNat)
  case atStart => exact ⟨0, Nat.zero_le _, rfl, Below.refl _ _, fun j hj => by omega⟩
  case round =>
    obtain ⟨k, hk, rfl, hb, hno⟩ := hrel
    have ht' := ht.below (Nat.le_refl _) hb
    by_cases hlt : k < 22
    · obtain ⟨h1, h2⟩ := ht'.word k hlt
      have HN : Hid (∀ j, j < k → wordL j ≠ s.toList) := hno
      clear hno
      have hb2 : Below w.heap.size w (wr.alloc (Obj.cells #[Value.string (wordS k), Value.bool (wordE k)] 222)) := hb.alloc hb.size _
      go_wp2
      · have hq : ((wordS k).toList == s.toList) = true := by assumption
        go_ret
        rw [wordS_toList] at hq
        exact ⟨congrArg (fun b => Ending.returned (.bool b)) (isWord_of s.toList k hlt (by simpa using hq)).symm, hb2⟩
      · have hq : ((wordS k).toList == s.toList) = false := by assumption
        rw [wordS_toList] at hq
        go_roundw
        case rel => exact ⟨k + 1, by omega, by go_num, hb2, fun j hj => if e : j = k then by subst e; simpa using hq else HN.out j (by omega)⟩
        case measure => simp [intOf]; omega
    · go_wp2
      go_ret
      exact ⟨congrArg (fun b => Ending.returned (.bool b)) (isWord_not s.toList (fun j hj => hno j (by omega))).symm, hb⟩
end Go.Proofs.YtaboeocgoocgfaaGreatDoor
