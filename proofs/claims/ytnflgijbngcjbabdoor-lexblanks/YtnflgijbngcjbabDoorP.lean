/-
  The walk of the laws' own function 'known': the chapter's first examples are so.
-/
import Derived.Test.YtnflgijbngcjbabDoorN
namespace Go.Proofs.YtnflgijbngcjbabDoor
open Go.RowKit

theorem ex1 : scanSpec [120, 32, 58, 61, 32, 49, 46, 53] = .ok [(2, [120], 0), (7, [58, 61], 2), (5, [49, 46, 53], 5), (1, [], 8)] := by kernel_rfl
theorem ex2 : scanSpec [35] = .error (10, 0) := by kernel_rfl
theorem ex3 : unqSpec [34, 97, 34] = .ok [97] := by kernel_rfl
theorem ex4 : isWord [105, 110] = true := by kernel_rfl
theorem ex5 : isName [97, 49] = true := by kernel_rfl
theorem ex6 : quoteL [97] = [34, 97, 34] := by kernel_rfl

theorem scan1 {gw ow gs os : Nat} (w : World) (ht : TabsAt gw ow gs os w) :
    Calls Tryd.prog 5 #[.string ⟨#[120, 32, 58, 61, 32, 49, 46, 53]⟩] w fun e w' => ∃ g cap, e = .returned (.tuple #[.slice (some ⟨g, 0, none⟩) 4 cap, .nilIface]) ∧ Hid (w'.ownsRow w.heap.size 31 3 (.slice (some ⟨g, 0, none⟩) 4 cap) 4 (tokCells [(2, [120], 0), (7, [58, 61], 2), (5, [49, 46, 53], 5), (1, [], 8)])) ∧ Below w.heap.size w w' := by
  refine (scan_any ⟨#[120, 32, 58, 61, 32, 49, 46, 53]⟩ w ht).mono fun e w' h => ?_
  have h2 : ScanRes w w' e (.ok [(2, [120], 0), (7, [58, 61], 2), (5, [49, 46, 53], 5), (1, [], 8)]) := by rw [← ex1]; exact h
  cases h2 with
  | ok _ v he ho hn hb =>
    rcases ho.2 with ⟨_, h0⟩ | ⟨g, cap, cur, hv, hg, _⟩
    · simp at h0
    subst hv
    exact ⟨g, cap, he, ho, hb⟩
theorem scan2 {gw ow gs os : Nat} (w : World) (ht : TabsAt gw ow gs os w) :
    Calls Tryd.prog 5 #[.string ⟨#[35]⟩] w fun e w' => ∃ b, e = .returned (.tuple #[.slice none 0 0, .iface 49 (.pointer (some ⟨b, 0, none⟩))]) ∧ Hid (WrongAt w' b 10 0) ∧ Below w.heap.size w w' := by
  refine (scan_any ⟨#[35]⟩ w ht).mono fun e w' h => ?_
  have h2 : ScanRes w w' e (.error (10, 0)) := by rw [← ex2]; exact h
  cases h2 with
  | error _ _ b he hlo hw hb => exact ⟨b, he, hw, hb⟩
theorem unq1 (w : World) : Calls Tryd.prog 9 #[.string ⟨#[34, 97, 34]⟩] w fun e w' => e = .returned (.tuple #[.string ⟨#[97]⟩, .nilIface]) ∧ Below w.heap.size w w' := by
  refine (unquote_any ⟨#[34, 97, 34]⟩ w (by decide)).mono fun e w' h => ?_
  have h2 : UnqRes w w' e (.ok [97]) := by rw [← ex3]; exact h
  cases h2 with
  | ok _ he hb => exact ⟨he, hb⟩
theorem word1 {gw ow gs os : Nat} (w : World) (ht : TabsAt gw ow gs os w) : Calls Tryd.prog 10 #[.string ⟨#[105, 110]⟩] w fun e w' => e = .returned (.bool true) ∧ Below w.heap.size w w' :=
  (word_any ⟨#[105, 110]⟩ w ht).mono fun _ _ ⟨he, hb⟩ => ⟨by rw [he, ByteArray.toList_eq]; exact congrArg (fun b => Ending.returned (.bool b)) ex4, hb⟩
theorem name1 {gw ow gs os : Nat} (w : World) (ht : TabsAt gw ow gs os w) : Calls Tryd.prog 11 #[.string ⟨#[97, 49]⟩] w fun e w' => e = .returned (.bool true) ∧ Below w.heap.size w w' :=
  (name_any ⟨#[97, 49]⟩ w ht).mono fun _ _ ⟨he, hb⟩ => ⟨by rw [he]; exact congrArg (fun b => Ending.returned (.bool b)) ex5, hb⟩
theorem quote1 (w : World) : Calls Tryd.prog 12 #[.string ⟨#[97]⟩] w fun e w' => e = .returned (.string ⟨#[34, 97, 34]⟩) ∧ Below w.heap.size w w' :=
  (quote_plain ⟨#[97]⟩ w (by decide) (by decide)).mono fun _ _ ⟨he, hb⟩ => ⟨by rw [he]; exact congrArg (fun l : Bytes => Ending.returned (.string ⟨l.toArray⟩)) ex6, hb⟩

set_option maxRecDepth 100000 in
set_option maxHeartbeats 2000000 in
theorem known_any {gw ow gs os : Nat} (w : World) (ht : TabsAt gw ow gs os w) :
    Calls Tryd.prog 4 #[] w fun e w' => e = .returned (.bool true) ∧ Below w.heap.size w w' := by
  go_enter Tryd.func4, Tryd.ntmps4
  go_wp2_with fail
  refine (scan1 _ ht).mono ?_
  rintro r w1 ⟨g, cap, rfl, HO1, hb1⟩
  have ht1 := ht.below (Nat.le_refl _) hb1
  have hz1 := hb1.size
  go_wp2_with fail
  refine (scan2 _ ht1).mono ?_
  rintro r w2 ⟨b, rfl, HW, hb2⟩
  have ht2 := ht1.below (Nat.le_refl _) hb2
  have hz2 := hb2.size
  have HX2 : Hid (Below w.heap.size w w2) := hb1.trans (hb2.mono hz1)
  have HO2 : Hid (w2.ownsRow w.heap.size 31 3 (.slice (some ⟨g, 0, none⟩) 4 cap) 4 (tokCells [(2, [120], 0), (7, [58, 61], 2), (5, [49, 46, 53], 5), (1, [], 8)])) := ownsRow_below HO1.out hb2
  clear hb1 hb2 ht1 HO1 ht
  go_wp2_with fail
  refine (code_wrong _ _ _ _ HW.out).mono ?_
  rintro r w3 ⟨rfl, hb3⟩
  have ht3 := ht2.below (Nat.le_refl _) hb3
  have hz3 := hb3.size
  have HX3 : Hid (Below w.heap.size w w3) := HX2.out.trans (hb3.mono (by omega))
  have HO3 : Hid (w3.ownsRow w.heap.size 31 3 (.slice (some ⟨g, 0, none⟩) 4 cap) 4 (tokCells [(2, [120], 0), (7, [58, 61], 2), (5, [49, 46, 53], 5), (1, [], 8)])) := ownsRow_below HO2.out hb3
  clear hb3 ht2 HO2 HX2 HW
  go_wp2_with fail
  refine (unq1 _).mono ?_
  rintro r w4 ⟨rfl, hb4⟩
  have ht4 := ht3.below (Nat.le_refl _) hb4
  have hz4 := hb4.size
  have HX4 : Hid (Below w.heap.size w w4) := HX3.out.trans (hb4.mono (by omega))
  have HO4 : Hid (w4.ownsRow w.heap.size 31 3 (.slice (some ⟨g, 0, none⟩) 4 cap) 4 (tokCells [(2, [120], 0), (7, [58, 61], 2), (5, [49, 46, 53], 5), (1, [], 8)])) := ownsRow_below HO3.out hb4
  clear hb4 ht3 HO3 HX3
  go_wp2_with fail
  refine (word1 _ ht4).mono ?_
  rintro r w5 ⟨rfl, hb5⟩
  have ht5 := ht4.below (Nat.le_refl _) hb5
  have hz5 := hb5.size
  have HX5 : Hid (Below w.heap.size w w5) := HX4.out.trans (hb5.mono (by omega))
  have HO5 : Hid (w5.ownsRow w.heap.size 31 3 (.slice (some ⟨g, 0, none⟩) 4 cap) 4 (tokCells [(2, [120], 0), (7, [58, 61], 2), (5, [49, 46, 53], 5), (1, [], 8)])) := ownsRow_below HO4.out hb5
  clear hb5 ht4 HO4 HX4
  go_wp2_with fail
  refine (name1 _ ht5).mono ?_
  rintro r w6 ⟨rfl, hb6⟩
  have hz6 := hb6.size
  have HX6 : Hid (Below w.heap.size w w6) := HX5.out.trans (hb6.mono (by omega))
  have HO6 : Hid (w6.ownsRow w.heap.size 31 3 (.slice (some ⟨g, 0, none⟩) 4 cap) 4 (tokCells [(2, [120], 0), (7, [58, 61], 2), (5, [49, 46, 53], 5), (1, [], 8)])) := ownsRow_below HO5.out hb6
  clear hb6 ht5 HO5 HX5
  have ho := HO6.out
  have c0 : w6.cell? ⟨g, 0, none⟩ = some (.int .i64 2) := ho.cellAt 0 (by decide)
  have c1 : w6.cell? ⟨g, 1, none⟩ = some (.string ⟨#[120]⟩) := ho.cellAt 1 (by decide)
  have c2 : w6.cell? ⟨g, 2, none⟩ = some (.int .i64 0) := ho.cellAt 2 (by decide)
  have c3 : w6.cell? ⟨g, 3, none⟩ = some (.int .i64 7) := ho.cellAt 3 (by decide)
  have c4 : w6.cell? ⟨g, 4, none⟩ = some (.string ⟨#[58, 61]⟩) := ho.cellAt 4 (by decide)
  have c5 : w6.cell? ⟨g, 5, none⟩ = some (.int .i64 2) := ho.cellAt 5 (by decide)
  have c6 : w6.cell? ⟨g, 6, none⟩ = some (.int .i64 5) := ho.cellAt 6 (by decide)
  have c7 : w6.cell? ⟨g, 7, none⟩ = some (.string ⟨#[49, 46, 53]⟩) := ho.cellAt 7 (by decide)
  have c8 : w6.cell? ⟨g, 8, none⟩ = some (.int .i64 5) := ho.cellAt 8 (by decide)
  have c9 : w6.cell? ⟨g, 9, none⟩ = some (.int .i64 1) := ho.cellAt 9 (by decide)
  have c10 : w6.cell? ⟨g, 10, none⟩ = some (.string ⟨#[]⟩) := ho.cellAt 10 (by decide)
  have c11 : w6.cell? ⟨g, 11, none⟩ = some (.int .i64 8) := ho.cellAt 11 (by decide)
  clear ho HO6 hz1 hz2 hz3 hz4 hz5
  go_wp2_with (go_at_call 12; refine (quote1 _).mono ?_; rintro r w7 ⟨rfl, hb7⟩)
  go_ret
  exact ⟨rfl, HX6.out.trans (hb7.mono (by have := HX6.out.size; omega))⟩
end Go.Proofs.YtnflgijbngcjbabDoor
