/-
  What tree.Right asks of one node, at the nodes of the chapter's examples.
-/
import Derived.Test.YthbnegggohegkaaGreatDoorRs
import Derived.Test.YthbnegggohegkaaGreatDoorNm
namespace Go.Proofs.YthbnegggohegkaaGreatDoor
open Go.RowKit

set_option maxHeartbeats 400000 in
theorem role_bin (g : Nat) (i : Int) (hi : i = 0 ∨ i = 1) (w : World) (hg : g < w.heap.size) (h0 : w.cell? ⟨g, 0, none⟩ = some (.int .i64 18)) (h1 : w.cell? ⟨g, 1, none⟩ = some (.int .i64 18)) :
    Calls Tryz.prog 53 #[.agg (binR g), .int .i64 i] w fun e w' => e = .returned (.int .i64 18) ∧ Below w.heap.size w w' := by
  have m0 : min (0 : Int) 1 = 0 := by omega
  have m1 : min (1 : Int) 1 = 1 := by omega
  rcases hi with rfl | rfl
  all_goals
    go_enter Tryz.func53, Tryz.ntmps53
    go_wp2
    go_ret
    exact ⟨rfl, below1 _ _⟩

set_option maxHeartbeats 400000 in
theorem fits_leaf (w : World) : Calls Tryz.prog 92 #[.agg leafR, .int .i64 0] w fun e w' => e = .returned (.int .i64 0) ∧ Below w.heap.size w w' := by
  go_enter Tryz.func92, Tryz.ntmps92
  go_wp2
  go_ret
  exact ⟨rfl, below1 _ _⟩

set_option maxHeartbeats 400000 in
theorem fits_bin (g : Nat) (w : World) : Calls Tryz.prog 92 #[.agg (binR g), .int .i64 2] w fun e w' => e = .returned (.int .i64 0) ∧ Below w.heap.size w w' := by
  go_enter Tryz.func92, Tryz.ntmps92
  go_wp2
  go_ret
  exact ⟨rfl, below1 _ _⟩

set_option maxHeartbeats 400000 in
theorem number_any (k : Int) (s : ByteArray) (a : Int) (p : Option Addr) (n c : Nat) (w : World) :
    Calls Tryz.prog 91 #[.agg #[.int .i64 k, .string s, .int .i64 0, .int .i64 a, .slice p n c]] w fun e w' => e = .returned (.bool true) ∧ Below w.heap.size w w' := by
  go_enter Tryz.func91, Tryz.ntmps91
  go_wp2
  go_ret
  exact ⟨rfl, below1 _ _⟩

/-- The names of the chapter's examples. -/
def Abc (s : ByteArray) : Prop := s = ⟨#[97]⟩ ∨ s = ⟨#[98]⟩ ∨ s = ⟨#[99]⟩
/-- Their signs. -/
def Sgn (s : ByteArray) : Prop := s = ⟨#[43]⟩ ∨ s = ⟨#[42]⟩

theorem name_abc {s : ByteArray} (h : Abc s) : isName s.data.toList = true := by
  rcases h with rfl | rfl | rfl <;> kernel_rfl

set_option maxHeartbeats 1000000 in
theorem treeName_abc {gw ow gs os : Nat} (s : ByteArray) (hs : Abc s) (w : World) (ht : TabsAt gw ow gs os w) :
    Calls Tryz.prog 121 #[.string s] w fun e w' => e = .returned (.bool true) ∧ Below w.heap.size w w' := by
  have hn := name_abc hs
  rcases hs with rfl | rfl | rfl
  all_goals
    go_enter Tryz.func121, Tryz.ntmps121
    go_wp2_with fail
    refine (name_any _ _ ht).mono ?_
    rintro e w1 ⟨rfl, hb⟩
    rw [hn]
    go_wp2_with fail
    go_ret
    exact ⟨rfl, hb⟩

set_option maxRecDepth 100000 in
set_option maxHeartbeats 1000000 in
theorem text_bin (s : ByteArray) (hs : Sgn s) (a r : Int) (p : Option Addr) (c : Nat) (w : World) :
    Calls Tryz.prog 90 #[.agg (binN s a p c), .int .i64 r] w fun e w' => e = .returned (.bool true) ∧ Below w.heap.size w w' := by
  rcases hs with rfl | rfl
  all_goals
    go_enter Tryz.func90, Tryz.ntmps90
    go_wp2
    go_ret
    exact ⟨rfl, below1 _ _⟩

theorem scan01 : scanSpec [48, 49] = .error (12, 0) := by kernel_rfl

set_option maxRecDepth 100000 in
set_option maxHeartbeats 1000000 in
theorem token01 {gw ow gs os : Nat} (w : World) (ht : TabsAt gw ow gs os w) :
    Calls Tryz.prog 125 #[.string ⟨#[48, 49]⟩, .int .i64 4] w fun e w' => e = .returned (.bool false) ∧ Below w.heap.size w w' := by
  have hsc : scanSpec (ByteArray.mk #[48, 49]).data.toList = .error (12, 0) := scan01
  go_enter Tryz.func125, Tryz.ntmps125
  go_wp2_with fail
  refine (scan_any ⟨#[48, 49]⟩ _ ht).mono ?_
  intro e w1 hres
  rw [hsc] at hres
  cases hres with
  | error c p b he hlo hwr hb =>
    subst he
    clear hsc
    go_wp2_with fail
    go_ret
    exact ⟨rfl, hb⟩

set_option maxRecDepth 100000 in
set_option maxHeartbeats 1000000 in
theorem text_int {gw ow gs os : Nat} (a r : Int) (p : Option Addr) (c : Nat) (w : World) (ht : TabsAt gw ow gs os w) :
    Calls Tryz.prog 90 #[.agg (leafN 35 ⟨#[48, 49]⟩ a p c), .int .i64 r] w fun e w' => e = .returned (.bool false) ∧ Below w.heap.size w w' := by
  go_enter Tryz.func90, Tryz.ntmps90
  go_wp2_with fail
  refine (token01 _ (ht.below (Nat.le_refl _) (below1 _ _))).mono ?_
  rintro e w1 ⟨rfl, hb⟩
  go_wp2_with fail
  go_ret
  exact ⟨rfl, (below1 _ _).trans (hb.mono (by simp))⟩
end Go.Proofs.YthbnegggohegkaaGreatDoor
