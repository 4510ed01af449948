/-
  The small functions of tree.Right, at the nodes of the chapter's examples: names, sums and products, an int.
-/
import Derived.Test.YthbnegggohegkaaGreatDoorCn
namespace Go.Proofs.YthbnegggohegkaaGreatDoor
open Go.RowKit

theorem cell_pen (W : World) (cs : Array Value) (t : TypeId) (o : Obj) (n i : Nat) (v : Value) (hn : n = W.heap.size) (h : cs[i]? = some v) : ((W.alloc (.cells cs t)).alloc o).cell? ⟨n, i, none⟩ = some v := by
  subst hn
  rw [World.cell?_alloc_lt _ _ _ (by simp), World.cell?_alloc_new]; exact h

theorem below1 (w : World) (a : Obj) : Below w.heap.size w (w.alloc a) := (Below.refl _ _).alloc (Nat.le_refl _) _
theorem below2 (w : World) (a b : Obj) : Below w.heap.size w ((w.alloc a).alloc b) := (below1 w a).alloc (by simp) _
theorem below3 (w : World) (a b c : Obj) : Below w.heap.size w (((w.alloc a).alloc b).alloc c) := (below2 w a b).alloc (by simp; omega) _
theorem below4 (w : World) (a b c d : Obj) : Below w.heap.size w ((((w.alloc a).alloc b).alloc c).alloc d) := (below3 w a b c).alloc (by simp; omega) _
theorem below5 (w : World) (a b c d e : Obj) : Below w.heap.size w (((((w.alloc a).alloc b).alloc c).alloc d).alloc e) := (below4 w a b c d).alloc (by simp; omega) _

set_option maxHeartbeats 400000 in
theorem takes_0_14 (w : World) : Calls Tryz.prog 66 #[.int .i64 0, .int .i64 14] w fun e w' => e = .returned (.bool true) ∧ w' = w := by
  go_enter Tryz.func66, Tryz.ntmps66
  go_wp2
  go_ret
  exact ⟨rfl, rfl⟩
set_option maxHeartbeats 400000 in
theorem takes_0_51 (w : World) : Calls Tryz.prog 66 #[.int .i64 0, .int .i64 51] w fun e w' => e = .returned (.bool true) ∧ w' = w := by
  go_enter Tryz.func66, Tryz.ntmps66
  go_wp2
  go_ret
  exact ⟨rfl, rfl⟩
set_option maxHeartbeats 400000 in
theorem takes_18_14 (w : World) : Calls Tryz.prog 66 #[.int .i64 18, .int .i64 14] w fun e w' => e = .returned (.bool true) ∧ w' = w := by
  go_enter Tryz.func66, Tryz.ntmps66
  go_wp2
  go_ret
  exact ⟨rfl, rfl⟩
set_option maxHeartbeats 400000 in
theorem takes_18_51 (w : World) : Calls Tryz.prog 66 #[.int .i64 18, .int .i64 51] w fun e w' => e = .returned (.bool true) ∧ w' = w := by
  go_enter Tryz.func66, Tryz.ntmps66
  go_wp2
  go_ret
  exact ⟨rfl, rfl⟩
set_option maxHeartbeats 400000 in
theorem takes_0_35 (w : World) : Calls Tryz.prog 66 #[.int .i64 0, .int .i64 35] w fun e w' => e = .returned (.bool true) ∧ w' = w := by
  go_enter Tryz.func66, Tryz.ntmps66
  go_wp2
  go_ret
  exact ⟨rfl, rfl⟩
set_option maxHeartbeats 400000 in
theorem takes_2_51 (w : World) : Calls Tryz.prog 66 #[.int .i64 2, .int .i64 51] w fun e w' => e = .returned (.bool false) ∧ w' = w := by
  go_enter Tryz.func66, Tryz.ntmps66
  go_wp2
  go_ret
  exact ⟨rfl, rfl⟩
set_option maxHeartbeats 400000 in
theorem takes_3_51 (w : World) : Calls Tryz.prog 66 #[.int .i64 3, .int .i64 51] w fun e w' => e = .returned (.bool false) ∧ w' = w := by
  go_enter Tryz.func66, Tryz.ntmps66
  go_wp2
  go_ret
  exact ⟨rfl, rfl⟩
set_option maxHeartbeats 400000 in
theorem takes_12_51 (w : World) : Calls Tryz.prog 66 #[.int .i64 12, .int .i64 51] w fun e w' => e = .returned (.bool false) ∧ w' = w := by
  go_enter Tryz.func66, Tryz.ntmps66
  go_wp2
  go_ret
  exact ⟨rfl, rfl⟩

set_option maxHeartbeats 400000 in
theorem exactly_any (p : Option Addr) (n c : Nat) (w : World) :
    Calls Tryz.prog 117 #[.slice p n c] w fun e w' => e = .returned (.agg #[.slice p n c, .int .i64 n, .int .i64 n, .bool false]) ∧ w' = w.alloc (.cells #[.slice p n c, .int .i64 n, .int .i64 n, .bool false] 94) := by
  go_enter Tryz.func117, Tryz.ntmps117
  go_wp2
  exact bodyPost_ret (v := .agg #[.slice p n c, .int .i64 n, .int .i64 n, .bool false]) (by simp [results, Tryz.results117, go_sem]) rfl ⟨rfl, rfl⟩

abbrev leafR : Array Value := #[.slice none 0 0, .int .i64 0, .int .i64 0, .bool false]
abbrev binR (g : Nat) : Array Value := #[.slice (some ⟨g, 0, none⟩) 2 2, .int .i64 2, .int .i64 2, .bool false]
abbrev leafN (k : Int) (s : ByteArray) (a : Int) (p : Option Addr) (c : Nat) : Array Value := #[.int .i64 k, .string s, .int .i64 0, .int .i64 a, .slice p 0 c]
abbrev binN (s : ByteArray) (a : Int) (p : Option Addr) (c : Nat) : Array Value := #[.int .i64 51, .string s, .int .i64 0, .int .i64 a, .slice p 2 c]

set_option maxHeartbeats 1000000 in
theorem exprShape_leaf (k : Int) (hk : k = 14 ∨ k = 35) (s : ByteArray) (a r : Int) (p : Option Addr) (c : Nat) (w : World) :
    Calls Tryz.prog 89 #[.agg (leafN k s a p c), .int .i64 r] w fun e w' => e = .returned (.agg leafR) ∧ w' = ((w.alloc (.cells (leafN k s a p c) 24)).alloc (.cells leafR 94)).alloc (.cells leafR 94) := by
  rcases hk with rfl | rfl
  all_goals
    go_enter Tryz.func89, Tryz.ntmps89
    go_wp2_with fail
    refine (exactly_any none 0 0 _).mono ?_
    rintro e w1 ⟨rfl, rfl⟩
    go_wp2_with fail
    exact bodyPost_ret (v := .agg leafR) (by simp [results, Tryz.results89, go_sem]) rfl ⟨rfl, rfl⟩

set_option maxHeartbeats 1000000 in
theorem exprShape_bin (s : ByteArray) (a r : Int) (p : Option Addr) (c : Nat) (w : World) :
    Calls Tryz.prog 89 #[.agg (binN s a p c), .int .i64 r] w fun e w' => e = .returned (.agg (binR (w.heap.size + 1 + 1))) ∧
      w' = (((w.alloc (.cells (binN s a p c) 24)).alloc (.cells (binR (w.heap.size + 1 + 1)) 94)).alloc (.cells #[.int .i64 18, .int .i64 18] 65)).alloc (.cells (binR (w.heap.size + 1 + 1)) 94) := by
  go_enter Tryz.func89, Tryz.ntmps89
  go_wp2_with fail
  refine (exactly_any _ 2 2 _).mono ?_
  rintro e w1 ⟨rfl, rfl⟩
  go_wp2_with fail
  exact bodyPost_ret (v := .agg (binR (w.heap.size + 1 + 1))) (by simp [results, Tryz.results89, go_sem]) rfl ⟨rfl, rfl⟩

set_option maxHeartbeats 1000000 in
theorem shape_leaf (k : Int) (hk : k = 14 ∨ k = 35) (s : ByteArray) (a r : Int) (p : Option Addr) (c : Nat) (w : World) :
    Calls Tryz.prog 49 #[.agg (leafN k s a p c), .int .i64 r] w fun e w' => e = .returned (.agg leafR) ∧ Below w.heap.size w w' := by
  rcases hk with rfl | rfl
  all_goals
    go_enter Tryz.func49, Tryz.ntmps49
    go_wp2_with fail
    refine (exprShape_leaf _ (by simp) s a r p c _).mono ?_
    rintro e w1 ⟨rfl, rfl⟩
    go_wp2_with fail
    exact bodyPost_ret (v := .agg leafR) (by simp [results, Tryz.results49, go_sem]) rfl ⟨rfl, below5 _ _ _ _ _ _⟩

set_option maxHeartbeats 1000000 in
theorem shape_bin (s : ByteArray) (a r : Int) (p : Option Addr) (c : Nat) (w : World) :
    Calls Tryz.prog 49 #[.agg (binN s a p c), .int .i64 r] w fun e w' => ∃ g, e = .returned (.agg (binR g)) ∧ w.heap.size ≤ g ∧ g < w'.heap.size ∧ w'.cell? ⟨g, 0, none⟩ = some (.int .i64 18) ∧ w'.cell? ⟨g, 1, none⟩ = some (.int .i64 18) ∧ Below w.heap.size w w' := by
  go_enter Tryz.func49, Tryz.ntmps49
  go_wp2_with fail
  refine (exprShape_bin s a r p c _).mono ?_
  rintro e w1 ⟨rfl, rfl⟩
  go_wp2_with fail
  refine bodyPost_ret (v := .agg (binR (w.heap.size + 1 + 1 + 1 + 1))) (by simp [results, Tryz.results49, go_sem]) rfl ⟨_, rfl, by omega, by simp <;> omega, ?_, ?_, ?_⟩
  · exact cell_pen _ _ _ _ _ _ _ (by simp) rfl
  · exact cell_pen _ _ _ _ _ _ _ (by simp) rfl
  · exact (below5 _ _ _ _ _ _).alloc (by simp; omega) _
end Go.Proofs.YthbnegggohegkaaGreatDoor
