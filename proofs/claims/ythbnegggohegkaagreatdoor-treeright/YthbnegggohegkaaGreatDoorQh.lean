/-
  The document's own answer for trees: bounds, most, wrong, at, at every node.
-/
import Derived.Test.YthbnegggohegkaaGreatDoorQe
import Derived.Test.YthbnegggohegkaaGreatDoorGiJ
import Derived.Test.YthbnegggohegkaaGreatDoorGrJ
namespace Go.Proofs.YthbnegggohegkaaGreatDoor
open Go.RowKit

/-- How many Kids a node may have, as the document has it. -/
def boundsS (k : Int) (s : Bytes) (st : Nat) : Int × Int :=
  if ([1, 3, 4, 13, 17, 39, 41] : List Int).contains k then (0, -1) else
  if ([2, 7, 12, 15, 18, 28, 29, 30, 34, 42, 44, 45, 50] : List Int).contains k then (1, 1) else
  if ([5, 20, 23, 27, 43, 46, 49, 51] : List Int).contains k then (2, 2) else
  if ([6, 19, 21, 22] : List Int).contains k then (3, 3) else
  if ([24, 47] : List Int).contains k then (4, 4) else
  if ([25, 48] : List Int).contains k then (1, -1) else
  if ([26] : List Int).contains k then (2, -1) else
  if k == 38 then (if st == 19 || st == 20 then (1, -1) else (0, -1)) else
  if k == 40 then (if st == 23 || (st == 0 && !(s == [])) then (1, 1) else (2, 2)) else (0, 0)

set_option maxRecDepth 100000 in
set_option maxHeartbeats 8000000 in
theorem bounds_0 (k : Int) (hk : k = 1 ∨ k = 3 ∨ k = 4 ∨ k = 13 ∨ k = 17 ∨ k = 39 ∨ k = 41) (s : ByteArray) (n a : Int) (p : Option Addr) (m c st : Nat) (w : World) : Calls Tryz.prog 45 #[.agg (nd k s n a p m c), .int .i64 (st : Nat)] w fun e w' => e = .returned (.tuple #[.int .i64 0, .int .i64 (-1)]) ∧ Below w.heap.size w w' := by
  rcases hk with rfl | rfl | rfl | rfl | rfl | rfl | rfl
  all_goals
    go_enter Tryz.func45, Tryz.ntmps45
    go_wp2
    exact bodyPost_ret (v := .tuple #[.int .i64 0, .int .i64 (-1)]) (by simp [results, Tryz.results45, go_sem]) rfl ⟨rfl, below1 _ _⟩

set_option maxRecDepth 100000 in
set_option maxHeartbeats 8000000 in
theorem bounds_1 (k : Int) (hk : k = 2 ∨ k = 7 ∨ k = 12 ∨ k = 15 ∨ k = 18 ∨ k = 28 ∨ k = 29 ∨ k = 30 ∨ k = 34 ∨ k = 42 ∨ k = 44 ∨ k = 45 ∨ k = 50) (s : ByteArray) (n a : Int) (p : Option Addr) (m c st : Nat) (w : World) : Calls Tryz.prog 45 #[.agg (nd k s n a p m c), .int .i64 (st : Nat)] w fun e w' => e = .returned (.tuple #[.int .i64 1, .int .i64 1]) ∧ Below w.heap.size w w' := by
  rcases hk with rfl | rfl | rfl | rfl | rfl | rfl | rfl | rfl | rfl | rfl | rfl | rfl | rfl
  all_goals
    go_enter Tryz.func45, Tryz.ntmps45
    go_wp2
    exact bodyPost_ret (v := .tuple #[.int .i64 1, .int .i64 1]) (by simp [results, Tryz.results45, go_sem]) rfl ⟨rfl, below1 _ _⟩

set_option maxRecDepth 100000 in
set_option maxHeartbeats 8000000 in
theorem bounds_2 (k : Int) (hk : k = 5 ∨ k = 20 ∨ k = 23 ∨ k = 27 ∨ k = 43 ∨ k = 46 ∨ k = 49 ∨ k = 51) (s : ByteArray) (n a : Int) (p : Option Addr) (m c st : Nat) (w : World) : Calls Tryz.prog 45 #[.agg (nd k s n a p m c), .int .i64 (st : Nat)] w fun e w' => e = .returned (.tuple #[.int .i64 2, .int .i64 2]) ∧ Below w.heap.size w w' := by
  rcases hk with rfl | rfl | rfl | rfl | rfl | rfl | rfl | rfl
  all_goals
    go_enter Tryz.func45, Tryz.ntmps45
    go_wp2
    exact bodyPost_ret (v := .tuple #[.int .i64 2, .int .i64 2]) (by simp [results, Tryz.results45, go_sem]) rfl ⟨rfl, below1 _ _⟩

set_option maxRecDepth 100000 in
set_option maxHeartbeats 8000000 in
theorem bounds_3 (k : Int) (hk : k = 6 ∨ k = 19 ∨ k = 21 ∨ k = 22) (s : ByteArray) (n a : Int) (p : Option Addr) (m c st : Nat) (w : World) : Calls Tryz.prog 45 #[.agg (nd k s n a p m c), .int .i64 (st : Nat)] w fun e w' => e = .returned (.tuple #[.int .i64 3, .int .i64 3]) ∧ Below w.heap.size w w' := by
  rcases hk with rfl | rfl | rfl | rfl
  all_goals
    go_enter Tryz.func45, Tryz.ntmps45
    go_wp2
    exact bodyPost_ret (v := .tuple #[.int .i64 3, .int .i64 3]) (by simp [results, Tryz.results45, go_sem]) rfl ⟨rfl, below1 _ _⟩

set_option maxRecDepth 100000 in
set_option maxHeartbeats 8000000 in
theorem bounds_4 (k : Int) (hk : k = 24 ∨ k = 47) (s : ByteArray) (n a : Int) (p : Option Addr) (m c st : Nat) (w : World) : Calls Tryz.prog 45 #[.agg (nd k s n a p m c), .int .i64 (st : Nat)] w fun e w' => e = .returned (.tuple #[.int .i64 4, .int .i64 4]) ∧ Below w.heap.size w w' := by
  rcases hk with rfl | rfl
  all_goals
    go_enter Tryz.func45, Tryz.ntmps45
    go_wp2
    exact bodyPost_ret (v := .tuple #[.int .i64 4, .int .i64 4]) (by simp [results, Tryz.results45, go_sem]) rfl ⟨rfl, below1 _ _⟩

set_option maxRecDepth 100000 in
set_option maxHeartbeats 8000000 in
theorem bounds_5 (k : Int) (hk : k = 25 ∨ k = 48) (s : ByteArray) (n a : Int) (p : Option Addr) (m c st : Nat) (w : World) : Calls Tryz.prog 45 #[.agg (nd k s n a p m c), .int .i64 (st : Nat)] w fun e w' => e = .returned (.tuple #[.int .i64 1, .int .i64 (-1)]) ∧ Below w.heap.size w w' := by
  rcases hk with rfl | rfl
  all_goals
    go_enter Tryz.func45, Tryz.ntmps45
    go_wp2
    exact bodyPost_ret (v := .tuple #[.int .i64 1, .int .i64 (-1)]) (by simp [results, Tryz.results45, go_sem]) rfl ⟨rfl, below1 _ _⟩

set_option maxRecDepth 100000 in
set_option maxHeartbeats 8000000 in
theorem bounds_6 (k : Int) (hk : k = 26) (s : ByteArray) (n a : Int) (p : Option Addr) (m c st : Nat) (w : World) : Calls Tryz.prog 45 #[.agg (nd k s n a p m c), .int .i64 (st : Nat)] w fun e w' => e = .returned (.tuple #[.int .i64 2, .int .i64 (-1)]) ∧ Below w.heap.size w w' := by
  rcases hk with rfl
  go_enter Tryz.func45, Tryz.ntmps45
  go_wp2
  exact bodyPost_ret (v := .tuple #[.int .i64 2, .int .i64 (-1)]) (by simp [results, Tryz.results45, go_sem]) rfl ⟨rfl, below1 _ _⟩

set_option maxRecDepth 100000 in
set_option maxHeartbeats 8000000 in
theorem bounds_38a (s : ByteArray) (n a : Int) (p : Option Addr) (m c : Nat) (w : World) : Calls Tryz.prog 45 #[.agg (nd 38 s n a p m c), .int .i64 19] w fun e w' => e = .returned (.tuple #[.int .i64 1, .int .i64 (-1)]) ∧ Below w.heap.size w w' := by
  go_enter Tryz.func45, Tryz.ntmps45
  go_wp2
  exact bodyPost_ret (v := .tuple #[.int .i64 1, .int .i64 (-1)]) (by simp [results, Tryz.results45, go_sem]) rfl ⟨rfl, below1 _ _⟩

set_option maxRecDepth 100000 in
set_option maxHeartbeats 8000000 in
theorem bounds_38b (s : ByteArray) (n a : Int) (p : Option Addr) (m c : Nat) (w : World) : Calls Tryz.prog 45 #[.agg (nd 38 s n a p m c), .int .i64 20] w fun e w' => e = .returned (.tuple #[.int .i64 1, .int .i64 (-1)]) ∧ Below w.heap.size w w' := by
  go_enter Tryz.func45, Tryz.ntmps45
  go_wp2
  exact bodyPost_ret (v := .tuple #[.int .i64 1, .int .i64 (-1)]) (by simp [results, Tryz.results45, go_sem]) rfl ⟨rfl, below1 _ _⟩

set_option maxRecDepth 100000 in
set_option maxHeartbeats 8000000 in
theorem bounds_38c (s : ByteArray) (n a : Int) (p : Option Addr) (m c st : Nat) (w : World) (h19 : (((st : Nat) : Int) == 19) = false) (h20 : (((st : Nat) : Int) == 20) = false) : Calls Tryz.prog 45 #[.agg (nd 38 s n a p m c), .int .i64 (st : Nat)] w fun e w' => e = .returned (.tuple #[.int .i64 0, .int .i64 (-1)]) ∧ Below w.heap.size w w' := by
  go_enter Tryz.func45, Tryz.ntmps45
  go_wp2
  exact bodyPost_ret (v := .tuple #[.int .i64 0, .int .i64 (-1)]) (by simp [results, Tryz.results45, go_sem]) rfl ⟨rfl, below1 _ _⟩

set_option maxRecDepth 100000 in
set_option maxHeartbeats 8000000 in
theorem bounds_40a (s : ByteArray) (n a : Int) (p : Option Addr) (m c : Nat) (w : World) : Calls Tryz.prog 45 #[.agg (nd 40 s n a p m c), .int .i64 23] w fun e w' => e = .returned (.tuple #[.int .i64 1, .int .i64 1]) ∧ Below w.heap.size w w' := by
  go_enter Tryz.func45, Tryz.ntmps45
  go_wp2
  exact bodyPost_ret (v := .tuple #[.int .i64 1, .int .i64 1]) (by simp [results, Tryz.results45, go_sem]) rfl ⟨rfl, below1 _ _⟩

set_option maxRecDepth 100000 in
set_option maxHeartbeats 8000000 in
theorem bounds_40b (s : ByteArray) (n a : Int) (p : Option Addr) (m c : Nat) (w : World) (h0 : (s.toList == []) = false) : Calls Tryz.prog 45 #[.agg (nd 40 s n a p m c), .int .i64 0] w fun e w' => e = .returned (.tuple #[.int .i64 1, .int .i64 1]) ∧ Below w.heap.size w w' := by
  go_enter Tryz.func45, Tryz.ntmps45
  go_wp2
  exact bodyPost_ret (v := .tuple #[.int .i64 1, .int .i64 1]) (by simp [results, Tryz.results45, go_sem]) rfl ⟨rfl, below1 _ _⟩

set_option maxRecDepth 100000 in
set_option maxHeartbeats 8000000 in
theorem bounds_40c (n a : Int) (p : Option Addr) (m c : Nat) (w : World) : Calls Tryz.prog 45 #[.agg (nd 40 ⟨#[]⟩ n a p m c), .int .i64 0] w fun e w' => e = .returned (.tuple #[.int .i64 2, .int .i64 2]) ∧ Below w.heap.size w w' := by
  go_enter Tryz.func45, Tryz.ntmps45
  go_wp2
  exact bodyPost_ret (v := .tuple #[.int .i64 2, .int .i64 2]) (by simp [results, Tryz.results45, go_sem]) rfl ⟨rfl, below1 _ _⟩

set_option maxRecDepth 100000 in
set_option maxHeartbeats 8000000 in
theorem bounds_40d (s : ByteArray) (n a : Int) (p : Option Addr) (m c st : Nat) (w : World) (h23 : (((st : Nat) : Int) == 23) = false) (h0 : (((st : Nat) : Int) == 0) = false) : Calls Tryz.prog 45 #[.agg (nd 40 s n a p m c), .int .i64 (st : Nat)] w fun e w' => e = .returned (.tuple #[.int .i64 2, .int .i64 2]) ∧ Below w.heap.size w w' := by
  go_enter Tryz.func45, Tryz.ntmps45
  go_wp2
  exact bodyPost_ret (v := .tuple #[.int .i64 2, .int .i64 2]) (by simp [results, Tryz.results45, go_sem]) rfl ⟨rfl, below1 _ _⟩

set_option maxRecDepth 100000 in
set_option maxHeartbeats 8000000 in
theorem bounds_none (k : Int) (g1 : (k == 1) = false) (g3 : (k == 3) = false) (g4 : (k == 4) = false) (g13 : (k == 13) = false) (g17 : (k == 17) = false) (g39 : (k == 39) = false) (g41 : (k == 41) = false) (g2 : (k == 2) = false) (g7 : (k == 7) = false) (g12 : (k == 12) = false) (g15 : (k == 15) = false) (g18 : (k == 18) = false) (g28 : (k == 28) = false) (g29 : (k == 29) = false) (g30 : (k == 30) = false) (g34 : (k == 34) = false) (g42 : (k == 42) = false) (g44 : (k == 44) = false) (g45 : (k == 45) = false) (g50 : (k == 50) = false) (g5 : (k == 5) = false) (g20 : (k == 20) = false) (g23 : (k == 23) = false) (g27 : (k == 27) = false) (g43 : (k == 43) = false) (g46 : (k == 46) = false) (g49 : (k == 49) = false) (g51 : (k == 51) = false) (g6 : (k == 6) = false) (g19 : (k == 19) = false) (g21 : (k == 21) = false) (g22 : (k == 22) = false) (g24 : (k == 24) = false) (g47 : (k == 47) = false) (g25 : (k == 25) = false) (g48 : (k == 48) = false) (g26 : (k == 26) = false) (g38 : (k == 38) = false) (g40 : (k == 40) = false) (s : ByteArray) (n a : Int) (p : Option Addr) (m c st : Nat) (w : World) : Calls Tryz.prog 45 #[.agg (nd k s n a p m c), .int .i64 (st : Nat)] w fun e w' => e = .returned (.tuple #[.int .i64 0, .int .i64 0]) ∧ Below w.heap.size w w' := by
  go_enter Tryz.func45, Tryz.ntmps45
  go_wp2
  exact bodyPost_ret (v := .tuple #[.int .i64 0, .int .i64 0]) (by simp [results, Tryz.results45, go_sem]) rfl ⟨rfl, below1 _ _⟩

theorem bounds_any (k : Int) (s : ByteArray) (n a : Int) (p : Option Addr) (m c st : Nat) (w : World) : Calls Tryz.prog 45 #[.agg (nd k s n a p m c), .int .i64 (st : Nat)] w fun e w' => e = .returned (.tuple #[.int .i64 (boundsS k s.data.toList st).1, .int .i64 (boundsS k s.data.toList st).2]) ∧ Below w.heap.size w w' := by
  by_cases e1 : k = 1
  · subst e1; exact bounds_0 1 (by decide) s n a p m c st w
  by_cases e3 : k = 3
  · subst e3; exact bounds_0 3 (by decide) s n a p m c st w
  by_cases e4 : k = 4
  · subst e4; exact bounds_0 4 (by decide) s n a p m c st w
  by_cases e13 : k = 13
  · subst e13; exact bounds_0 13 (by decide) s n a p m c st w
  by_cases e17 : k = 17
  · subst e17; exact bounds_0 17 (by decide) s n a p m c st w
  by_cases e39 : k = 39
  · subst e39; exact bounds_0 39 (by decide) s n a p m c st w
  by_cases e41 : k = 41
  · subst e41; exact bounds_0 41 (by decide) s n a p m c st w
  by_cases e2 : k = 2
  · subst e2; exact bounds_1 2 (by decide) s n a p m c st w
  by_cases e7 : k = 7
  · subst e7; exact bounds_1 7 (by decide) s n a p m c st w
  by_cases e12 : k = 12
  · subst e12; exact bounds_1 12 (by decide) s n a p m c st w
  by_cases e15 : k = 15
  · subst e15; exact bounds_1 15 (by decide) s n a p m c st w
  by_cases e18 : k = 18
  · subst e18; exact bounds_1 18 (by decide) s n a p m c st w
  by_cases e28 : k = 28
  · subst e28; exact bounds_1 28 (by decide) s n a p m c st w
  by_cases e29 : k = 29
  · subst e29; exact bounds_1 29 (by decide) s n a p m c st w
  by_cases e30 : k = 30
  · subst e30; exact bounds_1 30 (by decide) s n a p m c st w
  by_cases e34 : k = 34
  · subst e34; exact bounds_1 34 (by decide) s n a p m c st w
  by_cases e42 : k = 42
  · subst e42; exact bounds_1 42 (by decide) s n a p m c st w
  by_cases e44 : k = 44
  · subst e44; exact bounds_1 44 (by decide) s n a p m c st w
  by_cases e45 : k = 45
  · subst e45; exact bounds_1 45 (by decide) s n a p m c st w
  by_cases e50 : k = 50
  · subst e50; exact bounds_1 50 (by decide) s n a p m c st w
  by_cases e5 : k = 5
  · subst e5; exact bounds_2 5 (by decide) s n a p m c st w
  by_cases e20 : k = 20
  · subst e20; exact bounds_2 20 (by decide) s n a p m c st w
  by_cases e23 : k = 23
  · subst e23; exact bounds_2 23 (by decide) s n a p m c st w
  by_cases e27 : k = 27
  · subst e27; exact bounds_2 27 (by decide) s n a p m c st w
  by_cases e43 : k = 43
  · subst e43; exact bounds_2 43 (by decide) s n a p m c st w
  by_cases e46 : k = 46
  · subst e46; exact bounds_2 46 (by decide) s n a p m c st w
  by_cases e49 : k = 49
  · subst e49; exact bounds_2 49 (by decide) s n a p m c st w
  by_cases e51 : k = 51
  · subst e51; exact bounds_2 51 (by decide) s n a p m c st w
  by_cases e6 : k = 6
  · subst e6; exact bounds_3 6 (by decide) s n a p m c st w
  by_cases e19 : k = 19
  · subst e19; exact bounds_3 19 (by decide) s n a p m c st w
  by_cases e21 : k = 21
  · subst e21; exact bounds_3 21 (by decide) s n a p m c st w
  by_cases e22 : k = 22
  · subst e22; exact bounds_3 22 (by decide) s n a p m c st w
  by_cases e24 : k = 24
  · subst e24; exact bounds_4 24 (by decide) s n a p m c st w
  by_cases e47 : k = 47
  · subst e47; exact bounds_4 47 (by decide) s n a p m c st w
  by_cases e25 : k = 25
  · subst e25; exact bounds_5 25 (by decide) s n a p m c st w
  by_cases e48 : k = 48
  · subst e48; exact bounds_5 48 (by decide) s n a p m c st w
  by_cases e26 : k = 26
  · subst e26; exact bounds_6 26 (by decide) s n a p m c st w
  by_cases e38 : k = 38
  · subst e38
    by_cases h19 : st = 19
    · subst h19; exact bounds_38a s n a p m c w
    by_cases h20 : st = 20
    · subst h20; exact bounds_38b s n a p m c w
    have e : boundsS 38 s.data.toList st = (0, -1) := by show (if (st == 19 || st == 20) = true then _ else _) = _; rw [beq_false_of_ne h19, beq_false_of_ne h20]; rfl
    rw [e]; exact bounds_38c s n a p m c st w (by simp; omega) (by simp; omega)
  by_cases e40 : k = 40
  · subst e40
    by_cases h23 : st = 23
    · subst h23; exact bounds_40a s n a p m c w
    by_cases h0 : st = 0
    · subst h0
      by_cases hs : s.data.toList = []
      · obtain rfl := text_eq hs; exact bounds_40c n a p m c w
      · have e : boundsS 40 s.data.toList 0 = (1, 1) := by show (if (0 == 23 || (0 == 0 && !(s.data.toList == []))) = true then _ else _) = _; rw [beq_false_of_ne hs]; rfl
        rw [e]; exact bounds_40b s n a p m c w (list_empty hs)
    have e : boundsS 40 s.data.toList st = (2, 2) := by show (if (st == 23 || (st == 0 && _)) = true then _ else _) = _; rw [beq_false_of_ne h23, beq_false_of_ne h0]; rfl
    rw [e]; exact bounds_40d s n a p m c st w (by simp; omega) (by simp; omega)
  have e : boundsS k s.data.toList st = (0, 0) := by
    unfold boundsS
    rw [if_neg (by simp [e1, e3, e4, e13, e17, e39, e41])]
    rw [if_neg (by simp [e2, e7, e12, e15, e18, e28, e29, e30, e34, e42, e44, e45, e50])]
    rw [if_neg (by simp [e5, e20, e23, e27, e43, e46, e49, e51])]
    rw [if_neg (by simp [e6, e19, e21, e22])]
    rw [if_neg (by simp [e24, e47])]
    rw [if_neg (by simp [e25, e48])]
    rw [if_neg (by simp [e26])]
    rw [if_neg (by simp [e38]), if_neg (by simp [e40])]
  rw [e]
  exact bounds_none k (beq_false_of_ne e1) (beq_false_of_ne e3) (beq_false_of_ne e4) (beq_false_of_ne e13) (beq_false_of_ne e17) (beq_false_of_ne e39) (beq_false_of_ne e41) (beq_false_of_ne e2) (beq_false_of_ne e7) (beq_false_of_ne e12) (beq_false_of_ne e15) (beq_false_of_ne e18) (beq_false_of_ne e28) (beq_false_of_ne e29) (beq_false_of_ne e30) (beq_false_of_ne e34) (beq_false_of_ne e42) (beq_false_of_ne e44) (beq_false_of_ne e45) (beq_false_of_ne e50) (beq_false_of_ne e5) (beq_false_of_ne e20) (beq_false_of_ne e23) (beq_false_of_ne e27) (beq_false_of_ne e43) (beq_false_of_ne e46) (beq_false_of_ne e49) (beq_false_of_ne e51) (beq_false_of_ne e6) (beq_false_of_ne e19) (beq_false_of_ne e21) (beq_false_of_ne e22) (beq_false_of_ne e24) (beq_false_of_ne e47) (beq_false_of_ne e25) (beq_false_of_ne e48) (beq_false_of_ne e26) (beq_false_of_ne e38) (beq_false_of_ne e40) s n a p m c st w

/-- How many are too many. -/
def mostS (k : Int) : Int := if k == 3 then 30 else if k == 4 then 60 else if k == 13 then 12 else 0
set_option maxRecDepth 100000 in
set_option maxHeartbeats 8000000 in
theorem most_any (k : Int) (w : World) : Calls Tryz.prog 46 #[.int .i64 k] w fun e w' => e = .returned (.int .i64 (mostS k)) ∧ w' = w := by
  by_cases h3 : k = 3
  · subst h3
    go_enter Tryz.func46, Tryz.ntmps46
    go_wp2
    go_ret
    exact ⟨rfl, rfl⟩
  by_cases h4 : k = 4
  · subst h4
    go_enter Tryz.func46, Tryz.ntmps46
    go_wp2
    go_ret
    exact ⟨rfl, rfl⟩
  by_cases h13 : k = 13
  · subst h13
    go_enter Tryz.func46, Tryz.ntmps46
    go_wp2
    go_ret
    exact ⟨rfl, rfl⟩
  have g3 : (k == 3) = false := beq_false_of_ne h3
  have g4 : (k == 4) = false := beq_false_of_ne h4
  have g13 : (k == 13) = false := beq_false_of_ne h13
  have e : mostS k = 0 := by unfold mostS; simp only [g3, g4, g13, Bool.false_eq_true, if_false]
  rw [e]
  clear e h3 h4 h13
  go_enter Tryz.func46, Tryz.ntmps46
  go_wp2
  go_ret
  exact ⟨rfl, rfl⟩

set_option maxRecDepth 100000 in
set_option maxHeartbeats 8000000 in
theorem rWrong_any (code k : Int) (s : ByteArray) (n a : Int) (p : Option Addr) (m c : Nat) (w : World) :
    Calls Tryz.prog 47 #[.int .i64 code, .agg (nd k s n a p m c)] w fun e w' => e = .returned (.agg #[.int .i64 code, .int .i64 a, .string (if s.size ≤ 40 then s else ⟨#[]⟩)]) ∧ Below w.heap.size w w' := by
  by_cases h : s.size ≤ 40
  · rw [if_pos h]
    have h' : ¬ (40 : Int) < (s.size : Int) := by omega
    go_enter Tryz.func47, Tryz.ntmps47
    go_wp2
    refine bodyPost_ret (v := .agg #[.int .i64 code, .int .i64 a, .string s]) (by simp [results, Tryz.results47, go_sem]) rfl ⟨rfl, ?_⟩
    first
      | exact below3 _ _ _ _
      | exact ((below3 _ _ _ _).setCell (by simp <;> omega) _)
  · rw [if_neg h]
    have h' : (40 : Int) < (s.size : Int) := by omega
    go_enter Tryz.func47, Tryz.ntmps47
    go_wp2
    refine bodyPost_ret (v := .agg #[.int .i64 code, .int .i64 a, .string ⟨#[]⟩]) (by simp [results, Tryz.results47, go_sem]) rfl ⟨rfl, ?_⟩
    first
      | exact below3 _ _ _ _
      | exact ((below3 _ _ _ _).setCell (by simp <;> omega) _)

set_option maxHeartbeats 1000000 in
theorem at_walk (g r i j x : Nat) (c : Nat) (hr : 0 < r) (hj : j = min i (r - 1)) (w : World) (hx : w.cell? ⟨g, j, none⟩ = some (.int .i64 (x : Nat))) (hr2 : r < 100) :
    Calls Tryz.prog 84 #[.slice (some ⟨g, 0, none⟩) r c, .int .i64 (i : Nat)] w fun e w' => e = .returned (.int .i64 (x : Nat)) ∧ w' = w := by
  by_cases h : i < r
  · obtain rfl : j = i := by omega
    have h' : ¬ ((r : Nat) : Int) ≤ ((j : Nat) : Int) := by omega
    clear hj
    go_enter Tryz.func84, Tryz.ntmps84
    go_wp2
    go_ret
    exact ⟨rfl, rfl⟩
  · have h' : ((r : Nat) : Int) ≤ ((i : Nat) : Int) := by omega
    have hm : ((r : Nat) : Int) - 1 = ((j : Nat) : Int) := by omega
    have hjr : j < r := by omega
    clear hj
    go_enter Tryz.func84, Tryz.ntmps84
    go_wp2
    go_ret
    exact ⟨rfl, rfl⟩
end Go.Proofs.YthbnegggohegkaaGreatDoor
