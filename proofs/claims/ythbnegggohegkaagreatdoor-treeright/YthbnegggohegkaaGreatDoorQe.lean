/-
  The document's own answer for trees: expression, statement, stands, Level, at every node.
-/
import Derived.Test.YthbnegggohegkaaGreatDoorGmJ
import Derived.Test.YthbnegggohegkaaGreatDoorGiJ
import Derived.Test.YthbnegggohegkaaGreatDoorGb
namespace Go.Proofs.YthbnegggohegkaaGreatDoor
open Go.RowKit

/-- The role of a stand. -/
def roleS (st : Nat) : Nat := [0, 2, 5, 3, 4, 8, 11, 6, 9, 7, 18, 19, 12, 14, 15, 13, 10, 21, 22, 23, 24, 16, 28, 29, 30, 25, 27, 26, 17, 1].getD st 1
def exprK (k : Int) : Bool := k == 14 || (decide (35 ≤ k) && decide (k ≤ 39)) || k == 41 || (decide (42 ≤ k) && decide (k ≤ 51))
def stmtK (k : Int) : Bool := k == 17 || (decide (18 ≤ k) && decide (k ≤ 26)) || (decide (28 ≤ k) && decide (k ≤ 34))
/-- May a node stand there? -/
def standsB (st : Nat) (k : Int) (s : Bytes) : Bool := if st = 0 then true else takesB (roleS st) k && (!(st == 13 && k == 50) || s == [42])

set_option maxHeartbeats 1000000 in
theorem rExpr_any (k : Int) (w : World) : Calls Tryz.prog 76 #[.int .i64 k] w fun e w' => e = .returned (.bool (exprK k)) ∧ w' = w := by
  go_enter Tryz.func76, Tryz.ntmps76
  go_wp2
  all_goals go_ret
  all_goals refine ⟨congrArg (fun b => Ending.returned (.bool b)) ?_, rfl⟩
  all_goals (rw [Bool.eq_iff_iff]; simp [exprK] at *; omega)
set_option maxHeartbeats 1000000 in
theorem rStmt_any (k : Int) (w : World) : Calls Tryz.prog 77 #[.int .i64 k] w fun e w' => e = .returned (.bool (stmtK k)) ∧ w' = w := by
  go_enter Tryz.func77, Tryz.ntmps77
  go_wp2
  all_goals go_ret
  all_goals refine ⟨congrArg (fun b => Ending.returned (.bool b)) ?_, rfl⟩
  all_goals (rw [Bool.eq_iff_iff]; simp [stmtK] at *; omega)

set_option maxRecDepth 100000 in
set_option maxHeartbeats 2000000 in
theorem stands_1 (k : Int) (s : ByteArray) (n a : Int) (p : Option Addr) (m c : Nat) (w : World) : Calls Tryz.prog 43 #[.agg (nd k s n a p m c), .int .i64 1] w fun e w' => e = .returned (.bool (k == 2 || k == 3 || k == 4 || k == 5 || k == 6 || k == 7)) ∧ Below w.heap.size w w' := by
  by_cases h2 : k = 2
  · subst h2
    go_enter Tryz.func43, Tryz.ntmps43
    go_wp2
    go_ret
    exact ⟨rfl, below1 _ _⟩
  by_cases h3 : k = 3
  · subst h3
    go_enter Tryz.func43, Tryz.ntmps43
    go_wp2
    go_ret
    exact ⟨rfl, below1 _ _⟩
  by_cases h4 : k = 4
  · subst h4
    go_enter Tryz.func43, Tryz.ntmps43
    go_wp2
    go_ret
    exact ⟨rfl, below1 _ _⟩
  by_cases h5 : k = 5
  · subst h5
    go_enter Tryz.func43, Tryz.ntmps43
    go_wp2
    go_ret
    exact ⟨rfl, below1 _ _⟩
  by_cases h6 : k = 6
  · subst h6
    go_enter Tryz.func43, Tryz.ntmps43
    go_wp2
    go_ret
    exact ⟨rfl, below1 _ _⟩
  by_cases h7 : k = 7
  · subst h7
    go_enter Tryz.func43, Tryz.ntmps43
    go_wp2
    go_ret
    exact ⟨rfl, below1 _ _⟩
  have e : (k == 2 || k == 3 || k == 4 || k == 5 || k == 6 || k == 7) = false := by simp [h2, h3, h4, h5, h6, h7]
  rw [e]
  have g2 : (k == 2) = false := beq_false_of_ne h2
  have g3 : (k == 3) = false := beq_false_of_ne h3
  have g4 : (k == 4) = false := beq_false_of_ne h4
  have g5 : (k == 5) = false := beq_false_of_ne h5
  have g6 : (k == 6) = false := beq_false_of_ne h6
  have g7 : (k == 7) = false := beq_false_of_ne h7
  clear e h2 h3 h4 h5 h6 h7
  go_enter Tryz.func43, Tryz.ntmps43
  go_wp2
  go_ret
  exact ⟨rfl, below1 _ _⟩

set_option maxRecDepth 100000 in
set_option maxHeartbeats 2000000 in
theorem stands_2 (k : Int) (s : ByteArray) (n a : Int) (p : Option Addr) (m c : Nat) (w : World) : Calls Tryz.prog 43 #[.agg (nd k s n a p m c), .int .i64 2] w fun e w' => e = .returned (.bool (k == 14)) ∧ Below w.heap.size w w' := by
  by_cases h14 : k = 14
  · subst h14
    go_enter Tryz.func43, Tryz.ntmps43
    go_wp2
    go_ret
    exact ⟨rfl, below1 _ _⟩
  have e : (k == 14) = false := by simp [h14]
  rw [e]
  have g14 : (k == 14) = false := beq_false_of_ne h14
  clear e h14
  go_enter Tryz.func43, Tryz.ntmps43
  go_wp2
  go_ret
  exact ⟨rfl, below1 _ _⟩

set_option maxRecDepth 100000 in
set_option maxHeartbeats 2000000 in
theorem stands_3 (k : Int) (s : ByteArray) (n a : Int) (p : Option Addr) (m c : Nat) (w : World) : Calls Tryz.prog 43 #[.agg (nd k s n a p m c), .int .i64 3] w fun e w' => e = .returned (.bool (k == 8 || k == 9 || k == 10)) ∧ Below w.heap.size w w' := by
  by_cases h8 : k = 8
  · subst h8
    go_enter Tryz.func43, Tryz.ntmps43
    go_wp2
    go_ret
    exact ⟨rfl, below1 _ _⟩
  by_cases h9 : k = 9
  · subst h9
    go_enter Tryz.func43, Tryz.ntmps43
    go_wp2
    go_ret
    exact ⟨rfl, below1 _ _⟩
  by_cases h10 : k = 10
  · subst h10
    go_enter Tryz.func43, Tryz.ntmps43
    go_wp2
    go_ret
    exact ⟨rfl, below1 _ _⟩
  have e : (k == 8 || k == 9 || k == 10) = false := by simp [h8, h9, h10]
  rw [e]
  have g8 : (k == 8) = false := beq_false_of_ne h8
  have g9 : (k == 9) = false := beq_false_of_ne h9
  have g10 : (k == 10) = false := beq_false_of_ne h10
  clear e h8 h9 h10
  go_enter Tryz.func43, Tryz.ntmps43
  go_wp2
  go_ret
  exact ⟨rfl, below1 _ _⟩

set_option maxRecDepth 100000 in
set_option maxHeartbeats 2000000 in
theorem stands_4 (k : Int) (s : ByteArray) (n a : Int) (p : Option Addr) (m c : Nat) (w : World) : Calls Tryz.prog 43 #[.agg (nd k s n a p m c), .int .i64 4] w fun e w' => e = .returned (.bool (k == 11 || k == 9)) ∧ Below w.heap.size w w' := by
  by_cases h11 : k = 11
  · subst h11
    go_enter Tryz.func43, Tryz.ntmps43
    go_wp2
    go_ret
    exact ⟨rfl, below1 _ _⟩
  by_cases h9 : k = 9
  · subst h9
    go_enter Tryz.func43, Tryz.ntmps43
    go_wp2
    go_ret
    exact ⟨rfl, below1 _ _⟩
  have e : (k == 11 || k == 9) = false := by simp [h11, h9]
  rw [e]
  have g11 : (k == 11) = false := beq_false_of_ne h11
  have g9 : (k == 9) = false := beq_false_of_ne h9
  clear e h11 h9
  go_enter Tryz.func43, Tryz.ntmps43
  go_wp2
  go_ret
  exact ⟨rfl, below1 _ _⟩

set_option maxRecDepth 100000 in
set_option maxHeartbeats 2000000 in
theorem stands_5 (k : Int) (s : ByteArray) (n a : Int) (p : Option Addr) (m c : Nat) (w : World) : Calls Tryz.prog 43 #[.agg (nd k s n a p m c), .int .i64 5] w fun e w' => e = .returned (.bool (k == 13)) ∧ Below w.heap.size w w' := by
  by_cases h13 : k = 13
  · subst h13
    go_enter Tryz.func43, Tryz.ntmps43
    go_wp2
    go_ret
    exact ⟨rfl, below1 _ _⟩
  have e : (k == 13) = false := by simp [h13]
  rw [e]
  have g13 : (k == 13) = false := beq_false_of_ne h13
  clear e h13
  go_enter Tryz.func43, Tryz.ntmps43
  go_wp2
  go_ret
  exact ⟨rfl, below1 _ _⟩

set_option maxRecDepth 100000 in
set_option maxHeartbeats 2000000 in
theorem stands_6 (k : Int) (s : ByteArray) (n a : Int) (p : Option Addr) (m c : Nat) (w : World) : Calls Tryz.prog 43 #[.agg (nd k s n a p m c), .int .i64 6] w fun e w' => e = .returned (.bool (k == 17)) ∧ Below w.heap.size w w' := by
  by_cases h17 : k = 17
  · subst h17
    go_enter Tryz.func43, Tryz.ntmps43
    go_wp2
    go_ret
    exact ⟨rfl, below1 _ _⟩
  have e : (k == 17) = false := by simp [h17]
  rw [e]
  have g17 : (k == 17) = false := beq_false_of_ne h17
  clear e h17
  go_enter Tryz.func43, Tryz.ntmps43
  go_wp2
  go_ret
  exact ⟨rfl, below1 _ _⟩

set_option maxRecDepth 100000 in
set_option maxHeartbeats 2000000 in
theorem stands_7 (k : Int) (s : ByteArray) (n a : Int) (p : Option Addr) (m c : Nat) (w : World) : Calls Tryz.prog 43 #[.agg (nd k s n a p m c), .int .i64 7] w fun e w' => e = .returned (.bool (k == 12)) ∧ Below w.heap.size w w' := by
  by_cases h12 : k = 12
  · subst h12
    go_enter Tryz.func43, Tryz.ntmps43
    go_wp2
    go_ret
    exact ⟨rfl, below1 _ _⟩
  have e : (k == 12) = false := by simp [h12]
  rw [e]
  have g12 : (k == 12) = false := beq_false_of_ne h12
  clear e h12
  go_enter Tryz.func43, Tryz.ntmps43
  go_wp2
  go_ret
  exact ⟨rfl, below1 _ _⟩

set_option maxRecDepth 100000 in
set_option maxHeartbeats 2000000 in
theorem stands_8 (k : Int) (s : ByteArray) (n a : Int) (p : Option Addr) (m c : Nat) (w : World) : Calls Tryz.prog 43 #[.agg (nd k s n a p m c), .int .i64 8] w fun e w' => e = .returned (.bool (k == 14)) ∧ Below w.heap.size w w' := by
  by_cases h14 : k = 14
  · subst h14
    go_enter Tryz.func43, Tryz.ntmps43
    go_wp2
    go_ret
    exact ⟨rfl, below1 _ _⟩
  have e : (k == 14) = false := by simp [h14]
  rw [e]
  have g14 : (k == 14) = false := beq_false_of_ne h14
  clear e h14
  go_enter Tryz.func43, Tryz.ntmps43
  go_wp2
  go_ret
  exact ⟨rfl, below1 _ _⟩

set_option maxRecDepth 100000 in
set_option maxHeartbeats 2000000 in
theorem stands_9 (k : Int) (s : ByteArray) (n a : Int) (p : Option Addr) (m c : Nat) (w : World) : Calls Tryz.prog 43 #[.agg (nd k s n a p m c), .int .i64 9] w fun e w' => e = .returned (.bool (k == 14 || k == 15)) ∧ Below w.heap.size w w' := by
  by_cases h14 : k = 14
  · subst h14
    go_enter Tryz.func43, Tryz.ntmps43
    go_wp2
    go_ret
    exact ⟨rfl, below1 _ _⟩
  by_cases h15 : k = 15
  · subst h15
    go_enter Tryz.func43, Tryz.ntmps43
    go_wp2
    go_ret
    exact ⟨rfl, below1 _ _⟩
  have e : (k == 14 || k == 15) = false := by simp [h14, h15]
  rw [e]
  have g14 : (k == 14) = false := beq_false_of_ne h14
  have g15 : (k == 15) = false := beq_false_of_ne h15
  clear e h14 h15
  go_enter Tryz.func43, Tryz.ntmps43
  go_wp2
  go_ret
  exact ⟨rfl, below1 _ _⟩

set_option maxRecDepth 100000 in
set_option maxHeartbeats 2000000 in
theorem stands_14 (k : Int) (s : ByteArray) (n a : Int) (p : Option Addr) (m c : Nat) (w : World) : Calls Tryz.prog 43 #[.agg (nd k s n a p m c), .int .i64 14] w fun e w' => e = .returned (.bool (k == 49 || k == 46)) ∧ Below w.heap.size w w' := by
  by_cases h49 : k = 49
  · subst h49
    go_enter Tryz.func43, Tryz.ntmps43
    go_wp2
    go_ret
    exact ⟨rfl, below1 _ _⟩
  by_cases h46 : k = 46
  · subst h46
    go_enter Tryz.func43, Tryz.ntmps43
    go_wp2
    go_ret
    exact ⟨rfl, below1 _ _⟩
  have e : (k == 49 || k == 46) = false := by simp [h49, h46]
  rw [e]
  have g49 : (k == 49) = false := beq_false_of_ne h49
  have g46 : (k == 46) = false := beq_false_of_ne h46
  clear e h49 h46
  go_enter Tryz.func43, Tryz.ntmps43
  go_wp2
  go_ret
  exact ⟨rfl, below1 _ _⟩

set_option maxRecDepth 100000 in
set_option maxHeartbeats 2000000 in
theorem stands_15 (k : Int) (s : ByteArray) (n a : Int) (p : Option Addr) (m c : Nat) (w : World) : Calls Tryz.prog 43 #[.agg (nd k s n a p m c), .int .i64 15] w fun e w' => e = .returned (.bool (k == 17 || k == 22 || k == 16)) ∧ Below w.heap.size w w' := by
  by_cases h17 : k = 17
  · subst h17
    go_enter Tryz.func43, Tryz.ntmps43
    go_wp2
    go_ret
    exact ⟨rfl, below1 _ _⟩
  by_cases h22 : k = 22
  · subst h22
    go_enter Tryz.func43, Tryz.ntmps43
    go_wp2
    go_ret
    exact ⟨rfl, below1 _ _⟩
  by_cases h16 : k = 16
  · subst h16
    go_enter Tryz.func43, Tryz.ntmps43
    go_wp2
    go_ret
    exact ⟨rfl, below1 _ _⟩
  have e : (k == 17 || k == 22 || k == 16) = false := by simp [h17, h22, h16]
  rw [e]
  have g17 : (k == 17) = false := beq_false_of_ne h17
  have g22 : (k == 22) = false := beq_false_of_ne h22
  have g16 : (k == 16) = false := beq_false_of_ne h16
  clear e h17 h22 h16
  go_enter Tryz.func43, Tryz.ntmps43
  go_wp2
  go_ret
  exact ⟨rfl, below1 _ _⟩

set_option maxRecDepth 100000 in
set_option maxHeartbeats 2000000 in
theorem stands_16 (k : Int) (s : ByteArray) (n a : Int) (p : Option Addr) (m c : Nat) (w : World) : Calls Tryz.prog 43 #[.agg (nd k s n a p m c), .int .i64 16] w fun e w' => e = .returned (.bool (k == 14 || k == 16)) ∧ Below w.heap.size w w' := by
  by_cases h14 : k = 14
  · subst h14
    go_enter Tryz.func43, Tryz.ntmps43
    go_wp2
    go_ret
    exact ⟨rfl, below1 _ _⟩
  by_cases h16 : k = 16
  · subst h16
    go_enter Tryz.func43, Tryz.ntmps43
    go_wp2
    go_ret
    exact ⟨rfl, below1 _ _⟩
  have e : (k == 14 || k == 16) = false := by simp [h14, h16]
  rw [e]
  have g14 : (k == 14) = false := beq_false_of_ne h14
  have g16 : (k == 16) = false := beq_false_of_ne h16
  clear e h14 h16
  go_enter Tryz.func43, Tryz.ntmps43
  go_wp2
  go_ret
  exact ⟨rfl, below1 _ _⟩

set_option maxRecDepth 100000 in
set_option maxHeartbeats 2000000 in
theorem stands_17 (k : Int) (s : ByteArray) (n a : Int) (p : Option Addr) (m c : Nat) (w : World) : Calls Tryz.prog 43 #[.agg (nd k s n a p m c), .int .i64 17] w fun e w' => e = .returned (.bool (k == 27)) ∧ Below w.heap.size w w' := by
  by_cases h27 : k = 27
  · subst h27
    go_enter Tryz.func43, Tryz.ntmps43
    go_wp2
    go_ret
    exact ⟨rfl, below1 _ _⟩
  have e : (k == 27) = false := by simp [h27]
  rw [e]
  have g27 : (k == 27) = false := beq_false_of_ne h27
  clear e h27
  go_enter Tryz.func43, Tryz.ntmps43
  go_wp2
  go_ret
  exact ⟨rfl, below1 _ _⟩

set_option maxRecDepth 100000 in
set_option maxHeartbeats 2000000 in
theorem stands_18 (k : Int) (s : ByteArray) (n a : Int) (p : Option Addr) (m c : Nat) (w : World) : Calls Tryz.prog 43 #[.agg (nd k s n a p m c), .int .i64 18] w fun e w' => e = .returned (.bool (k == 27)) ∧ Below w.heap.size w w' := by
  by_cases h27 : k = 27
  · subst h27
    go_enter Tryz.func43, Tryz.ntmps43
    go_wp2
    go_ret
    exact ⟨rfl, below1 _ _⟩
  have e : (k == 27) = false := by simp [h27]
  rw [e]
  have g27 : (k == 27) = false := beq_false_of_ne h27
  clear e h27
  go_enter Tryz.func43, Tryz.ntmps43
  go_wp2
  go_ret
  exact ⟨rfl, below1 _ _⟩

set_option maxRecDepth 100000 in
set_option maxHeartbeats 2000000 in
theorem stands_19 (k : Int) (s : ByteArray) (n a : Int) (p : Option Addr) (m c : Nat) (w : World) : Calls Tryz.prog 43 #[.agg (nd k s n a p m c), .int .i64 19] w fun e w' => e = .returned (.bool (k == 38 || k == 16)) ∧ Below w.heap.size w w' := by
  by_cases h38 : k = 38
  · subst h38
    go_enter Tryz.func43, Tryz.ntmps43
    go_wp2
    go_ret
    exact ⟨rfl, below1 _ _⟩
  by_cases h16 : k = 16
  · subst h16
    go_enter Tryz.func43, Tryz.ntmps43
    go_wp2
    go_ret
    exact ⟨rfl, below1 _ _⟩
  have e : (k == 38 || k == 16) = false := by simp [h38, h16]
  rw [e]
  have g38 : (k == 38) = false := beq_false_of_ne h38
  have g16 : (k == 16) = false := beq_false_of_ne h16
  clear e h38 h16
  go_enter Tryz.func43, Tryz.ntmps43
  go_wp2
  go_ret
  exact ⟨rfl, below1 _ _⟩

set_option maxRecDepth 100000 in
set_option maxHeartbeats 2000000 in
theorem stands_20 (k : Int) (s : ByteArray) (n a : Int) (p : Option Addr) (m c : Nat) (w : World) : Calls Tryz.prog 43 #[.agg (nd k s n a p m c), .int .i64 20] w fun e w' => e = .returned (.bool (k == 38 || k == 16)) ∧ Below w.heap.size w w' := by
  by_cases h38 : k = 38
  · subst h38
    go_enter Tryz.func43, Tryz.ntmps43
    go_wp2
    go_ret
    exact ⟨rfl, below1 _ _⟩
  by_cases h16 : k = 16
  · subst h16
    go_enter Tryz.func43, Tryz.ntmps43
    go_wp2
    go_ret
    exact ⟨rfl, below1 _ _⟩
  have e : (k == 38 || k == 16) = false := by simp [h38, h16]
  rw [e]
  have g38 : (k == 38) = false := beq_false_of_ne h38
  have g16 : (k == 16) = false := beq_false_of_ne h16
  clear e h38 h16
  go_enter Tryz.func43, Tryz.ntmps43
  go_wp2
  go_ret
  exact ⟨rfl, below1 _ _⟩

set_option maxRecDepth 100000 in
set_option maxHeartbeats 2000000 in
theorem stands_21 (k : Int) (s : ByteArray) (n a : Int) (p : Option Addr) (m c : Nat) (w : World) : Calls Tryz.prog 43 #[.agg (nd k s n a p m c), .int .i64 21] w fun e w' => e = .returned (.bool (k == 48)) ∧ Below w.heap.size w w' := by
  by_cases h48 : k = 48
  · subst h48
    go_enter Tryz.func43, Tryz.ntmps43
    go_wp2
    go_ret
    exact ⟨rfl, below1 _ _⟩
  have e : (k == 48) = false := by simp [h48]
  rw [e]
  have g48 : (k == 48) = false := beq_false_of_ne h48
  clear e h48
  go_enter Tryz.func43, Tryz.ntmps43
  go_wp2
  go_ret
  exact ⟨rfl, below1 _ _⟩

set_option maxRecDepth 100000 in
set_option maxHeartbeats 2000000 in
theorem stands_22 (k : Int) (s : ByteArray) (n a : Int) (p : Option Addr) (m c : Nat) (w : World) : Calls Tryz.prog 43 #[.agg (nd k s n a p m c), .int .i64 22] w fun e w' => e = .returned (.bool (k == 40)) ∧ Below w.heap.size w w' := by
  by_cases h40 : k = 40
  · subst h40
    go_enter Tryz.func43, Tryz.ntmps43
    go_wp2
    go_ret
    exact ⟨rfl, below1 _ _⟩
  have e : (k == 40) = false := by simp [h40]
  rw [e]
  have g40 : (k == 40) = false := beq_false_of_ne h40
  clear e h40
  go_enter Tryz.func43, Tryz.ntmps43
  go_wp2
  go_ret
  exact ⟨rfl, below1 _ _⟩

set_option maxRecDepth 100000 in
set_option maxHeartbeats 2000000 in
theorem stands_23 (k : Int) (s : ByteArray) (n a : Int) (p : Option Addr) (m c : Nat) (w : World) : Calls Tryz.prog 43 #[.agg (nd k s n a p m c), .int .i64 23] w fun e w' => e = .returned (.bool (k == 40)) ∧ Below w.heap.size w w' := by
  by_cases h40 : k = 40
  · subst h40
    go_enter Tryz.func43, Tryz.ntmps43
    go_wp2
    go_ret
    exact ⟨rfl, below1 _ _⟩
  have e : (k == 40) = false := by simp [h40]
  rw [e]
  have g40 : (k == 40) = false := beq_false_of_ne h40
  clear e h40
  go_enter Tryz.func43, Tryz.ntmps43
  go_wp2
  go_ret
  exact ⟨rfl, below1 _ _⟩

set_option maxRecDepth 100000 in
set_option maxHeartbeats 2000000 in
theorem stands_24 (k : Int) (s : ByteArray) (n a : Int) (p : Option Addr) (m c : Nat) (w : World) : Calls Tryz.prog 43 #[.agg (nd k s n a p m c), .int .i64 24] w fun e w' => e = .returned (.bool (k == 41)) ∧ Below w.heap.size w w' := by
  by_cases h41 : k = 41
  · subst h41
    go_enter Tryz.func43, Tryz.ntmps43
    go_wp2
    go_ret
    exact ⟨rfl, below1 _ _⟩
  have e : (k == 41) = false := by simp [h41]
  rw [e]
  have g41 : (k == 41) = false := beq_false_of_ne h41
  clear e h41
  go_enter Tryz.func43, Tryz.ntmps43
  go_wp2
  go_ret
  exact ⟨rfl, below1 _ _⟩

set_option maxRecDepth 100000 in
set_option maxHeartbeats 2000000 in
theorem stands_25 (k : Int) (s : ByteArray) (n a : Int) (p : Option Addr) (m c : Nat) (w : World) : Calls Tryz.prog 43 #[.agg (nd k s n a p m c), .int .i64 25] w fun e w' => e = .returned (.bool (k == 14 || k == 15)) ∧ Below w.heap.size w w' := by
  by_cases h14 : k = 14
  · subst h14
    go_enter Tryz.func43, Tryz.ntmps43
    go_wp2
    go_ret
    exact ⟨rfl, below1 _ _⟩
  by_cases h15 : k = 15
  · subst h15
    go_enter Tryz.func43, Tryz.ntmps43
    go_wp2
    go_ret
    exact ⟨rfl, below1 _ _⟩
  have e : (k == 14 || k == 15) = false := by simp [h14, h15]
  rw [e]
  have g14 : (k == 14) = false := beq_false_of_ne h14
  have g15 : (k == 15) = false := beq_false_of_ne h15
  clear e h14 h15
  go_enter Tryz.func43, Tryz.ntmps43
  go_wp2
  go_ret
  exact ⟨rfl, below1 _ _⟩

set_option maxRecDepth 100000 in
set_option maxHeartbeats 2000000 in
theorem stands_26 (k : Int) (s : ByteArray) (n a : Int) (p : Option Addr) (m c : Nat) (w : World) : Calls Tryz.prog 43 #[.agg (nd k s n a p m c), .int .i64 26] w fun e w' => e = .returned (.bool (k == 14 || k == 15)) ∧ Below w.heap.size w w' := by
  by_cases h14 : k = 14
  · subst h14
    go_enter Tryz.func43, Tryz.ntmps43
    go_wp2
    go_ret
    exact ⟨rfl, below1 _ _⟩
  by_cases h15 : k = 15
  · subst h15
    go_enter Tryz.func43, Tryz.ntmps43
    go_wp2
    go_ret
    exact ⟨rfl, below1 _ _⟩
  have e : (k == 14 || k == 15) = false := by simp [h14, h15]
  rw [e]
  have g14 : (k == 14) = false := beq_false_of_ne h14
  have g15 : (k == 15) = false := beq_false_of_ne h15
  clear e h14 h15
  go_enter Tryz.func43, Tryz.ntmps43
  go_wp2
  go_ret
  exact ⟨rfl, below1 _ _⟩

set_option maxRecDepth 100000 in
set_option maxHeartbeats 2000000 in
theorem stands_27 (k : Int) (s : ByteArray) (n a : Int) (p : Option Addr) (m c : Nat) (w : World) : Calls Tryz.prog 43 #[.agg (nd k s n a p m c), .int .i64 27] w fun e w' => e = .returned (.bool (k == 14 || k == 15)) ∧ Below w.heap.size w w' := by
  by_cases h14 : k = 14
  · subst h14
    go_enter Tryz.func43, Tryz.ntmps43
    go_wp2
    go_ret
    exact ⟨rfl, below1 _ _⟩
  by_cases h15 : k = 15
  · subst h15
    go_enter Tryz.func43, Tryz.ntmps43
    go_wp2
    go_ret
    exact ⟨rfl, below1 _ _⟩
  have e : (k == 14 || k == 15) = false := by simp [h14, h15]
  rw [e]
  have g14 : (k == 14) = false := beq_false_of_ne h14
  have g15 : (k == 15) = false := beq_false_of_ne h15
  clear e h14 h15
  go_enter Tryz.func43, Tryz.ntmps43
  go_wp2
  go_ret
  exact ⟨rfl, below1 _ _⟩

set_option maxRecDepth 100000 in
set_option maxHeartbeats 2000000 in
theorem stands_0 (k : Int) (s : ByteArray) (n a : Int) (p : Option Addr) (m c : Nat) (w : World) : Calls Tryz.prog 43 #[.agg (nd k s n a p m c), .int .i64 0] w fun e w' => e = .returned (.bool true) ∧ Below w.heap.size w w' := by
  go_enter Tryz.func43, Tryz.ntmps43
  go_wp2
  go_ret
  exact ⟨rfl, below1 _ _⟩

set_option maxRecDepth 100000 in
set_option maxHeartbeats 2000000 in
theorem stands_29 (k : Int) (s : ByteArray) (n a : Int) (p : Option Addr) (m c : Nat) (w : World) : Calls Tryz.prog 43 #[.agg (nd k s n a p m c), .int .i64 29] w fun e w' => e = .returned (.bool false) ∧ Below w.heap.size w w' := by
  go_enter Tryz.func43, Tryz.ntmps43
  go_wp2
  go_ret
  exact ⟨rfl, below1 _ _⟩

set_option maxRecDepth 100000 in
set_option maxHeartbeats 2000000 in
theorem stands_10 (k : Int) (s : ByteArray) (n a : Int) (p : Option Addr) (m c : Nat) (w : World) : Calls Tryz.prog 43 #[.agg (nd k s n a p m c), .int .i64 10] w fun e w' => e = .returned (.bool (exprK k)) ∧ Below w.heap.size w w' := by
  have H : Hid (∀ W, Calls Tryz.prog 76 #[.int .i64 k] W fun e w' => e = .returned (.bool (exprK k)) ∧ w' = W) := fun W => rExpr_any k W
  generalize exprK k = q at H ⊢
  go_enter Tryz.func43, Tryz.ntmps43
  go_wp2_with fail
  refine (H.out _).mono ?_
  rintro e w1 ⟨rfl, rfl⟩
  go_wp2_with fail
  go_ret
  exact ⟨rfl, below1 _ _⟩

set_option maxRecDepth 100000 in
set_option maxHeartbeats 2000000 in
theorem stands_28 (k : Int) (s : ByteArray) (n a : Int) (p : Option Addr) (m c : Nat) (w : World) : Calls Tryz.prog 43 #[.agg (nd k s n a p m c), .int .i64 28] w fun e w' => e = .returned (.bool (exprK k)) ∧ Below w.heap.size w w' := by
  have H : Hid (∀ W, Calls Tryz.prog 76 #[.int .i64 k] W fun e w' => e = .returned (.bool (exprK k)) ∧ w' = W) := fun W => rExpr_any k W
  generalize exprK k = q at H ⊢
  go_enter Tryz.func43, Tryz.ntmps43
  go_wp2_with fail
  refine (H.out _).mono ?_
  rintro e w1 ⟨rfl, rfl⟩
  go_wp2_with fail
  go_ret
  exact ⟨rfl, below1 _ _⟩

set_option maxRecDepth 100000 in
set_option maxHeartbeats 2000000 in
theorem stands_12 (k : Int) (s : ByteArray) (n a : Int) (p : Option Addr) (m c : Nat) (w : World) : Calls Tryz.prog 43 #[.agg (nd k s n a p m c), .int .i64 12] w fun e w' => e = .returned (.bool (stmtK k)) ∧ Below w.heap.size w w' := by
  have H : Hid (∀ W, Calls Tryz.prog 77 #[.int .i64 k] W fun e w' => e = .returned (.bool (stmtK k)) ∧ w' = W) := fun W => rStmt_any k W
  generalize stmtK k = q at H ⊢
  go_enter Tryz.func43, Tryz.ntmps43
  go_wp2_with fail
  refine (H.out _).mono ?_
  rintro e w1 ⟨rfl, rfl⟩
  go_wp2_with fail
  go_ret
  exact ⟨rfl, below1 _ _⟩

set_option maxRecDepth 100000 in
set_option maxHeartbeats 2000000 in
theorem stands_11 (k : Int) (s : ByteArray) (n a : Int) (p : Option Addr) (m c : Nat) (w : World) : Calls Tryz.prog 43 #[.agg (nd k s n a p m c), .int .i64 11] w fun e w' => e = .returned (.bool (exprK k || k == 16)) ∧ Below w.heap.size w w' := by
  have H : Hid (∀ W, Calls Tryz.prog 76 #[.int .i64 k] W fun e w' => e = .returned (.bool (exprK k)) ∧ w' = W) := fun W => rExpr_any k W
  generalize exprK k = q at H ⊢
  cases q
  all_goals
    go_enter Tryz.func43, Tryz.ntmps43
    go_wp2_with fail
    refine (H.out _).mono ?_
    rintro e w1 ⟨rfl, rfl⟩
    go_wp2_with fail
    go_ret
    exact ⟨rfl, below1 _ _⟩

set_option maxRecDepth 100000 in
set_option maxHeartbeats 2000000 in
theorem stands_13 (k : Int) (s : ByteArray) (n a : Int) (p : Option Addr) (m c : Nat) (w : World) : Calls Tryz.prog 43 #[.agg (nd k s n a p m c), .int .i64 13] w fun e w' => e = .returned (.bool (k == 14 || k == 45 || k == 46 || (k == 50 && s.data.toList == [42]))) ∧ Below w.heap.size w w' := by
  by_cases h14 : k = 14
  · subst h14
    go_enter Tryz.func43, Tryz.ntmps43
    go_wp2
    go_ret
    exact ⟨rfl, below1 _ _⟩
  by_cases h45 : k = 45
  · subst h45
    go_enter Tryz.func43, Tryz.ntmps43
    go_wp2
    go_ret
    exact ⟨rfl, below1 _ _⟩
  by_cases h46 : k = 46
  · subst h46
    go_enter Tryz.func43, Tryz.ntmps43
    go_wp2
    go_ret
    exact ⟨rfl, below1 _ _⟩
  by_cases h50 : k = 50
  · subst h50
    by_cases hs : s.data.toList = [42]
    · obtain rfl := text_eq hs
      go_enter Tryz.func43, Tryz.ntmps43
      go_wp2
      go_ret
      exact ⟨rfl, below1 _ _⟩
    · have hs' : (s.toList == [42]) = false := by rw [ByteArray.toList_eq]; exact beq_false_of_ne hs
      rw [beq_false_of_ne hs]
      clear hs
      go_enter Tryz.func43, Tryz.ntmps43
      go_wp2
      go_ret
      exact ⟨rfl, below1 _ _⟩
  have e : (k == 14 || k == 45 || k == 46 || (k == 50 && s.data.toList == [42])) = false := by simp [h14, h45, h46, h50]
  rw [e]
  have g14 : (k == 14) = false := beq_false_of_ne h14
  have g45 : (k == 45) = false := beq_false_of_ne h45
  have g46 : (k == 46) = false := beq_false_of_ne h46
  have g50 : (k == 50) = false := beq_false_of_ne h50
  clear e h14 h45 h46 h50
  go_enter Tryz.func43, Tryz.ntmps43
  go_wp2
  go_ret
  exact ⟨rfl, below1 _ _⟩

theorem takes_fin (r : Nat) (q : Int → Bool) (h1 : ∀ n : Fin 52, 1 ≤ n.val → (kindsN r).testBit n.val = q n.val) (h2 : ∀ k, q k = true → 1 ≤ k ∧ k ≤ 51) (k : Int) : takesB r k = q k := by
  by_cases hk : 1 ≤ k ∧ k ≤ 51
  · unfold takesB
    have := h1 ⟨k.toNat, by omega⟩ (by show 1 ≤ k.toNat; omega)
    rw [decide_eq_true hk.1, decide_eq_true hk.2, this, Bool.true_and, Bool.true_and]
    show q ((k.toNat : Nat) : Int) = q k
    rw [show ((k.toNat : Nat) : Int) = k by omega]
  · have e : q k = false := by cases h : q k with | false => rfl | true => exact absurd (h2 k h) hk
    rw [e]
    unfold takesB
    by_cases h : 1 ≤ k
    · rw [decide_eq_false (show ¬ k ≤ 51 from fun h' => hk ⟨h, h'⟩)]; simp
    · rw [decide_eq_false h]; rfl
theorem tk_1 (k : Int) : takesB 2 k = (k == 2 || k == 3 || k == 4 || k == 5 || k == 6 || k == 7) := takes_fin 2 (fun k => (k == 2 || k == 3 || k == 4 || k == 5 || k == 6 || k == 7)) (by decide +kernel) (fun k h => by simp at h; omega) k
theorem tk_2 (k : Int) : takesB 5 k = (k == 14) := takes_fin 5 (fun k => (k == 14)) (by decide +kernel) (fun k h => by simp at h; omega) k
theorem tk_3 (k : Int) : takesB 3 k = (k == 8 || k == 9 || k == 10) := takes_fin 3 (fun k => (k == 8 || k == 9 || k == 10)) (by decide +kernel) (fun k h => by simp at h; omega) k
theorem tk_4 (k : Int) : takesB 4 k = (k == 11 || k == 9) := takes_fin 4 (fun k => (k == 11 || k == 9)) (by decide +kernel) (fun k h => by simp at h; omega) k
theorem tk_5 (k : Int) : takesB 8 k = (k == 13) := takes_fin 8 (fun k => (k == 13)) (by decide +kernel) (fun k h => by simp at h; omega) k
theorem tk_6 (k : Int) : takesB 11 k = (k == 17) := takes_fin 11 (fun k => (k == 17)) (by decide +kernel) (fun k h => by simp at h; omega) k
theorem tk_7 (k : Int) : takesB 6 k = (k == 12) := takes_fin 6 (fun k => (k == 12)) (by decide +kernel) (fun k h => by simp at h; omega) k
theorem tk_8 (k : Int) : takesB 9 k = (k == 14) := takes_fin 9 (fun k => (k == 14)) (by decide +kernel) (fun k h => by simp at h; omega) k
theorem tk_9 (k : Int) : takesB 7 k = (k == 14 || k == 15) := takes_fin 7 (fun k => (k == 14 || k == 15)) (by decide +kernel) (fun k h => by simp at h; omega) k
theorem tk_14 (k : Int) : takesB 15 k = (k == 49 || k == 46) := takes_fin 15 (fun k => (k == 49 || k == 46)) (by decide +kernel) (fun k h => by simp at h; omega) k
theorem tk_15 (k : Int) : takesB 13 k = (k == 17 || k == 22 || k == 16) := takes_fin 13 (fun k => (k == 17 || k == 22 || k == 16)) (by decide +kernel) (fun k h => by simp at h; omega) k
theorem tk_16 (k : Int) : takesB 10 k = (k == 14 || k == 16) := takes_fin 10 (fun k => (k == 14 || k == 16)) (by decide +kernel) (fun k h => by simp at h; omega) k
theorem tk_17 (k : Int) : takesB 21 k = (k == 27) := takes_fin 21 (fun k => (k == 27)) (by decide +kernel) (fun k h => by simp at h; omega) k
theorem tk_18 (k : Int) : takesB 22 k = (k == 27) := takes_fin 22 (fun k => (k == 27)) (by decide +kernel) (fun k h => by simp at h; omega) k
theorem tk_19 (k : Int) : takesB 23 k = (k == 38 || k == 16) := takes_fin 23 (fun k => (k == 38 || k == 16)) (by decide +kernel) (fun k h => by simp at h; omega) k
theorem tk_20 (k : Int) : takesB 24 k = (k == 38 || k == 16) := takes_fin 24 (fun k => (k == 38 || k == 16)) (by decide +kernel) (fun k h => by simp at h; omega) k
theorem tk_21 (k : Int) : takesB 16 k = (k == 48) := takes_fin 16 (fun k => (k == 48)) (by decide +kernel) (fun k h => by simp at h; omega) k
theorem tk_22 (k : Int) : takesB 28 k = (k == 40) := takes_fin 28 (fun k => (k == 40)) (by decide +kernel) (fun k h => by simp at h; omega) k
theorem tk_23 (k : Int) : takesB 29 k = (k == 40) := takes_fin 29 (fun k => (k == 40)) (by decide +kernel) (fun k h => by simp at h; omega) k
theorem tk_24 (k : Int) : takesB 30 k = (k == 41) := takes_fin 30 (fun k => (k == 41)) (by decide +kernel) (fun k h => by simp at h; omega) k
theorem tk_25 (k : Int) : takesB 25 k = (k == 14 || k == 15) := takes_fin 25 (fun k => (k == 14 || k == 15)) (by decide +kernel) (fun k h => by simp at h; omega) k
theorem tk_26 (k : Int) : takesB 27 k = (k == 14 || k == 15) := takes_fin 27 (fun k => (k == 14 || k == 15)) (by decide +kernel) (fun k h => by simp at h; omega) k
theorem tk_27 (k : Int) : takesB 26 k = (k == 14 || k == 15) := takes_fin 26 (fun k => (k == 14 || k == 15)) (by decide +kernel) (fun k h => by simp at h; omega) k
theorem tk_10 (k : Int) : takesB 18 k = exprK k := takes_fin 18 exprK (by decide +kernel) (fun k h => by simp [exprK] at h; omega) k
theorem tk_28 (k : Int) : takesB 17 k = exprK k := takes_fin 17 exprK (by decide +kernel) (fun k h => by simp [exprK] at h; omega) k
theorem tk_11 (k : Int) : takesB 19 k = (exprK k || k == 16) := takes_fin 19 (fun k => exprK k || k == 16) (by decide +kernel) (fun k h => by simp [exprK] at h; omega) k
theorem tk_12 (k : Int) : takesB 12 k = stmtK k := takes_fin 12 stmtK (by decide +kernel) (fun k h => by simp [stmtK] at h; omega) k
theorem tk_13 (k : Int) : takesB 14 k = (k == 14 || k == 45 || k == 46 || k == 50) := takes_fin 14 (fun k => (k == 14 || k == 45 || k == 46 || k == 50)) (by decide +kernel) (fun k h => by simp at h; omega) k
theorem stand_cases {st : Nat} (h : st < 30) : st = 0 ∨ st = 1 ∨ st = 2 ∨ st = 3 ∨ st = 4 ∨ st = 5 ∨ st = 6 ∨ st = 7 ∨ st = 8 ∨ st = 9 ∨ st = 10 ∨ st = 11 ∨ st = 12 ∨ st = 13 ∨ st = 14 ∨ st = 15 ∨ st = 16 ∨ st = 17 ∨ st = 18 ∨ st = 19 ∨ st = 20 ∨ st = 21 ∨ st = 22 ∨ st = 23 ∨ st = 24 ∨ st = 25 ∨ st = 26 ∨ st = 27 ∨ st = 28 ∨ st = 29 := by omega
theorem stands_any (st : Nat) (hst : st < 30) (k : Int) (s : ByteArray) (n a : Int) (p : Option Addr) (m c : Nat) (w : World) : Calls Tryz.prog 43 #[.agg (nd k s n a p m c), .int .i64 (st : Nat)] w fun e w' => e = .returned (.bool (standsB st k s.data.toList)) ∧ Below w.heap.size w w' := by
  rcases stand_cases hst with rfl | rfl | rfl | rfl | rfl | rfl | rfl | rfl | rfl | rfl | rfl | rfl | rfl | rfl | rfl | rfl | rfl | rfl | rfl | rfl | rfl | rfl | rfl | rfl | rfl | rfl | rfl | rfl | rfl | rfl
  · exact stands_0 k s n a p m c w
  · have e : standsB 1 k s.data.toList = takesB 2 k := by show (takesB 2 k && (!(1 == 13 && k == 50) || s.data.toList == [42])) = _; simp
    rw [e, tk_1]; exact stands_1 k s n a p m c w
  · have e : standsB 2 k s.data.toList = takesB 5 k := by show (takesB 5 k && (!(2 == 13 && k == 50) || s.data.toList == [42])) = _; simp
    rw [e, tk_2]; exact stands_2 k s n a p m c w
  · have e : standsB 3 k s.data.toList = takesB 3 k := by show (takesB 3 k && (!(3 == 13 && k == 50) || s.data.toList == [42])) = _; simp
    rw [e, tk_3]; exact stands_3 k s n a p m c w
  · have e : standsB 4 k s.data.toList = takesB 4 k := by show (takesB 4 k && (!(4 == 13 && k == 50) || s.data.toList == [42])) = _; simp
    rw [e, tk_4]; exact stands_4 k s n a p m c w
  · have e : standsB 5 k s.data.toList = takesB 8 k := by show (takesB 8 k && (!(5 == 13 && k == 50) || s.data.toList == [42])) = _; simp
    rw [e, tk_5]; exact stands_5 k s n a p m c w
  · have e : standsB 6 k s.data.toList = takesB 11 k := by show (takesB 11 k && (!(6 == 13 && k == 50) || s.data.toList == [42])) = _; simp
    rw [e, tk_6]; exact stands_6 k s n a p m c w
  · have e : standsB 7 k s.data.toList = takesB 6 k := by show (takesB 6 k && (!(7 == 13 && k == 50) || s.data.toList == [42])) = _; simp
    rw [e, tk_7]; exact stands_7 k s n a p m c w
  · have e : standsB 8 k s.data.toList = takesB 9 k := by show (takesB 9 k && (!(8 == 13 && k == 50) || s.data.toList == [42])) = _; simp
    rw [e, tk_8]; exact stands_8 k s n a p m c w
  · have e : standsB 9 k s.data.toList = takesB 7 k := by show (takesB 7 k && (!(9 == 13 && k == 50) || s.data.toList == [42])) = _; simp
    rw [e, tk_9]; exact stands_9 k s n a p m c w
  · have e : standsB 10 k s.data.toList = takesB 18 k := by show (takesB 18 k && (!(10 == 13 && k == 50) || s.data.toList == [42])) = _; simp
    rw [e, tk_10]; exact stands_10 k s n a p m c w
  · have e : standsB 11 k s.data.toList = takesB 19 k := by show (takesB 19 k && (!(11 == 13 && k == 50) || s.data.toList == [42])) = _; simp
    rw [e, tk_11]; exact stands_11 k s n a p m c w
  · have e : standsB 12 k s.data.toList = takesB 12 k := by show (takesB 12 k && (!(12 == 13 && k == 50) || s.data.toList == [42])) = _; simp
    rw [e, tk_12]; exact stands_12 k s n a p m c w
  · have e : standsB 13 k s.data.toList = (k == 14 || k == 45 || k == 46 || (k == 50 && s.data.toList == [42])) := by
      show (takesB 14 k && (!(13 == 13 && k == 50) || s.data.toList == [42])) = _
      rw [tk_13]
      by_cases h50 : k = 50
      · subst h50; simp
      · rw [beq_false_of_ne h50]; simp
    rw [e]; exact stands_13 k s n a p m c w
  · have e : standsB 14 k s.data.toList = takesB 15 k := by show (takesB 15 k && (!(14 == 13 && k == 50) || s.data.toList == [42])) = _; simp
    rw [e, tk_14]; exact stands_14 k s n a p m c w
  · have e : standsB 15 k s.data.toList = takesB 13 k := by show (takesB 13 k && (!(15 == 13 && k == 50) || s.data.toList == [42])) = _; simp
    rw [e, tk_15]; exact stands_15 k s n a p m c w
  · have e : standsB 16 k s.data.toList = takesB 10 k := by show (takesB 10 k && (!(16 == 13 && k == 50) || s.data.toList == [42])) = _; simp
    rw [e, tk_16]; exact stands_16 k s n a p m c w
  · have e : standsB 17 k s.data.toList = takesB 21 k := by show (takesB 21 k && (!(17 == 13 && k == 50) || s.data.toList == [42])) = _; simp
    rw [e, tk_17]; exact stands_17 k s n a p m c w
  · have e : standsB 18 k s.data.toList = takesB 22 k := by show (takesB 22 k && (!(18 == 13 && k == 50) || s.data.toList == [42])) = _; simp
    rw [e, tk_18]; exact stands_18 k s n a p m c w
  · have e : standsB 19 k s.data.toList = takesB 23 k := by show (takesB 23 k && (!(19 == 13 && k == 50) || s.data.toList == [42])) = _; simp
    rw [e, tk_19]; exact stands_19 k s n a p m c w
  · have e : standsB 20 k s.data.toList = takesB 24 k := by show (takesB 24 k && (!(20 == 13 && k == 50) || s.data.toList == [42])) = _; simp
    rw [e, tk_20]; exact stands_20 k s n a p m c w
  · have e : standsB 21 k s.data.toList = takesB 16 k := by show (takesB 16 k && (!(21 == 13 && k == 50) || s.data.toList == [42])) = _; simp
    rw [e, tk_21]; exact stands_21 k s n a p m c w
  · have e : standsB 22 k s.data.toList = takesB 28 k := by show (takesB 28 k && (!(22 == 13 && k == 50) || s.data.toList == [42])) = _; simp
    rw [e, tk_22]; exact stands_22 k s n a p m c w
  · have e : standsB 23 k s.data.toList = takesB 29 k := by show (takesB 29 k && (!(23 == 13 && k == 50) || s.data.toList == [42])) = _; simp
    rw [e, tk_23]; exact stands_23 k s n a p m c w
  · have e : standsB 24 k s.data.toList = takesB 30 k := by show (takesB 30 k && (!(24 == 13 && k == 50) || s.data.toList == [42])) = _; simp
    rw [e, tk_24]; exact stands_24 k s n a p m c w
  · have e : standsB 25 k s.data.toList = takesB 25 k := by show (takesB 25 k && (!(25 == 13 && k == 50) || s.data.toList == [42])) = _; simp
    rw [e, tk_25]; exact stands_25 k s n a p m c w
  · have e : standsB 26 k s.data.toList = takesB 27 k := by show (takesB 27 k && (!(26 == 13 && k == 50) || s.data.toList == [42])) = _; simp
    rw [e, tk_26]; exact stands_26 k s n a p m c w
  · have e : standsB 27 k s.data.toList = takesB 26 k := by show (takesB 26 k && (!(27 == 13 && k == 50) || s.data.toList == [42])) = _; simp
    rw [e, tk_27]; exact stands_27 k s n a p m c w
  · have e : standsB 28 k s.data.toList = takesB 17 k := by show (takesB 17 k && (!(28 == 13 && k == 50) || s.data.toList == [42])) = _; simp
    rw [e, tk_28]; exact stands_28 k s n a p m c w
  · have e : standsB 29 k s.data.toList = false := by show (takesB 1 k && _) = false; rw [takes_none]; rfl
    rw [e]; exact stands_29 k s n a p m c w
end Go.Proofs.YthbnegggohegkaaGreatDoor
