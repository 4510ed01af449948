/-
  The walks of declarationShape, kind by kind.
  The walks of statementShape, kind by kind.
  The walks of listShape, and of expressionShape, kind by kind.
-/
import Derived.Test.YthbnegggohegkaaGreatDoorGd
namespace Go.Proofs.YthbnegggohegkaaGreatDoor
open Go.RowKit

set_option maxHeartbeats 1000000 in
theorem decl_1 (s : ByteArray) (n a : Int) (p : Option Addr) (m c : Nat) (w : World) : Calls Tryz.prog 87 #[.agg (nd 1 s n a p m c)] w (ShP (shAl 0 [2]) w) := by
  go_enter Tryz.func87, Tryz.ntmps87
  go_wp2_with fail
  refine (atLeast_any _ _ _ _ _).mono ?_
  rintro e w1 ⟨rfl, rfl⟩
  go_wp2_with fail
  refine bodyPost_ret (v := .agg #[.slice (some ⟨w.heap.size + 1 + 1, 0, none⟩) 1 1, .int .i64 0, .int .i64 (-1), .bool false]) (by simp [results, Tryz.results87, go_sem]) rfl ⟨_, rfl, ?_, below4 _ _ _ _ _⟩
  exact .inr ⟨_, rfl, by omega, by simp <;> omega, fun i hi => by
      match i, hi with
      | 0, _ => exact cell_pen _ _ _ _ _ _ _ (by simp) rfl
      | i + 1, h => exact absurd h (by show ¬ (i + 1 < 1); omega)⟩


set_option maxHeartbeats 1000000 in
theorem decl_2 (s : ByteArray) (n a : Int) (p : Option Addr) (m c : Nat) (w : World) : Calls Tryz.prog 87 #[.agg (nd 2 s n a p m c)] w (ShP (shEx [5]) w) := by
  go_enter Tryz.func87, Tryz.ntmps87
  go_wp2_with fail
  refine (exactly_any _ _ _ _).mono ?_
  rintro e w1 ⟨rfl, rfl⟩
  go_wp2_with fail
  refine bodyPost_ret (v := .agg #[.slice (some ⟨w.heap.size + 1 + 1, 0, none⟩) 1 1, .int .i64 1, .int .i64 1, .bool false]) (by simp [results, Tryz.results87, go_sem]) rfl ⟨_, rfl, ?_, below4 _ _ _ _ _⟩
  exact .inr ⟨_, rfl, by omega, by simp <;> omega, fun i hi => by
      match i, hi with
      | 0, _ => exact cell_pen _ _ _ _ _ _ _ (by simp) rfl
      | i + 1, h => exact absurd h (by show ¬ (i + 1 < 1); omega)⟩


set_option maxHeartbeats 1000000 in
theorem decl_3 (s : ByteArray) (n a : Int) (p : Option Addr) (m c : Nat) (w : World) : Calls Tryz.prog 87 #[.agg (nd 3 s n a p m c)] w (ShP (shAm 30 3) w) := by
  go_enter Tryz.func87, Tryz.ntmps87
  go_wp2_with fail
  refine (atMost_any _ _ _).mono ?_
  rintro e w1 ⟨rfl, rfl⟩
  go_wp2_with fail
  refine bodyPost_ret (v := .agg #[.slice (some ⟨w.heap.size + 1 + 1 + 1, 0, none⟩) 1 1, .int .i64 0, .int .i64 30, .bool true]) (by simp [results, Tryz.results87, go_sem]) rfl ⟨_, rfl, ?_, below4 _ _ _ _ _⟩
  exact .inr ⟨_, rfl, by omega, by simp <;> omega, fun i hi => by
      match i, hi with
      | 0, _ => exact cell_mid _ _ _ _ _ _ (by simp) rfl
      | i + 1, h => exact absurd h (by show ¬ (i + 1 < 1); omega)⟩


set_option maxHeartbeats 1000000 in
theorem decl_4 (s : ByteArray) (n a : Int) (p : Option Addr) (m c : Nat) (w : World) : Calls Tryz.prog 87 #[.agg (nd 4 s n a p m c)] w (ShP (shAm 60 4) w) := by
  go_enter Tryz.func87, Tryz.ntmps87
  go_wp2_with fail
  refine (atMost_any _ _ _).mono ?_
  rintro e w1 ⟨rfl, rfl⟩
  go_wp2_with fail
  refine bodyPost_ret (v := .agg #[.slice (some ⟨w.heap.size + 1 + 1 + 1, 0, none⟩) 1 1, .int .i64 0, .int .i64 60, .bool true]) (by simp [results, Tryz.results87, go_sem]) rfl ⟨_, rfl, ?_, below4 _ _ _ _ _⟩
  exact .inr ⟨_, rfl, by omega, by simp <;> omega, fun i hi => by
      match i, hi with
      | 0, _ => exact cell_mid _ _ _ _ _ _ (by simp) rfl
      | i + 1, h => exact absurd h (by show ¬ (i + 1 < 1); omega)⟩


set_option maxHeartbeats 1000000 in
theorem decl_5 (s : ByteArray) (n a : Int) (p : Option Addr) (m c : Nat) (w : World) : Calls Tryz.prog 87 #[.agg (nd 5 s n a p m c)] w (ShP (shEx [8, 11]) w) := by
  go_enter Tryz.func87, Tryz.ntmps87
  go_wp2_with fail
  refine (exactly_any _ _ _ _).mono ?_
  rintro e w1 ⟨rfl, rfl⟩
  go_wp2_with fail
  refine bodyPost_ret (v := .agg #[.slice (some ⟨w.heap.size + 1 + 1, 0, none⟩) 2 2, .int .i64 2, .int .i64 2, .bool false]) (by simp [results, Tryz.results87, go_sem]) rfl ⟨_, rfl, ?_, below4 _ _ _ _ _⟩
  exact .inr ⟨_, rfl, by omega, by simp <;> omega, fun i hi => by
      match i, hi with
      | 0, _ => exact cell_pen _ _ _ _ _ _ _ (by simp) rfl
      | 1, _ => exact cell_pen _ _ _ _ _ _ _ (by simp) rfl
      | i + 2, h => exact absurd h (by show ¬ (i + 2 < 2); omega)⟩


set_option maxHeartbeats 1000000 in
theorem decl_6 (s : ByteArray) (n a : Int) (p : Option Addr) (m c : Nat) (w : World) : Calls Tryz.prog 87 #[.agg (nd 6 s n a p m c)] w (ShP (shEx [6, 8, 11]) w) := by
  go_enter Tryz.func87, Tryz.ntmps87
  go_wp2_with fail
  refine (exactly_any _ _ _ _).mono ?_
  rintro e w1 ⟨rfl, rfl⟩
  go_wp2_with fail
  refine bodyPost_ret (v := .agg #[.slice (some ⟨w.heap.size + 1 + 1, 0, none⟩) 3 3, .int .i64 3, .int .i64 3, .bool false]) (by simp [results, Tryz.results87, go_sem]) rfl ⟨_, rfl, ?_, below4 _ _ _ _ _⟩
  exact .inr ⟨_, rfl, by omega, by simp <;> omega, fun i hi => by
      match i, hi with
      | 0, _ => exact cell_pen _ _ _ _ _ _ _ (by simp) rfl
      | 1, _ => exact cell_pen _ _ _ _ _ _ _ (by simp) rfl
      | 2, _ => exact cell_pen _ _ _ _ _ _ _ (by simp) rfl
      | i + 3, h => exact absurd h (by show ¬ (i + 3 < 3); omega)⟩


set_option maxHeartbeats 1000000 in
theorem decl_7 (s : ByteArray) (n a : Int) (p : Option Addr) (m c : Nat) (w : World) : Calls Tryz.prog 87 #[.agg (nd 7 s n a p m c)] w (ShP (shEx [18]) w) := by
  go_enter Tryz.func87, Tryz.ntmps87
  go_wp2_with fail
  refine (exactly_any _ _ _ _).mono ?_
  rintro e w1 ⟨rfl, rfl⟩
  go_wp2_with fail
  refine bodyPost_ret (v := .agg #[.slice (some ⟨w.heap.size + 1 + 1, 0, none⟩) 1 1, .int .i64 1, .int .i64 1, .bool false]) (by simp [results, Tryz.results87, go_sem]) rfl ⟨_, rfl, ?_, below4 _ _ _ _ _⟩
  exact .inr ⟨_, rfl, by omega, by simp <;> omega, fun i hi => by
      match i, hi with
      | 0, _ => exact cell_pen _ _ _ _ _ _ _ (by simp) rfl
      | i + 1, h => exact absurd h (by show ¬ (i + 1 < 1); omega)⟩


set_option maxHeartbeats 1000000 in
theorem decl_12 (s : ByteArray) (n a : Int) (p : Option Addr) (m c : Nat) (w : World) : Calls Tryz.prog 87 #[.agg (nd 12 s n a p m c)] w (ShP (shEx [7]) w) := by
  go_enter Tryz.func87, Tryz.ntmps87
  go_wp2_with fail
  refine (exactly_any _ _ _ _).mono ?_
  rintro e w1 ⟨rfl, rfl⟩
  go_wp2_with fail
  refine bodyPost_ret (v := .agg #[.slice (some ⟨w.heap.size + 1 + 1, 0, none⟩) 1 1, .int .i64 1, .int .i64 1, .bool false]) (by simp [results, Tryz.results87, go_sem]) rfl ⟨_, rfl, ?_, below4 _ _ _ _ _⟩
  exact .inr ⟨_, rfl, by omega, by simp <;> omega, fun i hi => by
      match i, hi with
      | 0, _ => exact cell_pen _ _ _ _ _ _ _ (by simp) rfl
      | i + 1, h => exact absurd h (by show ¬ (i + 1 < 1); omega)⟩


set_option maxHeartbeats 1000000 in
theorem decl_13 (s : ByteArray) (n a : Int) (p : Option Addr) (m c : Nat) (w : World) : Calls Tryz.prog 87 #[.agg (nd 13 s n a p m c)] w (ShP (shAm 12 9) w) := by
  go_enter Tryz.func87, Tryz.ntmps87
  go_wp2_with fail
  refine (atMost_any _ _ _).mono ?_
  rintro e w1 ⟨rfl, rfl⟩
  go_wp2_with fail
  refine bodyPost_ret (v := .agg #[.slice (some ⟨w.heap.size + 1 + 1 + 1, 0, none⟩) 1 1, .int .i64 0, .int .i64 12, .bool true]) (by simp [results, Tryz.results87, go_sem]) rfl ⟨_, rfl, ?_, below4 _ _ _ _ _⟩
  exact .inr ⟨_, rfl, by omega, by simp <;> omega, fun i hi => by
      match i, hi with
      | 0, _ => exact cell_mid _ _ _ _ _ _ (by simp) rfl
      | i + 1, h => exact absurd h (by show ¬ (i + 1 < 1); omega)⟩


set_option maxHeartbeats 1000000 in
theorem decl_15 (s : ByteArray) (n a : Int) (p : Option Addr) (m c : Nat) (w : World) : Calls Tryz.prog 87 #[.agg (nd 15 s n a p m c)] w (ShP (shEx [9]) w) := by
  go_enter Tryz.func87, Tryz.ntmps87
  go_wp2_with fail
  refine (exactly_any _ _ _ _).mono ?_
  rintro e w1 ⟨rfl, rfl⟩
  go_wp2_with fail
  refine bodyPost_ret (v := .agg #[.slice (some ⟨w.heap.size + 1 + 1, 0, none⟩) 1 1, .int .i64 1, .int .i64 1, .bool false]) (by simp [results, Tryz.results87, go_sem]) rfl ⟨_, rfl, ?_, below4 _ _ _ _ _⟩
  exact .inr ⟨_, rfl, by omega, by simp <;> omega, fun i hi => by
      match i, hi with
      | 0, _ => exact cell_pen _ _ _ _ _ _ _ (by simp) rfl
      | i + 1, h => exact absurd h (by show ¬ (i + 1 < 1); omega)⟩


end Go.Proofs.YthbnegggohegkaaGreatDoor
namespace Go.Proofs.YthbnegggohegkaaGreatDoor
open Go.RowKit

set_option maxHeartbeats 1000000 in
theorem stmt_17 (s : ByteArray) (n a : Int) (p : Option Addr) (m c : Nat) (rl : Nat) (w : World) : Calls Tryz.prog 88 #[.agg (nd 17 s n a p m c), .int .i64 (rl : Nat)] w (ShP (shAl 0 [12]) w) := by
  go_enter Tryz.func88, Tryz.ntmps88
  go_wp2_with fail
  refine (atLeast_any _ _ _ _ _).mono ?_
  rintro e w1 ⟨rfl, rfl⟩
  go_wp2_with fail
  refine bodyPost_ret (v := .agg #[.slice (some ⟨w.heap.size + 1 + 1, 0, none⟩) 1 1, .int .i64 0, .int .i64 (-1), .bool false]) (by simp [results, Tryz.results88, go_sem]) rfl ⟨_, rfl, ?_, below4 _ _ _ _ _⟩
  exact .inr ⟨_, rfl, by omega, by simp <;> omega, fun i hi => by
      match i, hi with
      | 0, _ => exact cell_pen _ _ _ _ _ _ _ (by simp) rfl
      | i + 1, h => exact absurd h (by show ¬ (i + 1 < 1); omega)⟩


set_option maxHeartbeats 1000000 in
theorem stmt_18 (s : ByteArray) (n a : Int) (p : Option Addr) (m c : Nat) (rl : Nat) (w : World) : Calls Tryz.prog 88 #[.agg (nd 18 s n a p m c), .int .i64 (rl : Nat)] w (ShP (shEx [18]) w) := by
  go_enter Tryz.func88, Tryz.ntmps88
  go_wp2_with fail
  refine (exactly_any _ _ _ _).mono ?_
  rintro e w1 ⟨rfl, rfl⟩
  go_wp2_with fail
  refine bodyPost_ret (v := .agg #[.slice (some ⟨w.heap.size + 1 + 1, 0, none⟩) 1 1, .int .i64 1, .int .i64 1, .bool false]) (by simp [results, Tryz.results88, go_sem]) rfl ⟨_, rfl, ?_, below4 _ _ _ _ _⟩
  exact .inr ⟨_, rfl, by omega, by simp <;> omega, fun i hi => by
      match i, hi with
      | 0, _ => exact cell_pen _ _ _ _ _ _ _ (by simp) rfl
      | i + 1, h => exact absurd h (by show ¬ (i + 1 < 1); omega)⟩


set_option maxHeartbeats 1000000 in
theorem stmt_19 (s : ByteArray) (n a : Int) (p : Option Addr) (m c : Nat) (rl : Nat) (w : World) : Calls Tryz.prog 88 #[.agg (nd 19 s n a p m c), .int .i64 (rl : Nat)] w (ShP (shEx [9, 9, 15]) w) := by
  go_enter Tryz.func88, Tryz.ntmps88
  go_wp2_with fail
  refine (exactly_any _ _ _ _).mono ?_
  rintro e w1 ⟨rfl, rfl⟩
  go_wp2_with fail
  refine bodyPost_ret (v := .agg #[.slice (some ⟨w.heap.size + 1 + 1, 0, none⟩) 3 3, .int .i64 3, .int .i64 3, .bool false]) (by simp [results, Tryz.results88, go_sem]) rfl ⟨_, rfl, ?_, below4 _ _ _ _ _⟩
  exact .inr ⟨_, rfl, by omega, by simp <;> omega, fun i hi => by
      match i, hi with
      | 0, _ => exact cell_pen _ _ _ _ _ _ _ (by simp) rfl
      | 1, _ => exact cell_pen _ _ _ _ _ _ _ (by simp) rfl
      | 2, _ => exact cell_pen _ _ _ _ _ _ _ (by simp) rfl
      | i + 3, h => exact absurd h (by show ¬ (i + 3 < 3); omega)⟩


set_option maxHeartbeats 1000000 in
theorem stmt_21 (s : ByteArray) (n a : Int) (p : Option Addr) (m c : Nat) (rl : Nat) (w : World) : Calls Tryz.prog 88 #[.agg (nd 21 s n a p m c), .int .i64 (rl : Nat)] w (ShP (shEx [9, 9, 15]) w) := by
  go_enter Tryz.func88, Tryz.ntmps88
  go_wp2_with fail
  refine (exactly_any _ _ _ _).mono ?_
  rintro e w1 ⟨rfl, rfl⟩
  go_wp2_with fail
  refine bodyPost_ret (v := .agg #[.slice (some ⟨w.heap.size + 1 + 1, 0, none⟩) 3 3, .int .i64 3, .int .i64 3, .bool false]) (by simp [results, Tryz.results88, go_sem]) rfl ⟨_, rfl, ?_, below4 _ _ _ _ _⟩
  exact .inr ⟨_, rfl, by omega, by simp <;> omega, fun i hi => by
      match i, hi with
      | 0, _ => exact cell_pen _ _ _ _ _ _ _ (by simp) rfl
      | 1, _ => exact cell_pen _ _ _ _ _ _ _ (by simp) rfl
      | 2, _ => exact cell_pen _ _ _ _ _ _ _ (by simp) rfl
      | i + 3, h => exact absurd h (by show ¬ (i + 3 < 3); omega)⟩


set_option maxHeartbeats 1000000 in
theorem stmt_20 (s : ByteArray) (n a : Int) (p : Option Addr) (m c : Nat) (rl : Nat) (w : World) : Calls Tryz.prog 88 #[.agg (nd 20 s n a p m c), .int .i64 (rl : Nat)] w (ShP (shEx [14, 18]) w) := by
  go_enter Tryz.func88, Tryz.ntmps88
  go_wp2_with fail
  refine (exactly_any _ _ _ _).mono ?_
  rintro e w1 ⟨rfl, rfl⟩
  go_wp2_with fail
  refine bodyPost_ret (v := .agg #[.slice (some ⟨w.heap.size + 1 + 1, 0, none⟩) 2 2, .int .i64 2, .int .i64 2, .bool false]) (by simp [results, Tryz.results88, go_sem]) rfl ⟨_, rfl, ?_, below4 _ _ _ _ _⟩
  exact .inr ⟨_, rfl, by omega, by simp <;> omega, fun i hi => by
      match i, hi with
      | 0, _ => exact cell_pen _ _ _ _ _ _ _ (by simp) rfl
      | 1, _ => exact cell_pen _ _ _ _ _ _ _ (by simp) rfl
      | i + 2, h => exact absurd h (by show ¬ (i + 2 < 2); omega)⟩


set_option maxHeartbeats 1000000 in
theorem stmt_22 (s : ByteArray) (n a : Int) (p : Option Addr) (m c : Nat) (rl : Nat) (w : World) : Calls Tryz.prog 88 #[.agg (nd 22 s n a p m c), .int .i64 (rl : Nat)] w (ShP (shEx [18, 11, 13]) w) := by
  go_enter Tryz.func88, Tryz.ntmps88
  go_wp2_with fail
  refine (exactly_any _ _ _ _).mono ?_
  rintro e w1 ⟨rfl, rfl⟩
  go_wp2_with fail
  refine bodyPost_ret (v := .agg #[.slice (some ⟨w.heap.size + 1 + 1, 0, none⟩) 3 3, .int .i64 3, .int .i64 3, .bool false]) (by simp [results, Tryz.results88, go_sem]) rfl ⟨_, rfl, ?_, below4 _ _ _ _ _⟩
  exact .inr ⟨_, rfl, by omega, by simp <;> omega, fun i hi => by
      match i, hi with
      | 0, _ => exact cell_pen _ _ _ _ _ _ _ (by simp) rfl
      | 1, _ => exact cell_pen _ _ _ _ _ _ _ (by simp) rfl
      | 2, _ => exact cell_pen _ _ _ _ _ _ _ (by simp) rfl
      | i + 3, h => exact absurd h (by show ¬ (i + 3 < 3); omega)⟩


set_option maxHeartbeats 1000000 in
theorem stmt_23 (s : ByteArray) (n a : Int) (p : Option Addr) (m c : Nat) (rl : Nat) (w : World) : Calls Tryz.prog 88 #[.agg (nd 23 s n a p m c), .int .i64 (rl : Nat)] w (ShP (shEx [19, 11]) w) := by
  go_enter Tryz.func88, Tryz.ntmps88
  go_wp2_with fail
  refine (exactly_any _ _ _ _).mono ?_
  rintro e w1 ⟨rfl, rfl⟩
  go_wp2_with fail
  refine bodyPost_ret (v := .agg #[.slice (some ⟨w.heap.size + 1 + 1, 0, none⟩) 2 2, .int .i64 2, .int .i64 2, .bool false]) (by simp [results, Tryz.results88, go_sem]) rfl ⟨_, rfl, ?_, below4 _ _ _ _ _⟩
  exact .inr ⟨_, rfl, by omega, by simp <;> omega, fun i hi => by
      match i, hi with
      | 0, _ => exact cell_pen _ _ _ _ _ _ _ (by simp) rfl
      | 1, _ => exact cell_pen _ _ _ _ _ _ _ (by simp) rfl
      | i + 2, h => exact absurd h (by show ¬ (i + 2 < 2); omega)⟩


set_option maxHeartbeats 1000000 in
theorem stmt_24 (s : ByteArray) (n a : Int) (p : Option Addr) (m c : Nat) (rl : Nat) (w : World) : Calls Tryz.prog 88 #[.agg (nd 24 s n a p m c), .int .i64 (rl : Nat)] w (ShP (shEx [10, 10, 18, 11]) w) := by
  go_enter Tryz.func88, Tryz.ntmps88
  go_wp2_with fail
  refine (exactly_any _ _ _ _).mono ?_
  rintro e w1 ⟨rfl, rfl⟩
  go_wp2_with fail
  refine bodyPost_ret (v := .agg #[.slice (some ⟨w.heap.size + 1 + 1, 0, none⟩) 4 4, .int .i64 4, .int .i64 4, .bool false]) (by simp [results, Tryz.results88, go_sem]) rfl ⟨_, rfl, ?_, below4 _ _ _ _ _⟩
  exact .inr ⟨_, rfl, by omega, by simp <;> omega, fun i hi => by
      match i, hi with
      | 0, _ => exact cell_pen _ _ _ _ _ _ _ (by simp) rfl
      | 1, _ => exact cell_pen _ _ _ _ _ _ _ (by simp) rfl
      | 2, _ => exact cell_pen _ _ _ _ _ _ _ (by simp) rfl
      | 3, _ => exact cell_pen _ _ _ _ _ _ _ (by simp) rfl
      | i + 4, h => exact absurd h (by show ¬ (i + 4 < 4); omega)⟩


set_option maxHeartbeats 1000000 in
theorem stmt_25 (s : ByteArray) (n a : Int) (p : Option Addr) (m c : Nat) (rl : Nat) (w : World) : Calls Tryz.prog 88 #[.agg (nd 25 s n a p m c), .int .i64 (rl : Nat)] w (ShP (shAl 1 [19, 21]) w) := by
  go_enter Tryz.func88, Tryz.ntmps88
  go_wp2_with fail
  refine (atLeast_any _ _ _ _ _).mono ?_
  rintro e w1 ⟨rfl, rfl⟩
  go_wp2_with fail
  refine bodyPost_ret (v := .agg #[.slice (some ⟨w.heap.size + 1 + 1, 0, none⟩) 2 2, .int .i64 1, .int .i64 (-1), .bool false]) (by simp [results, Tryz.results88, go_sem]) rfl ⟨_, rfl, ?_, below4 _ _ _ _ _⟩
  exact .inr ⟨_, rfl, by omega, by simp <;> omega, fun i hi => by
      match i, hi with
      | 0, _ => exact cell_pen _ _ _ _ _ _ _ (by simp) rfl
      | 1, _ => exact cell_pen _ _ _ _ _ _ _ (by simp) rfl
      | i + 2, h => exact absurd h (by show ¬ (i + 2 < 2); omega)⟩


set_option maxHeartbeats 1000000 in
theorem stmt_26 (s : ByteArray) (n a : Int) (p : Option Addr) (m c : Nat) (rl : Nat) (w : World) : Calls Tryz.prog 88 #[.agg (nd 26 s n a p m c), .int .i64 (rl : Nat)] w (ShP (shAl 2 [10, 18, 22]) w) := by
  go_enter Tryz.func88, Tryz.ntmps88
  go_wp2_with fail
  refine (atLeast_any _ _ _ _ _).mono ?_
  rintro e w1 ⟨rfl, rfl⟩
  go_wp2_with fail
  refine bodyPost_ret (v := .agg #[.slice (some ⟨w.heap.size + 1 + 1, 0, none⟩) 3 3, .int .i64 2, .int .i64 (-1), .bool false]) (by simp [results, Tryz.results88, go_sem]) rfl ⟨_, rfl, ?_, below4 _ _ _ _ _⟩
  exact .inr ⟨_, rfl, by omega, by simp <;> omega, fun i hi => by
      match i, hi with
      | 0, _ => exact cell_pen _ _ _ _ _ _ _ (by simp) rfl
      | 1, _ => exact cell_pen _ _ _ _ _ _ _ (by simp) rfl
      | 2, _ => exact cell_pen _ _ _ _ _ _ _ (by simp) rfl
      | i + 3, h => exact absurd h (by show ¬ (i + 3 < 3); omega)⟩


set_option maxHeartbeats 1000000 in
theorem stmt_28 (s : ByteArray) (n a : Int) (p : Option Addr) (m c : Nat) (rl : Nat) (w : World) : Calls Tryz.prog 88 #[.agg (nd 28 s n a p m c), .int .i64 (rl : Nat)] w (ShP (shEx [19]) w) := by
  go_enter Tryz.func88, Tryz.ntmps88
  go_wp2_with fail
  refine (exactly_any _ _ _ _).mono ?_
  rintro e w1 ⟨rfl, rfl⟩
  go_wp2_with fail
  refine bodyPost_ret (v := .agg #[.slice (some ⟨w.heap.size + 1 + 1, 0, none⟩) 1 1, .int .i64 1, .int .i64 1, .bool false]) (by simp [results, Tryz.results88, go_sem]) rfl ⟨_, rfl, ?_, below4 _ _ _ _ _⟩
  exact .inr ⟨_, rfl, by omega, by simp <;> omega, fun i hi => by
      match i, hi with
      | 0, _ => exact cell_pen _ _ _ _ _ _ _ (by simp) rfl
      | i + 1, h => exact absurd h (by show ¬ (i + 1 < 1); omega)⟩


set_option maxHeartbeats 1000000 in
theorem stmt_29 (s : ByteArray) (n a : Int) (p : Option Addr) (m c : Nat) (rl : Nat) (w : World) : Calls Tryz.prog 88 #[.agg (nd 29 s n a p m c), .int .i64 (rl : Nat)] w (ShP (shEx [16]) w) := by
  go_enter Tryz.func88, Tryz.ntmps88
  go_wp2_with fail
  refine (exactly_any _ _ _ _).mono ?_
  rintro e w1 ⟨rfl, rfl⟩
  go_wp2_with fail
  refine bodyPost_ret (v := .agg #[.slice (some ⟨w.heap.size + 1 + 1, 0, none⟩) 1 1, .int .i64 1, .int .i64 1, .bool false]) (by simp [results, Tryz.results88, go_sem]) rfl ⟨_, rfl, ?_, below4 _ _ _ _ _⟩
  exact .inr ⟨_, rfl, by omega, by simp <;> omega, fun i hi => by
      match i, hi with
      | 0, _ => exact cell_pen _ _ _ _ _ _ _ (by simp) rfl
      | i + 1, h => exact absurd h (by show ¬ (i + 1 < 1); omega)⟩


set_option maxHeartbeats 1000000 in
theorem stmt_30 (s : ByteArray) (n a : Int) (p : Option Addr) (m c : Nat) (rl : Nat) (w : World) : Calls Tryz.prog 88 #[.agg (nd 30 s n a p m c), .int .i64 (rl : Nat)] w (ShP (shEx [16]) w) := by
  go_enter Tryz.func88, Tryz.ntmps88
  go_wp2_with fail
  refine (exactly_any _ _ _ _).mono ?_
  rintro e w1 ⟨rfl, rfl⟩
  go_wp2_with fail
  refine bodyPost_ret (v := .agg #[.slice (some ⟨w.heap.size + 1 + 1, 0, none⟩) 1 1, .int .i64 1, .int .i64 1, .bool false]) (by simp [results, Tryz.results88, go_sem]) rfl ⟨_, rfl, ?_, below4 _ _ _ _ _⟩
  exact .inr ⟨_, rfl, by omega, by simp <;> omega, fun i hi => by
      match i, hi with
      | 0, _ => exact cell_pen _ _ _ _ _ _ _ (by simp) rfl
      | i + 1, h => exact absurd h (by show ¬ (i + 1 < 1); omega)⟩


set_option maxHeartbeats 1000000 in
theorem stmt_34 (s : ByteArray) (n a : Int) (p : Option Addr) (m c : Nat) (rl : Nat) (w : World) : Calls Tryz.prog 88 #[.agg (nd 34 s n a p m c), .int .i64 (rl : Nat)] w (ShP (shEx [14]) w) := by
  go_enter Tryz.func88, Tryz.ntmps88
  go_wp2_with fail
  refine (exactly_any _ _ _ _).mono ?_
  rintro e w1 ⟨rfl, rfl⟩
  go_wp2_with fail
  refine bodyPost_ret (v := .agg #[.slice (some ⟨w.heap.size + 1 + 1, 0, none⟩) 1 1, .int .i64 1, .int .i64 1, .bool false]) (by simp [results, Tryz.results88, go_sem]) rfl ⟨_, rfl, ?_, below4 _ _ _ _ _⟩
  exact .inr ⟨_, rfl, by omega, by simp <;> omega, fun i hi => by
      match i, hi with
      | 0, _ => exact cell_pen _ _ _ _ _ _ _ (by simp) rfl
      | i + 1, h => exact absurd h (by show ¬ (i + 1 < 1); omega)⟩


set_option maxHeartbeats 1000000 in
theorem stmt_27a (s : ByteArray) (n a : Int) (p : Option Addr) (m c : Nat) (w : World) : Calls Tryz.prog 88 #[.agg (nd 27 s n a p m c), .int .i64 22] w (ShP (shEx [24, 11]) w) := by
  go_enter Tryz.func88, Tryz.ntmps88
  go_wp2_with fail
  refine (exactly_any _ _ _ _).mono ?_
  rintro e w1 ⟨rfl, rfl⟩
  go_wp2_with fail
  refine bodyPost_ret (v := .agg #[.slice (some ⟨w.heap.size + 1 + 1, 0, none⟩) 2 2, .int .i64 2, .int .i64 2, .bool false]) (by simp [results, Tryz.results88, go_sem]) rfl ⟨_, rfl, ?_, below4 _ _ _ _ _⟩
  exact .inr ⟨_, rfl, by omega, by simp <;> omega, fun i hi => by
      match i, hi with
      | 0, _ => exact cell_pen _ _ _ _ _ _ _ (by simp) rfl
      | 1, _ => exact cell_pen _ _ _ _ _ _ _ (by simp) rfl
      | i + 2, h => exact absurd h (by show ¬ (i + 2 < 2); omega)⟩


set_option maxHeartbeats 1000000 in
theorem stmt_27b (s : ByteArray) (n a : Int) (p : Option Addr) (m c : Nat) (rl : Nat) (hr : (((rl : Nat) : Int) == 22) = false) (w : World) : Calls Tryz.prog 88 #[.agg (nd 27 s n a p m c), .int .i64 (rl : Nat)] w (ShP (shEx [23, 11]) w) := by
  go_enter Tryz.func88, Tryz.ntmps88
  go_wp2_with fail
  refine (exactly_any _ _ _ _).mono ?_
  rintro e w1 ⟨rfl, rfl⟩
  go_wp2_with fail
  refine bodyPost_ret (v := .agg #[.slice (some ⟨w.heap.size + 1 + 1, 0, none⟩) 2 2, .int .i64 2, .int .i64 2, .bool false]) (by simp [results, Tryz.results88, go_sem]) rfl ⟨_, rfl, ?_, below4 _ _ _ _ _⟩
  exact .inr ⟨_, rfl, by omega, by simp <;> omega, fun i hi => by
      match i, hi with
      | 0, _ => exact cell_pen _ _ _ _ _ _ _ (by simp) rfl
      | 1, _ => exact cell_pen _ _ _ _ _ _ _ (by simp) rfl
      | i + 2, h => exact absurd h (by show ¬ (i + 2 < 2); omega)⟩


end Go.Proofs.YthbnegggohegkaaGreatDoor
namespace Go.Proofs.YthbnegggohegkaaGreatDoor
open Go.RowKit

set_option maxHeartbeats 1000000 in
theorem list_23 (w : World) : Calls Tryz.prog 119 #[.int .i64 23] w (ShP (shAl 1 [18]) w) := by
  go_enter Tryz.func119, Tryz.ntmps119
  go_wp2_with fail
  refine (atLeast_any _ _ _ _ _).mono ?_
  rintro e w1 ⟨rfl, rfl⟩
  go_wp2_with fail
  refine bodyPost_ret (v := .agg #[.slice (some ⟨w.heap.size + 1, 0, none⟩) 1 1, .int .i64 1, .int .i64 (-1), .bool false]) (by simp [results, Tryz.results119, go_sem]) rfl ⟨_, rfl, ?_, below3 _ _ _ _⟩
  exact .inr ⟨_, rfl, by omega, by simp <;> omega, fun i hi => by
      match i, hi with
      | 0, _ => exact cell_pen _ _ _ _ _ _ _ (by simp) rfl
      | i + 1, h => exact absurd h (by show ¬ (i + 1 < 1); omega)⟩


set_option maxHeartbeats 1000000 in
theorem list_24 (w : World) : Calls Tryz.prog 119 #[.int .i64 24] w (ShP (shAl 1 [26]) w) := by
  go_enter Tryz.func119, Tryz.ntmps119
  go_wp2_with fail
  refine (atLeast_any _ _ _ _ _).mono ?_
  rintro e w1 ⟨rfl, rfl⟩
  go_wp2_with fail
  refine bodyPost_ret (v := .agg #[.slice (some ⟨w.heap.size + 1, 0, none⟩) 1 1, .int .i64 1, .int .i64 (-1), .bool false]) (by simp [results, Tryz.results119, go_sem]) rfl ⟨_, rfl, ?_, below3 _ _ _ _⟩
  exact .inr ⟨_, rfl, by omega, by simp <;> omega, fun i hi => by
      match i, hi with
      | 0, _ => exact cell_pen _ _ _ _ _ _ _ (by simp) rfl
      | i + 1, h => exact absurd h (by show ¬ (i + 1 < 1); omega)⟩


set_option maxHeartbeats 1000000 in
theorem list_other (rl : Nat) (h23 : (((rl : Nat) : Int) == 23) = false) (h24 : (((rl : Nat) : Int) == 24) = false) (w : World) : Calls Tryz.prog 119 #[.int .i64 (rl : Nat)] w (ShP (shAl 0 [18]) w) := by
  go_enter Tryz.func119, Tryz.ntmps119
  go_wp2_with fail
  refine (atLeast_any _ _ _ _ _).mono ?_
  rintro e w1 ⟨rfl, rfl⟩
  go_wp2_with fail
  refine bodyPost_ret (v := .agg #[.slice (some ⟨w.heap.size + 1, 0, none⟩) 1 1, .int .i64 0, .int .i64 (-1), .bool false]) (by simp [results, Tryz.results119, go_sem]) rfl ⟨_, rfl, ?_, below3 _ _ _ _⟩
  exact .inr ⟨_, rfl, by omega, by simp <;> omega, fun i hi => by
      match i, hi with
      | 0, _ => exact cell_pen _ _ _ _ _ _ _ (by simp) rfl
      | i + 1, h => exact absurd h (by show ¬ (i + 1 < 1); omega)⟩


set_option maxHeartbeats 1000000 in
theorem expr_39 (s : ByteArray) (n a : Int) (p : Option Addr) (m c : Nat) (rl : Nat) (w : World) : Calls Tryz.prog 89 #[.agg (nd 39 s n a p m c), .int .i64 (rl : Nat)] w (ShP (shAl 0 [28]) w) := by
  go_enter Tryz.func89, Tryz.ntmps89
  go_wp2_with fail
  refine (atLeast_any _ _ _ _ _).mono ?_
  rintro e w1 ⟨rfl, rfl⟩
  go_wp2_with fail
  refine bodyPost_ret (v := .agg #[.slice (some ⟨w.heap.size + 1 + 1, 0, none⟩) 1 1, .int .i64 0, .int .i64 (-1), .bool false]) (by simp [results, Tryz.results89, go_sem]) rfl ⟨_, rfl, ?_, below4 _ _ _ _ _⟩
  exact .inr ⟨_, rfl, by omega, by simp <;> omega, fun i hi => by
      match i, hi with
      | 0, _ => exact cell_pen _ _ _ _ _ _ _ (by simp) rfl
      | i + 1, h => exact absurd h (by show ¬ (i + 1 < 1); omega)⟩


set_option maxHeartbeats 1000000 in
theorem expr_41 (s : ByteArray) (n a : Int) (p : Option Addr) (m c : Nat) (rl : Nat) (w : World) : Calls Tryz.prog 89 #[.agg (nd 41 s n a p m c), .int .i64 (rl : Nat)] w (ShP (shAl 0 [29]) w) := by
  go_enter Tryz.func89, Tryz.ntmps89
  go_wp2_with fail
  refine (atLeast_any _ _ _ _ _).mono ?_
  rintro e w1 ⟨rfl, rfl⟩
  go_wp2_with fail
  refine bodyPost_ret (v := .agg #[.slice (some ⟨w.heap.size + 1 + 1, 0, none⟩) 1 1, .int .i64 0, .int .i64 (-1), .bool false]) (by simp [results, Tryz.results89, go_sem]) rfl ⟨_, rfl, ?_, below4 _ _ _ _ _⟩
  exact .inr ⟨_, rfl, by omega, by simp <;> omega, fun i hi => by
      match i, hi with
      | 0, _ => exact cell_pen _ _ _ _ _ _ _ (by simp) rfl
      | i + 1, h => exact absurd h (by show ¬ (i + 1 < 1); omega)⟩


set_option maxHeartbeats 1000000 in
theorem expr_42 (s : ByteArray) (n a : Int) (p : Option Addr) (m c : Nat) (rl : Nat) (w : World) : Calls Tryz.prog 89 #[.agg (nd 42 s n a p m c), .int .i64 (rl : Nat)] w (ShP (shEx [30]) w) := by
  go_enter Tryz.func89, Tryz.ntmps89
  go_wp2_with fail
  refine (exactly_any _ _ _ _).mono ?_
  rintro e w1 ⟨rfl, rfl⟩
  go_wp2_with fail
  refine bodyPost_ret (v := .agg #[.slice (some ⟨w.heap.size + 1 + 1, 0, none⟩) 1 1, .int .i64 1, .int .i64 1, .bool false]) (by simp [results, Tryz.results89, go_sem]) rfl ⟨_, rfl, ?_, below4 _ _ _ _ _⟩
  exact .inr ⟨_, rfl, by omega, by simp <;> omega, fun i hi => by
      match i, hi with
      | 0, _ => exact cell_pen _ _ _ _ _ _ _ (by simp) rfl
      | i + 1, h => exact absurd h (by show ¬ (i + 1 < 1); omega)⟩


set_option maxHeartbeats 1000000 in
theorem expr_43 (s : ByteArray) (n a : Int) (p : Option Addr) (m c : Nat) (rl : Nat) (w : World) : Calls Tryz.prog 89 #[.agg (nd 43 s n a p m c), .int .i64 (rl : Nat)] w (ShP (shEx [8, 11]) w) := by
  go_enter Tryz.func89, Tryz.ntmps89
  go_wp2_with fail
  refine (exactly_any _ _ _ _).mono ?_
  rintro e w1 ⟨rfl, rfl⟩
  go_wp2_with fail
  refine bodyPost_ret (v := .agg #[.slice (some ⟨w.heap.size + 1 + 1, 0, none⟩) 2 2, .int .i64 2, .int .i64 2, .bool false]) (by simp [results, Tryz.results89, go_sem]) rfl ⟨_, rfl, ?_, below4 _ _ _ _ _⟩
  exact .inr ⟨_, rfl, by omega, by simp <;> omega, fun i hi => by
      match i, hi with
      | 0, _ => exact cell_pen _ _ _ _ _ _ _ (by simp) rfl
      | 1, _ => exact cell_pen _ _ _ _ _ _ _ (by simp) rfl
      | i + 2, h => exact absurd h (by show ¬ (i + 2 < 2); omega)⟩


set_option maxHeartbeats 1000000 in
theorem expr_44 (s : ByteArray) (n a : Int) (p : Option Addr) (m c : Nat) (rl : Nat) (w : World) : Calls Tryz.prog 89 #[.agg (nd 44 s n a p m c), .int .i64 (rl : Nat)] w (ShP (shEx [27]) w) := by
  go_enter Tryz.func89, Tryz.ntmps89
  go_wp2_with fail
  refine (exactly_any _ _ _ _).mono ?_
  rintro e w1 ⟨rfl, rfl⟩
  go_wp2_with fail
  refine bodyPost_ret (v := .agg #[.slice (some ⟨w.heap.size + 1 + 1, 0, none⟩) 1 1, .int .i64 1, .int .i64 1, .bool false]) (by simp [results, Tryz.results89, go_sem]) rfl ⟨_, rfl, ?_, below4 _ _ _ _ _⟩
  exact .inr ⟨_, rfl, by omega, by simp <;> omega, fun i hi => by
      match i, hi with
      | 0, _ => exact cell_pen _ _ _ _ _ _ _ (by simp) rfl
      | i + 1, h => exact absurd h (by show ¬ (i + 1 < 1); omega)⟩


set_option maxHeartbeats 1000000 in
theorem expr_45 (s : ByteArray) (n a : Int) (p : Option Addr) (m c : Nat) (rl : Nat) (w : World) : Calls Tryz.prog 89 #[.agg (nd 45 s n a p m c), .int .i64 (rl : Nat)] w (ShP (shEx [18]) w) := by
  go_enter Tryz.func89, Tryz.ntmps89
  go_wp2_with fail
  refine (exactly_any _ _ _ _).mono ?_
  rintro e w1 ⟨rfl, rfl⟩
  go_wp2_with fail
  refine bodyPost_ret (v := .agg #[.slice (some ⟨w.heap.size + 1 + 1, 0, none⟩) 1 1, .int .i64 1, .int .i64 1, .bool false]) (by simp [results, Tryz.results89, go_sem]) rfl ⟨_, rfl, ?_, below4 _ _ _ _ _⟩
  exact .inr ⟨_, rfl, by omega, by simp <;> omega, fun i hi => by
      match i, hi with
      | 0, _ => exact cell_pen _ _ _ _ _ _ _ (by simp) rfl
      | i + 1, h => exact absurd h (by show ¬ (i + 1 < 1); omega)⟩


set_option maxHeartbeats 1000000 in
theorem expr_50 (s : ByteArray) (n a : Int) (p : Option Addr) (m c : Nat) (rl : Nat) (w : World) : Calls Tryz.prog 89 #[.agg (nd 50 s n a p m c), .int .i64 (rl : Nat)] w (ShP (shEx [18]) w) := by
  go_enter Tryz.func89, Tryz.ntmps89
  go_wp2_with fail
  refine (exactly_any _ _ _ _).mono ?_
  rintro e w1 ⟨rfl, rfl⟩
  go_wp2_with fail
  refine bodyPost_ret (v := .agg #[.slice (some ⟨w.heap.size + 1 + 1, 0, none⟩) 1 1, .int .i64 1, .int .i64 1, .bool false]) (by simp [results, Tryz.results89, go_sem]) rfl ⟨_, rfl, ?_, below4 _ _ _ _ _⟩
  exact .inr ⟨_, rfl, by omega, by simp <;> omega, fun i hi => by
      match i, hi with
      | 0, _ => exact cell_pen _ _ _ _ _ _ _ (by simp) rfl
      | i + 1, h => exact absurd h (by show ¬ (i + 1 < 1); omega)⟩


set_option maxHeartbeats 1000000 in
theorem expr_46 (s : ByteArray) (n a : Int) (p : Option Addr) (m c : Nat) (rl : Nat) (w : World) : Calls Tryz.prog 89 #[.agg (nd 46 s n a p m c), .int .i64 (rl : Nat)] w (ShP (shEx [18, 18]) w) := by
  go_enter Tryz.func89, Tryz.ntmps89
  go_wp2_with fail
  refine (exactly_any _ _ _ _).mono ?_
  rintro e w1 ⟨rfl, rfl⟩
  go_wp2_with fail
  refine bodyPost_ret (v := .agg #[.slice (some ⟨w.heap.size + 1 + 1, 0, none⟩) 2 2, .int .i64 2, .int .i64 2, .bool false]) (by simp [results, Tryz.results89, go_sem]) rfl ⟨_, rfl, ?_, below4 _ _ _ _ _⟩
  exact .inr ⟨_, rfl, by omega, by simp <;> omega, fun i hi => by
      match i, hi with
      | 0, _ => exact cell_pen _ _ _ _ _ _ _ (by simp) rfl
      | 1, _ => exact cell_pen _ _ _ _ _ _ _ (by simp) rfl
      | i + 2, h => exact absurd h (by show ¬ (i + 2 < 2); omega)⟩


set_option maxHeartbeats 1000000 in
theorem expr_51 (s : ByteArray) (n a : Int) (p : Option Addr) (m c : Nat) (rl : Nat) (w : World) : Calls Tryz.prog 89 #[.agg (nd 51 s n a p m c), .int .i64 (rl : Nat)] w (ShP (shEx [18, 18]) w) := by
  go_enter Tryz.func89, Tryz.ntmps89
  go_wp2_with fail
  refine (exactly_any _ _ _ _).mono ?_
  rintro e w1 ⟨rfl, rfl⟩
  go_wp2_with fail
  refine bodyPost_ret (v := .agg #[.slice (some ⟨w.heap.size + 1 + 1, 0, none⟩) 2 2, .int .i64 2, .int .i64 2, .bool false]) (by simp [results, Tryz.results89, go_sem]) rfl ⟨_, rfl, ?_, below4 _ _ _ _ _⟩
  exact .inr ⟨_, rfl, by omega, by simp <;> omega, fun i hi => by
      match i, hi with
      | 0, _ => exact cell_pen _ _ _ _ _ _ _ (by simp) rfl
      | 1, _ => exact cell_pen _ _ _ _ _ _ _ (by simp) rfl
      | i + 2, h => exact absurd h (by show ¬ (i + 2 < 2); omega)⟩


set_option maxHeartbeats 1000000 in
theorem expr_48 (s : ByteArray) (n a : Int) (p : Option Addr) (m c : Nat) (rl : Nat) (w : World) : Calls Tryz.prog 89 #[.agg (nd 48 s n a p m c), .int .i64 (rl : Nat)] w (ShP (shAl 1 [17, 18]) w) := by
  go_enter Tryz.func89, Tryz.ntmps89
  go_wp2_with fail
  refine (atLeast_any _ _ _ _ _).mono ?_
  rintro e w1 ⟨rfl, rfl⟩
  go_wp2_with fail
  refine bodyPost_ret (v := .agg #[.slice (some ⟨w.heap.size + 1 + 1, 0, none⟩) 2 2, .int .i64 1, .int .i64 (-1), .bool false]) (by simp [results, Tryz.results89, go_sem]) rfl ⟨_, rfl, ?_, below4 _ _ _ _ _⟩
  exact .inr ⟨_, rfl, by omega, by simp <;> omega, fun i hi => by
      match i, hi with
      | 0, _ => exact cell_pen _ _ _ _ _ _ _ (by simp) rfl
      | 1, _ => exact cell_pen _ _ _ _ _ _ _ (by simp) rfl
      | i + 2, h => exact absurd h (by show ¬ (i + 2 < 2); omega)⟩


set_option maxHeartbeats 1000000 in
theorem expr_49 (s : ByteArray) (n a : Int) (p : Option Addr) (m c : Nat) (rl : Nat) (w : World) : Calls Tryz.prog 89 #[.agg (nd 49 s n a p m c), .int .i64 (rl : Nat)] w (ShP (shEx [18, 25]) w) := by
  go_enter Tryz.func89, Tryz.ntmps89
  go_wp2_with fail
  refine (exactly_any _ _ _ _).mono ?_
  rintro e w1 ⟨rfl, rfl⟩
  go_wp2_with fail
  refine bodyPost_ret (v := .agg #[.slice (some ⟨w.heap.size + 1 + 1, 0, none⟩) 2 2, .int .i64 2, .int .i64 2, .bool false]) (by simp [results, Tryz.results89, go_sem]) rfl ⟨_, rfl, ?_, below4 _ _ _ _ _⟩
  exact .inr ⟨_, rfl, by omega, by simp <;> omega, fun i hi => by
      match i, hi with
      | 0, _ => exact cell_pen _ _ _ _ _ _ _ (by simp) rfl
      | 1, _ => exact cell_pen _ _ _ _ _ _ _ (by simp) rfl
      | i + 2, h => exact absurd h (by show ¬ (i + 2 < 2); omega)⟩


set_option maxHeartbeats 1000000 in
theorem expr_40a (s : ByteArray) (n a : Int) (p : Option Addr) (m c : Nat) (w : World) : Calls Tryz.prog 89 #[.agg (nd 40 s n a p m c), .int .i64 29] w (ShP (shEx [18]) w) := by
  go_enter Tryz.func89, Tryz.ntmps89
  go_wp2_with fail
  refine (exactly_any _ _ _ _).mono ?_
  rintro e w1 ⟨rfl, rfl⟩
  go_wp2_with fail
  refine bodyPost_ret (v := .agg #[.slice (some ⟨w.heap.size + 1 + 1, 0, none⟩) 1 1, .int .i64 1, .int .i64 1, .bool false]) (by simp [results, Tryz.results89, go_sem]) rfl ⟨_, rfl, ?_, below4 _ _ _ _ _⟩
  exact .inr ⟨_, rfl, by omega, by simp <;> omega, fun i hi => by
      match i, hi with
      | 0, _ => exact cell_pen _ _ _ _ _ _ _ (by simp) rfl
      | i + 1, h => exact absurd h (by show ¬ (i + 1 < 1); omega)⟩


set_option maxHeartbeats 1000000 in
theorem expr_40b (s : ByteArray) (n a : Int) (p : Option Addr) (m c : Nat) (rl : Nat) (hr : (((rl : Nat) : Int) == 29) = false) (w : World) : Calls Tryz.prog 89 #[.agg (nd 40 s n a p m c), .int .i64 (rl : Nat)] w (ShP (shEx [18, 18]) w) := by
  go_enter Tryz.func89, Tryz.ntmps89
  go_wp2_with fail
  refine (exactly_any _ _ _ _).mono ?_
  rintro e w1 ⟨rfl, rfl⟩
  go_wp2_with fail
  refine bodyPost_ret (v := .agg #[.slice (some ⟨w.heap.size + 1 + 1, 0, none⟩) 2 2, .int .i64 2, .int .i64 2, .bool false]) (by simp [results, Tryz.results89, go_sem]) rfl ⟨_, rfl, ?_, below4 _ _ _ _ _⟩
  exact .inr ⟨_, rfl, by omega, by simp <;> omega, fun i hi => by
      match i, hi with
      | 0, _ => exact cell_pen _ _ _ _ _ _ _ (by simp) rfl
      | 1, _ => exact cell_pen _ _ _ _ _ _ _ (by simp) rfl
      | i + 2, h => exact absurd h (by show ¬ (i + 2 < 2); omega)⟩


set_option maxHeartbeats 1000000 in
theorem expr_leaf (k : Int) (h38 : (k == 38) = false) (h39 : (k == 39) = false) (h41 : (k == 41) = false) (h40 : (k == 40) = false) (h42 : (k == 42) = false) (h43 : (k == 43) = false) (h44 : (k == 44) = false) (h45 : (k == 45) = false) (h50 : (k == 50) = false) (h46 : (k == 46) = false) (h51 : (k == 51) = false) (h47 : (k == 47) = false) (h48 : (k == 48) = false) (h49 : (k == 49) = false) (s : ByteArray) (n a : Int) (p : Option Addr) (m c : Nat) (rl : Nat) (w : World) : Calls Tryz.prog 89 #[.agg (nd k s n a p m c), .int .i64 (rl : Nat)] w (ShP (shEx []) w) := by
  go_enter Tryz.func89, Tryz.ntmps89
  go_wp2_with fail
  refine (exactly_any _ _ _ _).mono ?_
  rintro e w1 ⟨rfl, rfl⟩
  go_wp2_with fail
  refine bodyPost_ret (v := .agg #[.slice none 0 0, .int .i64 0, .int .i64 0, .bool false]) (by simp [results, Tryz.results89, go_sem]) rfl ⟨_, rfl, ?_, below3 _ _ _ _⟩
  exact .inl ⟨rfl, rfl⟩


end Go.Proofs.YthbnegggohegkaaGreatDoor
