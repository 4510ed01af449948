/-
  The document's own answer for trees: Stand, at every node.
-/
import Derived.Test.YthbnegggohegkaaGreatDoorQh
import Derived.Test.YthbnegggohegkaaGreatDoorGrJ
namespace Go.Proofs.YthbnegggohegkaaGreatDoor
open Go.RowKit

def atN (l : List Nat) (i : Nat) : Nat := l.getD (min i (l.length - 1)) 0
theorem at_any (l : List Nat) (i : Nat) (g : Nat) (w : World) (hne : 0 < l.length) (h100 : l.length < 100) (hc : ∀ (j : Nat) (h : j < l.length), w.cell? ⟨g, j, none⟩ = some (.int .i64 (l[j] : Nat))) :
    Calls Tryz.prog 84 #[.slice (some ⟨g, 0, none⟩) l.length l.length, .int .i64 (i : Nat)] w fun e w' => e = .returned (.int .i64 (atN l i : Nat)) ∧ w' = w := by
  have hlt : min i (l.length - 1) < l.length := by omega
  have e : atN l i = l[min i (l.length - 1)] := by unfold atN; rw [List.getD_eq_getElem?_getD, List.getElem?_eq_getElem hlt]; rfl
  rw [e]
  exact at_walk g l.length i _ _ l.length hne rfl w (hc _ hlt) h100

set_option maxRecDepth 100000 in
set_option maxHeartbeats 8000000 in
theorem st_1 (s : ByteArray) (n a : Int) (p : Option Addr) (m c i st : Nat) (w : World) : Calls Tryz.prog 48 #[.agg (nd 1 s n a p m c), .int .i64 (i : Nat), .int .i64 (st : Nat)] w fun e w' => e = .returned (.int .i64 1) ∧ Below w.heap.size w w' := by
  go_enter Tryz.func48, Tryz.ntmps48
  go_wp2
  go_ret
  exact ⟨rfl, below1 _ _⟩
set_option maxRecDepth 100000 in
set_option maxHeartbeats 8000000 in
theorem st_2 (s : ByteArray) (n a : Int) (p : Option Addr) (m c i st : Nat) (w : World) : Calls Tryz.prog 48 #[.agg (nd 2 s n a p m c), .int .i64 (i : Nat), .int .i64 (st : Nat)] w fun e w' => e = .returned (.int .i64 2) ∧ Below w.heap.size w w' := by
  go_enter Tryz.func48, Tryz.ntmps48
  go_wp2
  go_ret
  exact ⟨rfl, below1 _ _⟩
set_option maxRecDepth 100000 in
set_option maxHeartbeats 8000000 in
theorem st_3 (s : ByteArray) (n a : Int) (p : Option Addr) (m c i st : Nat) (w : World) : Calls Tryz.prog 48 #[.agg (nd 3 s n a p m c), .int .i64 (i : Nat), .int .i64 (st : Nat)] w fun e w' => e = .returned (.int .i64 3) ∧ Below w.heap.size w w' := by
  go_enter Tryz.func48, Tryz.ntmps48
  go_wp2
  go_ret
  exact ⟨rfl, below1 _ _⟩
set_option maxRecDepth 100000 in
set_option maxHeartbeats 8000000 in
theorem st_4 (s : ByteArray) (n a : Int) (p : Option Addr) (m c i st : Nat) (w : World) : Calls Tryz.prog 48 #[.agg (nd 4 s n a p m c), .int .i64 (i : Nat), .int .i64 (st : Nat)] w fun e w' => e = .returned (.int .i64 4) ∧ Below w.heap.size w w' := by
  go_enter Tryz.func48, Tryz.ntmps48
  go_wp2
  go_ret
  exact ⟨rfl, below1 _ _⟩
set_option maxRecDepth 100000 in
set_option maxHeartbeats 8000000 in
theorem st_12 (s : ByteArray) (n a : Int) (p : Option Addr) (m c i st : Nat) (w : World) : Calls Tryz.prog 48 #[.agg (nd 12 s n a p m c), .int .i64 (i : Nat), .int .i64 (st : Nat)] w fun e w' => e = .returned (.int .i64 9) ∧ Below w.heap.size w w' := by
  go_enter Tryz.func48, Tryz.ntmps48
  go_wp2
  go_ret
  exact ⟨rfl, below1 _ _⟩
set_option maxRecDepth 100000 in
set_option maxHeartbeats 8000000 in
theorem st_13 (s : ByteArray) (n a : Int) (p : Option Addr) (m c i st : Nat) (w : World) : Calls Tryz.prog 48 #[.agg (nd 13 s n a p m c), .int .i64 (i : Nat), .int .i64 (st : Nat)] w fun e w' => e = .returned (.int .i64 8) ∧ Below w.heap.size w w' := by
  go_enter Tryz.func48, Tryz.ntmps48
  go_wp2
  go_ret
  exact ⟨rfl, below1 _ _⟩
set_option maxRecDepth 100000 in
set_option maxHeartbeats 8000000 in
theorem st_15 (s : ByteArray) (n a : Int) (p : Option Addr) (m c i st : Nat) (w : World) : Calls Tryz.prog 48 #[.agg (nd 15 s n a p m c), .int .i64 (i : Nat), .int .i64 (st : Nat)] w fun e w' => e = .returned (.int .i64 8) ∧ Below w.heap.size w w' := by
  go_enter Tryz.func48, Tryz.ntmps48
  go_wp2
  go_ret
  exact ⟨rfl, below1 _ _⟩
set_option maxRecDepth 100000 in
set_option maxHeartbeats 8000000 in
theorem st_17 (s : ByteArray) (n a : Int) (p : Option Addr) (m c i st : Nat) (w : World) : Calls Tryz.prog 48 #[.agg (nd 17 s n a p m c), .int .i64 (i : Nat), .int .i64 (st : Nat)] w fun e w' => e = .returned (.int .i64 12) ∧ Below w.heap.size w w' := by
  go_enter Tryz.func48, Tryz.ntmps48
  go_wp2
  go_ret
  exact ⟨rfl, below1 _ _⟩
set_option maxRecDepth 100000 in
set_option maxHeartbeats 8000000 in
theorem st_34 (s : ByteArray) (n a : Int) (p : Option Addr) (m c i st : Nat) (w : World) : Calls Tryz.prog 48 #[.agg (nd 34 s n a p m c), .int .i64 (i : Nat), .int .i64 (st : Nat)] w fun e w' => e = .returned (.int .i64 13) ∧ Below w.heap.size w w' := by
  go_enter Tryz.func48, Tryz.ntmps48
  go_wp2
  go_ret
  exact ⟨rfl, below1 _ _⟩
set_option maxRecDepth 100000 in
set_option maxHeartbeats 8000000 in
theorem st_5 (s : ByteArray) (n a : Int) (p : Option Addr) (m c i st : Nat) (w : World) : Calls Tryz.prog 48 #[.agg (nd 5 s n a p m c), .int .i64 (i : Nat), .int .i64 (st : Nat)] w fun e w' => e = .returned (.int .i64 (atN [5, 6] i : Nat)) ∧ Below w.heap.size w w' := by
  have H : Hid (∀ W g, (∀ (j : Nat) (h : j < ([5, 6] : List Nat).length), W.cell? ⟨g, j, none⟩ = some (.int .i64 ((([5, 6] : List Nat)[j] : Nat)))) → Calls Tryz.prog 84 #[.slice (some ⟨g, 0, none⟩) 2 2, .int .i64 (i : Nat)] W fun e w' => e = .returned (.int .i64 (atN [5, 6] i : Nat)) ∧ w' = W) := fun W g hc => at_any [5, 6] i g W (by decide) (by decide) hc
  generalize atN [5, 6] i = z at H ⊢
  go_enter Tryz.func48, Tryz.ntmps48
  go_wp2_with fail
  refine (H.out _ _ (fun j h => by
    match j, h with
    | 0, _ => exact cell_mid _ _ _ _ _ _ (by simp) rfl
    | 1, _ => exact cell_mid _ _ _ _ _ _ (by simp) rfl
    | j + 2, h => exact absurd h (by show ¬ (j + 2 < 2); omega))).mono ?_
  rintro e w1 ⟨rfl, rfl⟩
  go_wp2_with fail
  go_ret
  exact ⟨rfl, below2 _ _ _⟩
set_option maxRecDepth 100000 in
set_option maxHeartbeats 8000000 in
theorem st_43 (s : ByteArray) (n a : Int) (p : Option Addr) (m c i st : Nat) (w : World) : Calls Tryz.prog 48 #[.agg (nd 43 s n a p m c), .int .i64 (i : Nat), .int .i64 (st : Nat)] w fun e w' => e = .returned (.int .i64 (atN [5, 6] i : Nat)) ∧ Below w.heap.size w w' := by
  have H : Hid (∀ W g, (∀ (j : Nat) (h : j < ([5, 6] : List Nat).length), W.cell? ⟨g, j, none⟩ = some (.int .i64 ((([5, 6] : List Nat)[j] : Nat)))) → Calls Tryz.prog 84 #[.slice (some ⟨g, 0, none⟩) 2 2, .int .i64 (i : Nat)] W fun e w' => e = .returned (.int .i64 (atN [5, 6] i : Nat)) ∧ w' = W) := fun W g hc => at_any [5, 6] i g W (by decide) (by decide) hc
  generalize atN [5, 6] i = z at H ⊢
  go_enter Tryz.func48, Tryz.ntmps48
  go_wp2_with fail
  refine (H.out _ _ (fun j h => by
    match j, h with
    | 0, _ => exact cell_mid _ _ _ _ _ _ (by simp) rfl
    | 1, _ => exact cell_mid _ _ _ _ _ _ (by simp) rfl
    | j + 2, h => exact absurd h (by show ¬ (j + 2 < 2); omega))).mono ?_
  rintro e w1 ⟨rfl, rfl⟩
  go_wp2_with fail
  go_ret
  exact ⟨rfl, below2 _ _ _⟩
set_option maxRecDepth 100000 in
set_option maxHeartbeats 8000000 in
theorem st_6 (s : ByteArray) (n a : Int) (p : Option Addr) (m c i st : Nat) (w : World) : Calls Tryz.prog 48 #[.agg (nd 6 s n a p m c), .int .i64 (i : Nat), .int .i64 (st : Nat)] w fun e w' => e = .returned (.int .i64 (atN [7, 5, 6] i : Nat)) ∧ Below w.heap.size w w' := by
  have H : Hid (∀ W g, (∀ (j : Nat) (h : j < ([7, 5, 6] : List Nat).length), W.cell? ⟨g, j, none⟩ = some (.int .i64 ((([7, 5, 6] : List Nat)[j] : Nat)))) → Calls Tryz.prog 84 #[.slice (some ⟨g, 0, none⟩) 3 3, .int .i64 (i : Nat)] W fun e w' => e = .returned (.int .i64 (atN [7, 5, 6] i : Nat)) ∧ w' = W) := fun W g hc => at_any [7, 5, 6] i g W (by decide) (by decide) hc
  generalize atN [7, 5, 6] i = z at H ⊢
  go_enter Tryz.func48, Tryz.ntmps48
  go_wp2_with fail
  refine (H.out _ _ (fun j h => by
    match j, h with
    | 0, _ => exact cell_mid _ _ _ _ _ _ (by simp) rfl
    | 1, _ => exact cell_mid _ _ _ _ _ _ (by simp) rfl
    | 2, _ => exact cell_mid _ _ _ _ _ _ (by simp) rfl
    | j + 3, h => exact absurd h (by show ¬ (j + 3 < 3); omega))).mono ?_
  rintro e w1 ⟨rfl, rfl⟩
  go_wp2_with fail
  go_ret
  exact ⟨rfl, below2 _ _ _⟩
set_option maxRecDepth 100000 in
set_option maxHeartbeats 8000000 in
theorem st_19 (s : ByteArray) (n a : Int) (p : Option Addr) (m c i st : Nat) (w : World) : Calls Tryz.prog 48 #[.agg (nd 19 s n a p m c), .int .i64 (i : Nat), .int .i64 (st : Nat)] w fun e w' => e = .returned (.int .i64 (atN [8, 8, 14] i : Nat)) ∧ Below w.heap.size w w' := by
  have H : Hid (∀ W g, (∀ (j : Nat) (h : j < ([8, 8, 14] : List Nat).length), W.cell? ⟨g, j, none⟩ = some (.int .i64 ((([8, 8, 14] : List Nat)[j] : Nat)))) → Calls Tryz.prog 84 #[.slice (some ⟨g, 0, none⟩) 3 3, .int .i64 (i : Nat)] W fun e w' => e = .returned (.int .i64 (atN [8, 8, 14] i : Nat)) ∧ w' = W) := fun W g hc => at_any [8, 8, 14] i g W (by decide) (by decide) hc
  generalize atN [8, 8, 14] i = z at H ⊢
  go_enter Tryz.func48, Tryz.ntmps48
  go_wp2_with fail
  refine (H.out _ _ (fun j h => by
    match j, h with
    | 0, _ => exact cell_mid _ _ _ _ _ _ (by simp) rfl
    | 1, _ => exact cell_mid _ _ _ _ _ _ (by simp) rfl
    | 2, _ => exact cell_mid _ _ _ _ _ _ (by simp) rfl
    | j + 3, h => exact absurd h (by show ¬ (j + 3 < 3); omega))).mono ?_
  rintro e w1 ⟨rfl, rfl⟩
  go_wp2_with fail
  go_ret
  exact ⟨rfl, below2 _ _ _⟩
set_option maxRecDepth 100000 in
set_option maxHeartbeats 8000000 in
theorem st_21 (s : ByteArray) (n a : Int) (p : Option Addr) (m c i st : Nat) (w : World) : Calls Tryz.prog 48 #[.agg (nd 21 s n a p m c), .int .i64 (i : Nat), .int .i64 (st : Nat)] w fun e w' => e = .returned (.int .i64 (atN [8, 8, 14] i : Nat)) ∧ Below w.heap.size w w' := by
  have H : Hid (∀ W g, (∀ (j : Nat) (h : j < ([8, 8, 14] : List Nat).length), W.cell? ⟨g, j, none⟩ = some (.int .i64 ((([8, 8, 14] : List Nat)[j] : Nat)))) → Calls Tryz.prog 84 #[.slice (some ⟨g, 0, none⟩) 3 3, .int .i64 (i : Nat)] W fun e w' => e = .returned (.int .i64 (atN [8, 8, 14] i : Nat)) ∧ w' = W) := fun W g hc => at_any [8, 8, 14] i g W (by decide) (by decide) hc
  generalize atN [8, 8, 14] i = z at H ⊢
  go_enter Tryz.func48, Tryz.ntmps48
  go_wp2_with fail
  refine (H.out _ _ (fun j h => by
    match j, h with
    | 0, _ => exact cell_mid _ _ _ _ _ _ (by simp) rfl
    | 1, _ => exact cell_mid _ _ _ _ _ _ (by simp) rfl
    | 2, _ => exact cell_mid _ _ _ _ _ _ (by simp) rfl
    | j + 3, h => exact absurd h (by show ¬ (j + 3 < 3); omega))).mono ?_
  rintro e w1 ⟨rfl, rfl⟩
  go_wp2_with fail
  go_ret
  exact ⟨rfl, below2 _ _ _⟩
set_option maxRecDepth 100000 in
set_option maxHeartbeats 8000000 in
theorem st_20 (s : ByteArray) (n a : Int) (p : Option Addr) (m c i st : Nat) (w : World) : Calls Tryz.prog 48 #[.agg (nd 20 s n a p m c), .int .i64 (i : Nat), .int .i64 (st : Nat)] w fun e w' => e = .returned (.int .i64 (atN [13, 10] i : Nat)) ∧ Below w.heap.size w w' := by
  have H : Hid (∀ W g, (∀ (j : Nat) (h : j < ([13, 10] : List Nat).length), W.cell? ⟨g, j, none⟩ = some (.int .i64 ((([13, 10] : List Nat)[j] : Nat)))) → Calls Tryz.prog 84 #[.slice (some ⟨g, 0, none⟩) 2 2, .int .i64 (i : Nat)] W fun e w' => e = .returned (.int .i64 (atN [13, 10] i : Nat)) ∧ w' = W) := fun W g hc => at_any [13, 10] i g W (by decide) (by decide) hc
  generalize atN [13, 10] i = z at H ⊢
  go_enter Tryz.func48, Tryz.ntmps48
  go_wp2_with fail
  refine (H.out _ _ (fun j h => by
    match j, h with
    | 0, _ => exact cell_mid _ _ _ _ _ _ (by simp) rfl
    | 1, _ => exact cell_mid _ _ _ _ _ _ (by simp) rfl
    | j + 2, h => exact absurd h (by show ¬ (j + 2 < 2); omega))).mono ?_
  rintro e w1 ⟨rfl, rfl⟩
  go_wp2_with fail
  go_ret
  exact ⟨rfl, below2 _ _ _⟩
set_option maxRecDepth 100000 in
set_option maxHeartbeats 8000000 in
theorem st_22 (s : ByteArray) (n a : Int) (p : Option Addr) (m c i st : Nat) (w : World) : Calls Tryz.prog 48 #[.agg (nd 22 s n a p m c), .int .i64 (i : Nat), .int .i64 (st : Nat)] w fun e w' => e = .returned (.int .i64 (atN [10, 6, 15] i : Nat)) ∧ Below w.heap.size w w' := by
  have H : Hid (∀ W g, (∀ (j : Nat) (h : j < ([10, 6, 15] : List Nat).length), W.cell? ⟨g, j, none⟩ = some (.int .i64 ((([10, 6, 15] : List Nat)[j] : Nat)))) → Calls Tryz.prog 84 #[.slice (some ⟨g, 0, none⟩) 3 3, .int .i64 (i : Nat)] W fun e w' => e = .returned (.int .i64 (atN [10, 6, 15] i : Nat)) ∧ w' = W) := fun W g hc => at_any [10, 6, 15] i g W (by decide) (by decide) hc
  generalize atN [10, 6, 15] i = z at H ⊢
  go_enter Tryz.func48, Tryz.ntmps48
  go_wp2_with fail
  refine (H.out _ _ (fun j h => by
    match j, h with
    | 0, _ => exact cell_mid _ _ _ _ _ _ (by simp) rfl
    | 1, _ => exact cell_mid _ _ _ _ _ _ (by simp) rfl
    | 2, _ => exact cell_mid _ _ _ _ _ _ (by simp) rfl
    | j + 3, h => exact absurd h (by show ¬ (j + 3 < 3); omega))).mono ?_
  rintro e w1 ⟨rfl, rfl⟩
  go_wp2_with fail
  go_ret
  exact ⟨rfl, below2 _ _ _⟩
set_option maxRecDepth 100000 in
set_option maxHeartbeats 8000000 in
theorem st_23 (s : ByteArray) (n a : Int) (p : Option Addr) (m c i st : Nat) (w : World) : Calls Tryz.prog 48 #[.agg (nd 23 s n a p m c), .int .i64 (i : Nat), .int .i64 (st : Nat)] w fun e w' => e = .returned (.int .i64 (atN [11, 6] i : Nat)) ∧ Below w.heap.size w w' := by
  have H : Hid (∀ W g, (∀ (j : Nat) (h : j < ([11, 6] : List Nat).length), W.cell? ⟨g, j, none⟩ = some (.int .i64 ((([11, 6] : List Nat)[j] : Nat)))) → Calls Tryz.prog 84 #[.slice (some ⟨g, 0, none⟩) 2 2, .int .i64 (i : Nat)] W fun e w' => e = .returned (.int .i64 (atN [11, 6] i : Nat)) ∧ w' = W) := fun W g hc => at_any [11, 6] i g W (by decide) (by decide) hc
  generalize atN [11, 6] i = z at H ⊢
  go_enter Tryz.func48, Tryz.ntmps48
  go_wp2_with fail
  refine (H.out _ _ (fun j h => by
    match j, h with
    | 0, _ => exact cell_mid _ _ _ _ _ _ (by simp) rfl
    | 1, _ => exact cell_mid _ _ _ _ _ _ (by simp) rfl
    | j + 2, h => exact absurd h (by show ¬ (j + 2 < 2); omega))).mono ?_
  rintro e w1 ⟨rfl, rfl⟩
  go_wp2_with fail
  go_ret
  exact ⟨rfl, below2 _ _ _⟩
set_option maxRecDepth 100000 in
set_option maxHeartbeats 8000000 in
theorem st_24 (s : ByteArray) (n a : Int) (p : Option Addr) (m c i st : Nat) (w : World) : Calls Tryz.prog 48 #[.agg (nd 24 s n a p m c), .int .i64 (i : Nat), .int .i64 (st : Nat)] w fun e w' => e = .returned (.int .i64 (atN [16, 16, 10, 6] i : Nat)) ∧ Below w.heap.size w w' := by
  have H : Hid (∀ W g, (∀ (j : Nat) (h : j < ([16, 16, 10, 6] : List Nat).length), W.cell? ⟨g, j, none⟩ = some (.int .i64 ((([16, 16, 10, 6] : List Nat)[j] : Nat)))) → Calls Tryz.prog 84 #[.slice (some ⟨g, 0, none⟩) 4 4, .int .i64 (i : Nat)] W fun e w' => e = .returned (.int .i64 (atN [16, 16, 10, 6] i : Nat)) ∧ w' = W) := fun W g hc => at_any [16, 16, 10, 6] i g W (by decide) (by decide) hc
  generalize atN [16, 16, 10, 6] i = z at H ⊢
  go_enter Tryz.func48, Tryz.ntmps48
  go_wp2_with fail
  refine (H.out _ _ (fun j h => by
    match j, h with
    | 0, _ => exact cell_mid _ _ _ _ _ _ (by simp) rfl
    | 1, _ => exact cell_mid _ _ _ _ _ _ (by simp) rfl
    | 2, _ => exact cell_mid _ _ _ _ _ _ (by simp) rfl
    | 3, _ => exact cell_mid _ _ _ _ _ _ (by simp) rfl
    | j + 4, h => exact absurd h (by show ¬ (j + 4 < 4); omega))).mono ?_
  rintro e w1 ⟨rfl, rfl⟩
  go_wp2_with fail
  go_ret
  exact ⟨rfl, below2 _ _ _⟩
set_option maxRecDepth 100000 in
set_option maxHeartbeats 8000000 in
theorem dp_28 (s : ByteArray) (n a : Int) (p : Option Addr) (m c i st : Nat) (w : World) : Calls Tryz.prog 86 #[.agg (nd 28 s n a p m c), .int .i64 (i : Nat), .int .i64 (st : Nat)] w fun e w' => e = .returned (.int .i64 11) ∧ Below w.heap.size w w' := by
  go_enter Tryz.func86, Tryz.ntmps86
  go_wp2
  go_ret
  exact ⟨rfl, below1 _ _⟩
set_option maxRecDepth 100000 in
set_option maxHeartbeats 8000000 in
theorem dp_29 (s : ByteArray) (n a : Int) (p : Option Addr) (m c i st : Nat) (w : World) : Calls Tryz.prog 86 #[.agg (nd 29 s n a p m c), .int .i64 (i : Nat), .int .i64 (st : Nat)] w fun e w' => e = .returned (.int .i64 21) ∧ Below w.heap.size w w' := by
  go_enter Tryz.func86, Tryz.ntmps86
  go_wp2
  go_ret
  exact ⟨rfl, below1 _ _⟩
set_option maxRecDepth 100000 in
set_option maxHeartbeats 8000000 in
theorem dp_30 (s : ByteArray) (n a : Int) (p : Option Addr) (m c i st : Nat) (w : World) : Calls Tryz.prog 86 #[.agg (nd 30 s n a p m c), .int .i64 (i : Nat), .int .i64 (st : Nat)] w fun e w' => e = .returned (.int .i64 21) ∧ Below w.heap.size w w' := by
  go_enter Tryz.func86, Tryz.ntmps86
  go_wp2
  go_ret
  exact ⟨rfl, below1 _ _⟩
set_option maxRecDepth 100000 in
set_option maxHeartbeats 8000000 in
theorem dp_39 (s : ByteArray) (n a : Int) (p : Option Addr) (m c i st : Nat) (w : World) : Calls Tryz.prog 86 #[.agg (nd 39 s n a p m c), .int .i64 (i : Nat), .int .i64 (st : Nat)] w fun e w' => e = .returned (.int .i64 22) ∧ Below w.heap.size w w' := by
  go_enter Tryz.func86, Tryz.ntmps86
  go_wp2
  go_ret
  exact ⟨rfl, below1 _ _⟩
set_option maxRecDepth 100000 in
set_option maxHeartbeats 8000000 in
theorem dp_41 (s : ByteArray) (n a : Int) (p : Option Addr) (m c i st : Nat) (w : World) : Calls Tryz.prog 86 #[.agg (nd 41 s n a p m c), .int .i64 (i : Nat), .int .i64 (st : Nat)] w fun e w' => e = .returned (.int .i64 23) ∧ Below w.heap.size w w' := by
  go_enter Tryz.func86, Tryz.ntmps86
  go_wp2
  go_ret
  exact ⟨rfl, below1 _ _⟩
set_option maxRecDepth 100000 in
set_option maxHeartbeats 8000000 in
theorem dp_42 (s : ByteArray) (n a : Int) (p : Option Addr) (m c i st : Nat) (w : World) : Calls Tryz.prog 86 #[.agg (nd 42 s n a p m c), .int .i64 (i : Nat), .int .i64 (st : Nat)] w fun e w' => e = .returned (.int .i64 24) ∧ Below w.heap.size w w' := by
  go_enter Tryz.func86, Tryz.ntmps86
  go_wp2
  go_ret
  exact ⟨rfl, below1 _ _⟩
set_option maxRecDepth 100000 in
set_option maxHeartbeats 8000000 in
theorem dp_44 (s : ByteArray) (n a : Int) (p : Option Addr) (m c i st : Nat) (w : World) : Calls Tryz.prog 86 #[.agg (nd 44 s n a p m c), .int .i64 (i : Nat), .int .i64 (st : Nat)] w fun e w' => e = .returned (.int .i64 26) ∧ Below w.heap.size w w' := by
  go_enter Tryz.func86, Tryz.ntmps86
  go_wp2
  go_ret
  exact ⟨rfl, below1 _ _⟩
set_option maxRecDepth 100000 in
set_option maxHeartbeats 8000000 in
theorem dp_48 (s : ByteArray) (n a : Int) (p : Option Addr) (m c i st : Nat) (w : World) : Calls Tryz.prog 86 #[.agg (nd 48 s n a p m c), .int .i64 (i : Nat), .int .i64 (st : Nat)] w fun e w' => e = .returned (.int .i64 (atN [28, 10] i : Nat)) ∧ Below w.heap.size w w' := by
  have H : Hid (∀ W g, (∀ (j : Nat) (h : j < ([28, 10] : List Nat).length), W.cell? ⟨g, j, none⟩ = some (.int .i64 ((([28, 10] : List Nat)[j] : Nat)))) → Calls Tryz.prog 84 #[.slice (some ⟨g, 0, none⟩) 2 2, .int .i64 (i : Nat)] W fun e w' => e = .returned (.int .i64 (atN [28, 10] i : Nat)) ∧ w' = W) := fun W g hc => at_any [28, 10] i g W (by decide) (by decide) hc
  generalize atN [28, 10] i = z at H ⊢
  go_enter Tryz.func86, Tryz.ntmps86
  go_wp2_with fail
  refine (H.out _ _ (fun j h => by
    match j, h with
    | 0, _ => exact cell_mid _ _ _ _ _ _ (by simp) rfl
    | 1, _ => exact cell_mid _ _ _ _ _ _ (by simp) rfl
    | j + 2, h => exact absurd h (by show ¬ (j + 2 < 2); omega))).mono ?_
  rintro e w1 ⟨rfl, rfl⟩
  go_wp2_with fail
  go_ret
  exact ⟨rfl, below2 _ _ _⟩
set_option maxRecDepth 100000 in
set_option maxHeartbeats 8000000 in
theorem dp_49 (s : ByteArray) (n a : Int) (p : Option Addr) (m c i st : Nat) (w : World) : Calls Tryz.prog 86 #[.agg (nd 49 s n a p m c), .int .i64 (i : Nat), .int .i64 (st : Nat)] w fun e w' => e = .returned (.int .i64 (atN [10, 25] i : Nat)) ∧ Below w.heap.size w w' := by
  have H : Hid (∀ W g, (∀ (j : Nat) (h : j < ([10, 25] : List Nat).length), W.cell? ⟨g, j, none⟩ = some (.int .i64 ((([10, 25] : List Nat)[j] : Nat)))) → Calls Tryz.prog 84 #[.slice (some ⟨g, 0, none⟩) 2 2, .int .i64 (i : Nat)] W fun e w' => e = .returned (.int .i64 (atN [10, 25] i : Nat)) ∧ w' = W) := fun W g hc => at_any [10, 25] i g W (by decide) (by decide) hc
  generalize atN [10, 25] i = z at H ⊢
  go_enter Tryz.func86, Tryz.ntmps86
  go_wp2_with fail
  refine (H.out _ _ (fun j h => by
    match j, h with
    | 0, _ => exact cell_mid _ _ _ _ _ _ (by simp) rfl
    | 1, _ => exact cell_mid _ _ _ _ _ _ (by simp) rfl
    | j + 2, h => exact absurd h (by show ¬ (j + 2 < 2); omega))).mono ?_
  rintro e w1 ⟨rfl, rfl⟩
  go_wp2_with fail
  go_ret
  exact ⟨rfl, below2 _ _ _⟩
set_option maxRecDepth 100000 in
set_option maxHeartbeats 8000000 in
theorem dp_38a (s : ByteArray) (n a : Int) (p : Option Addr) (m c i : Nat) (w : World) : Calls Tryz.prog 86 #[.agg (nd 38 s n a p m c), .int .i64 (i : Nat), .int .i64 20] w fun e w' => e = .returned (.int .i64 27) ∧ Below w.heap.size w w' := by
  go_enter Tryz.func86, Tryz.ntmps86
  go_wp2
  go_ret
  exact ⟨rfl, below1 _ _⟩
set_option maxRecDepth 100000 in
set_option maxHeartbeats 8000000 in
theorem dp_38b (s : ByteArray) (n a : Int) (p : Option Addr) (m c i st : Nat) (w : World) (h20 : (((st : Nat) : Int) == 20) = false) : Calls Tryz.prog 86 #[.agg (nd 38 s n a p m c), .int .i64 (i : Nat), .int .i64 (st : Nat)] w fun e w' => e = .returned (.int .i64 10) ∧ Below w.heap.size w w' := by
  go_enter Tryz.func86, Tryz.ntmps86
  go_wp2
  go_ret
  exact ⟨rfl, below1 _ _⟩
set_option maxRecDepth 100000 in
set_option maxHeartbeats 8000000 in
theorem dp_else (k : Int) (g27 : (k == 27) = false) (g28 : (k == 28) = false) (g29 : (k == 29) = false) (g30 : (k == 30) = false) (g38 : (k == 38) = false) (g39 : (k == 39) = false) (g41 : (k == 41) = false) (g42 : (k == 42) = false) (g44 : (k == 44) = false) (g47 : (k == 47) = false) (g48 : (k == 48) = false) (g49 : (k == 49) = false) (s : ByteArray) (n a : Int) (p : Option Addr) (m c i st : Nat) (w : World) : Calls Tryz.prog 86 #[.agg (nd k s n a p m c), .int .i64 (i : Nat), .int .i64 (st : Nat)] w fun e w' => e = .returned (.int .i64 10) ∧ Below w.heap.size w w' := by
  go_enter Tryz.func86, Tryz.ntmps86
  go_wp2
  go_ret
  exact ⟨rfl, below1 _ _⟩
set_option maxRecDepth 100000 in
set_option maxHeartbeats 8000000 in
theorem dp_47a (s : ByteArray) (n a : Int) (p : Option Addr) (m c i st : Nat) (w : World) (h3 : (((i : Nat) : Int) == 3) = false) : Calls Tryz.prog 86 #[.agg (nd 47 s n a p m c), .int .i64 (i : Nat), .int .i64 (st : Nat)] w fun e w' => e = .returned (.int .i64 (atN [10, 11] i : Nat)) ∧ Below w.heap.size w w' := by
  have H : Hid (∀ W g, (∀ (j : Nat) (h : j < ([10, 11] : List Nat).length), W.cell? ⟨g, j, none⟩ = some (.int .i64 ((([10, 11] : List Nat)[j] : Nat)))) → Calls Tryz.prog 84 #[.slice (some ⟨g, 0, none⟩) 2 2, .int .i64 (i : Nat)] W fun e w' => e = .returned (.int .i64 (atN [10, 11] i : Nat)) ∧ w' = W) := fun W g hc => at_any [10, 11] i g W (by decide) (by decide) hc
  generalize atN [10, 11] i = z at H ⊢
  go_enter Tryz.func86, Tryz.ntmps86
  go_wp2_with fail
  refine (H.out _ _ (fun j h => by
    match j, h with
    | 0, _ => exact cell_mid _ _ _ _ _ _ (by simp) rfl
    | 1, _ => exact cell_mid _ _ _ _ _ _ (by simp) rfl
    | j + 2, h => exact absurd h (by show ¬ (j + 2 < 2); omega))).mono ?_
  rintro e w1 ⟨rfl, rfl⟩
  go_wp2_with fail
  go_ret
  exact ⟨rfl, below2 _ _ _⟩
end Go.Proofs.YthbnegggohegkaaGreatDoor
