/-
  The document's own answer for trees: said, at every node.
-/
import Derived.Test.YthbnegggohegkaaGreatDoorQf
import Derived.Test.YthbnegggohegkaaGreatDoorGmJ
import Derived.Test.YthbnegggohegkaaGreatDoorGrJ
namespace Go.Proofs.YthbnegggohegkaaGreatDoor
open Go.RowKit

/-- A node's text, as the document has it. -/
def textS (k : Int) (s : Bytes) (st : Nat) : Bool :=
  if ([2, 3, 4, 5, 6, 7, 8, 9, 10, 11, 12, 18, 41, 45] : List Int).contains k then nameB s
  else if k == 14 then nameB s || (wordsS st).contains s
  else if ([23, 24, 25, 26, 31, 32] : List Int).contains k then nameB s || s == []
  else if k == 20 then assignB s
  else if k == 34 then s == [43, 43] || s == [45, 45]
  else if k == 35 then tokB s 4
  else if k == 36 then tokB s 5
  else if k == 37 then decide (s.length ≤ 65536)
  else if k == 40 then (if st == 23 || (st == 0 && !(s == [])) then nameB s else s == [])
  else if k == 50 then unaryB s
  else if k == 51 then binB s
  else s == []

set_option maxRecDepth 100000 in
set_option maxHeartbeats 4000000 in
theorem said_bad (k : Int) (s : ByteArray) (n a : Int) (p : Option Addr) (m c st : Nat) (w : World) (h : numB k n = false) : Calls Tryz.prog 44 #[.agg (nd k s n a p m c), .int .i64 (st : Nat)] w fun e w' => e = .returned (.bool false) ∧ Below w.heap.size w w' := by
  have h0 : n ≠ 0 := fun e => by rw [e] at h; cases h
  have g0 : (n == 0) = false := beq_false_of_ne h0
  by_cases h11 : k = 11
  · subst h11
    have hr : ¬ (0 < n ∧ n ≤ 12) := fun e => by unfold numB at h; rw [g0, decide_eq_true e.1, decide_eq_true e.2] at h; cases h
    by_cases hneg : n < 0
    · go_enter Tryz.func44, Tryz.ntmps44
      go_wp2
      go_ret
      exact ⟨rfl, below1 _ _⟩
    · have h12 : 12 < n := by omega
      go_enter Tryz.func44, Tryz.ntmps44
      go_wp2
      go_ret
      exact ⟨rfl, below1 _ _⟩
  · have g11 : (k == 11) = false := beq_false_of_ne h11
    clear h
    go_enter Tryz.func44, Tryz.ntmps44
    go_wp2
    go_ret
    exact ⟨rfl, below1 _ _⟩

set_option maxRecDepth 100000 in
set_option maxHeartbeats 4000000 in
theorem said_name (k : Int) (hk : k = 2 ∨ k = 3 ∨ k = 4 ∨ k = 5 ∨ k = 6 ∨ k = 7 ∨ k = 8 ∨ k = 9 ∨ k = 10 ∨ k = 12 ∨ k = 18 ∨ k = 41 ∨ k = 45) (s : ByteArray) (n a : Int) (p : Option Addr) (m c st : Nat) (w : World) (hz : n = 0) (q : Bool) (h78 : ∀ W, Below w.heap.size w W → Calls Tryz.prog 78 #[.string s] W fun e w' => e = .returned (.bool q) ∧ Below W.heap.size W w') : Calls Tryz.prog 44 #[.agg (nd k s n a p m c), .int .i64 (st : Nat)] w fun e w' => e = .returned (.bool q) ∧ Below w.heap.size w w' := by
  subst hz
  have H78 : Hid _ := h78
  clear h78
  have hb1 := below1 w (.cells (nd k s 0 a p m c) 24)
  have N0 := CellsOf.new w (nd k s 0 a p m c) 24
  rcases hk with rfl | rfl | rfl | rfl | rfl | rfl | rfl | rfl | rfl | rfl | rfl | rfl | rfl
  all_goals
    go_enter Tryz.func44, Tryz.ntmps44
    go_wp2_with fail
    refine (H78.out _ hb1).mono ?_
    rintro e w1 ⟨rfl, hb2⟩
    have hB2 : Below w.heap.size w w1 := hb1.trans (hb2.mono (by simp))
    have hz2 := hb2.size
    simp only [World.size_alloc] at hz2
    have N1 := N0.below (by simp) hb2
    have n0 := N1 0 _ rfl
    have n1 := N1 1 _ rfl
    clear hb1 hb2 N0 N1
    have HE : Hid (Below w.heap.size w w1) := hB2
    clear hB2
    go_wp2_with fail
    go_ret
    exact ⟨rfl, HE.out⟩

set_option maxRecDepth 100000 in
set_option maxHeartbeats 4000000 in
theorem said_11 (s : ByteArray) (n a : Int) (p : Option Addr) (m c st : Nat) (w : World) (hz : n = 0 ∨ (0 < n ∧ n ≤ 12)) (q : Bool) (h78 : ∀ W, Below w.heap.size w W → Calls Tryz.prog 78 #[.string s] W fun e w' => e = .returned (.bool q) ∧ Below W.heap.size W w') : Calls Tryz.prog 44 #[.agg (nd 11 s n a p m c), .int .i64 (st : Nat)] w fun e w' => e = .returned (.bool q) ∧ Below w.heap.size w w' := by
  by_cases h0 : n = 0
  · subst h0
    have H78 : Hid _ := h78
    clear h78
    have hb1 := below1 w (.cells (nd 11 s 0 a p m c) 24)
    have N0 := CellsOf.new w (nd 11 s 0 a p m c) 24
    go_enter Tryz.func44, Tryz.ntmps44
    go_wp2_with fail
    refine (H78.out _ hb1).mono ?_
    rintro e w1 ⟨rfl, hb2⟩
    have hB2 : Below w.heap.size w w1 := hb1.trans (hb2.mono (by simp))
    have hz2 := hb2.size
    simp only [World.size_alloc] at hz2
    have N1 := N0.below (by simp) hb2
    have n0 := N1 0 _ rfl
    have n1 := N1 1 _ rfl
    clear hb1 hb2 N0 N1
    have HE : Hid (Below w.heap.size w w1) := hB2
    clear hB2
    go_wp2_with fail
    go_ret
    exact ⟨rfl, HE.out⟩
  · have g0 : (n == 0) = false := beq_false_of_ne h0
    have hl : ¬ n < 0 := by omega
    have hg : ¬ 12 < n := by omega
    have H78 : Hid _ := h78
    clear h78
    have hb1 := below1 w (.cells (nd 11 s n a p m c) 24)
    have N0 := CellsOf.new w (nd 11 s n a p m c) 24
    go_enter Tryz.func44, Tryz.ntmps44
    go_wp2_with fail
    refine (H78.out _ hb1).mono ?_
    rintro e w1 ⟨rfl, hb2⟩
    have hB2 : Below w.heap.size w w1 := hb1.trans (hb2.mono (by simp))
    have hz2 := hb2.size
    simp only [World.size_alloc] at hz2
    have N1 := N0.below (by simp) hb2
    have n0 := N1 0 _ rfl
    have n1 := N1 1 _ rfl
    clear hb1 hb2 N0 N1
    have HE : Hid (Below w.heap.size w w1) := hB2
    clear hB2
    go_wp2_with fail
    go_ret
    exact ⟨rfl, HE.out⟩

set_option maxRecDepth 100000 in
set_option maxHeartbeats 4000000 in
theorem said_lab1 (k : Int) (hk : k = 23 ∨ k = 24 ∨ k = 25 ∨ k = 26 ∨ k = 31 ∨ k = 32) (s : ByteArray) (n a : Int) (p : Option Addr) (m c st : Nat) (w : World) (hz : n = 0) (h78 : ∀ W, Below w.heap.size w W → Calls Tryz.prog 78 #[.string s] W fun e w' => e = .returned (.bool true) ∧ Below W.heap.size W w') : Calls Tryz.prog 44 #[.agg (nd k s n a p m c), .int .i64 (st : Nat)] w fun e w' => e = .returned (.bool true) ∧ Below w.heap.size w w' := by
  subst hz
  have H78 : Hid _ := h78
  clear h78
  have hb1 := below1 w (.cells (nd k s 0 a p m c) 24)
  have N0 := CellsOf.new w (nd k s 0 a p m c) 24
  rcases hk with rfl | rfl | rfl | rfl | rfl | rfl
  all_goals
    go_enter Tryz.func44, Tryz.ntmps44
    go_wp2_with fail
    refine (H78.out _ hb1).mono ?_
    rintro e w1 ⟨rfl, hb2⟩
    have hB2 : Below w.heap.size w w1 := hb1.trans (hb2.mono (by simp))
    have hz2 := hb2.size
    simp only [World.size_alloc] at hz2
    have N1 := N0.below (by simp) hb2
    have n0 := N1 0 _ rfl
    have n1 := N1 1 _ rfl
    clear hb1 hb2 N0 N1
    have HE : Hid (Below w.heap.size w w1) := hB2
    clear hB2
    go_wp2_with fail
    go_ret
    exact ⟨rfl, HE.out⟩

set_option maxRecDepth 100000 in
set_option maxHeartbeats 4000000 in
theorem said_lab2 (k : Int) (hk : k = 23 ∨ k = 24 ∨ k = 25 ∨ k = 26 ∨ k = 31 ∨ k = 32) (s : ByteArray) (n a : Int) (p : Option Addr) (m c st : Nat) (w : World) (hz : n = 0) (h0 : (s.toList == []) = false) (h78 : ∀ W, Below w.heap.size w W → Calls Tryz.prog 78 #[.string s] W fun e w' => e = .returned (.bool false) ∧ Below W.heap.size W w') : Calls Tryz.prog 44 #[.agg (nd k s n a p m c), .int .i64 (st : Nat)] w fun e w' => e = .returned (.bool false) ∧ Below w.heap.size w w' := by
  subst hz
  have H78 : Hid _ := h78
  clear h78
  have hb1 := below1 w (.cells (nd k s 0 a p m c) 24)
  have N0 := CellsOf.new w (nd k s 0 a p m c) 24
  rcases hk with rfl | rfl | rfl | rfl | rfl | rfl
  all_goals
    go_enter Tryz.func44, Tryz.ntmps44
    go_wp2_with fail
    refine (H78.out _ hb1).mono ?_
    rintro e w1 ⟨rfl, hb2⟩
    have hB2 : Below w.heap.size w w1 := hb1.trans (hb2.mono (by simp))
    have hz2 := hb2.size
    simp only [World.size_alloc] at hz2
    have N1 := N0.below (by simp) hb2
    have n0 := N1 0 _ rfl
    have n1 := N1 1 _ rfl
    clear hb1 hb2 N0 N1
    have HE : Hid (Below w.heap.size w w1) := hB2
    clear hB2
    go_wp2_with fail
    go_ret
    exact ⟨rfl, HE.out⟩

set_option maxRecDepth 100000 in
set_option maxHeartbeats 4000000 in
theorem said_lab3 (k : Int) (hk : k = 23 ∨ k = 24 ∨ k = 25 ∨ k = 26 ∨ k = 31 ∨ k = 32) (n a : Int) (p : Option Addr) (m c st : Nat) (w : World) (hz : n = 0) (h78 : ∀ W, Below w.heap.size w W → Calls Tryz.prog 78 #[.string ⟨#[]⟩] W fun e w' => e = .returned (.bool false) ∧ Below W.heap.size W w') : Calls Tryz.prog 44 #[.agg (nd k ⟨#[]⟩ n a p m c), .int .i64 (st : Nat)] w fun e w' => e = .returned (.bool true) ∧ Below w.heap.size w w' := by
  subst hz
  have H78 : Hid _ := h78
  clear h78
  have hb1 := below1 w (.cells (nd k ⟨#[]⟩ 0 a p m c) 24)
  have N0 := CellsOf.new w (nd k ⟨#[]⟩ 0 a p m c) 24
  rcases hk with rfl | rfl | rfl | rfl | rfl | rfl
  all_goals
    go_enter Tryz.func44, Tryz.ntmps44
    go_wp2_with fail
    refine (H78.out _ hb1).mono ?_
    rintro e w1 ⟨rfl, hb2⟩
    have hB2 : Below w.heap.size w w1 := hb1.trans (hb2.mono (by simp))
    have hz2 := hb2.size
    simp only [World.size_alloc] at hz2
    have N1 := N0.below (by simp) hb2
    have n0 := N1 0 _ rfl
    have n1 := N1 1 _ rfl
    clear hb1 hb2 N0 N1
    have HE : Hid (Below w.heap.size w w1) := hB2
    clear hB2
    go_wp2_with fail
    go_ret
    exact ⟨rfl, HE.out⟩

set_option maxRecDepth 100000 in
set_option maxHeartbeats 4000000 in
theorem said_14 (s : ByteArray) (n a : Int) (p : Option Addr) (m c st : Nat) (w : World) (hz : n = 0) (q : Bool) (h78 : ∀ W, Below w.heap.size w W → Calls Tryz.prog 78 #[.string s] W fun e w' => e = .returned (.bool q) ∧ Below W.heap.size W w') (z : Bool) (h79 : ∀ W, Calls Tryz.prog 79 #[.string s, .int .i64 (st : Nat)] W fun e w' => e = .returned (.bool z) ∧ Below W.heap.size W w') : Calls Tryz.prog 44 #[.agg (nd 14 s n a p m c), .int .i64 (st : Nat)] w fun e w' => e = .returned (.bool z) ∧ Below w.heap.size w w' := by
  subst hz
  have H79 : Hid _ := h79
  clear h79
  have H78 : Hid _ := h78
  clear h78
  have hb1 := below1 w (.cells (nd 14 s 0 a p m c) 24)
  have N0 := CellsOf.new w (nd 14 s 0 a p m c) 24
  go_enter Tryz.func44, Tryz.ntmps44
  go_wp2_with fail
  refine (H78.out _ hb1).mono ?_
  rintro e w1 ⟨rfl, hb2⟩
  have hB2 : Below w.heap.size w w1 := hb1.trans (hb2.mono (by simp))
  have hz2 := hb2.size
  simp only [World.size_alloc] at hz2
  have N1 := N0.below (by simp) hb2
  have n0 := N1 0 _ rfl
  have n1 := N1 1 _ rfl
  clear hb1 hb2 N0 N1
  go_wp2_with fail
  refine (H79.out _).mono ?_
  rintro e w2 ⟨rfl, hb3⟩
  have HE : Hid (Below w.heap.size w w2) := hB2.trans (hb3.mono hB2.size)
  clear hB2 hb3 n0 n1
  go_wp2_with fail
  go_ret
  exact ⟨rfl, HE.out⟩

set_option maxRecDepth 100000 in
set_option maxHeartbeats 4000000 in
theorem said_20 (s : ByteArray) (n a : Int) (p : Option Addr) (m c st : Nat) (w : World) (hz : n = 0) (q : Bool) (h78 : ∀ W, Below w.heap.size w W → Calls Tryz.prog 78 #[.string s] W fun e w' => e = .returned (.bool q) ∧ Below W.heap.size W w') : Calls Tryz.prog 44 #[.agg (nd 20 s n a p m c), .int .i64 (st : Nat)] w fun e w' => e = .returned (.bool (assignB s.data.toList)) ∧ Below w.heap.size w w' := by
  subst hz
  have HA : Hid (∀ W p, TextsAt W p [[61], [43, 61], [45, 61], [42, 61], [47, 61], [37, 61], [38, 61], [124, 61], [94, 61], [60, 60, 61], [62, 62, 61]] → Calls Tryz.prog 80 #[.string s, .slice p 11 11] W fun e w' => e = .returned (.bool (assignB s.data.toList)) ∧ w' = W) := fun W p hT => among_any _ p _ s W (by decide) hT
  generalize assignB s.data.toList = z at HA ⊢
  have H78 : Hid _ := h78
  clear h78
  have hb1 := below1 w (.cells (nd 20 s 0 a p m c) 24)
  have N0 := CellsOf.new w (nd 20 s 0 a p m c) 24
  go_enter Tryz.func44, Tryz.ntmps44
  go_wp2_with fail
  refine (H78.out _ hb1).mono ?_
  rintro e w1 ⟨rfl, hb2⟩
  have hB2 : Below w.heap.size w w1 := hb1.trans (hb2.mono (by simp))
  have hz2 := hb2.size
  simp only [World.size_alloc] at hz2
  have N1 := N0.below (by simp) hb2
  have n0 := N1 0 _ rfl
  have n1 := N1 1 _ rfl
  clear hb1 hb2 N0 N1
  have hT : TextsAt (w1.alloc (.cells #[.string ⟨#[61]⟩, .string ⟨#[43, 61]⟩, .string ⟨#[45, 61]⟩, .string ⟨#[42, 61]⟩, .string ⟨#[47, 61]⟩, .string ⟨#[37, 61]⟩, .string ⟨#[38, 61]⟩, .string ⟨#[124, 61]⟩, .string ⟨#[94, 61]⟩, .string ⟨#[60, 60, 61]⟩, .string ⟨#[62, 62, 61]⟩] 9)) (some ⟨w1.heap.size, 0, none⟩) [[61], [43, 61], [45, 61], [42, 61], [47, 61], [37, 61], [38, 61], [124, 61], [94, 61], [60, 60, 61], [62, 62, 61]] := .inr ⟨_, rfl, by simp, fun i hi => by
    match i, hi with
    | 0, _ => exact cell_mid _ _ _ _ _ _ rfl rfl
    | 1, _ => exact cell_mid _ _ _ _ _ _ rfl rfl
    | 2, _ => exact cell_mid _ _ _ _ _ _ rfl rfl
    | 3, _ => exact cell_mid _ _ _ _ _ _ rfl rfl
    | 4, _ => exact cell_mid _ _ _ _ _ _ rfl rfl
    | 5, _ => exact cell_mid _ _ _ _ _ _ rfl rfl
    | 6, _ => exact cell_mid _ _ _ _ _ _ rfl rfl
    | 7, _ => exact cell_mid _ _ _ _ _ _ rfl rfl
    | 8, _ => exact cell_mid _ _ _ _ _ _ rfl rfl
    | 9, _ => exact cell_mid _ _ _ _ _ _ rfl rfl
    | 10, _ => exact cell_mid _ _ _ _ _ _ rfl rfl
    | i + 11, h => exact absurd h (by show ¬ (i + 11 < 11); omega)⟩
  have HE : Hid (Below w.heap.size w (w1.alloc (.cells #[.string ⟨#[61]⟩, .string ⟨#[43, 61]⟩, .string ⟨#[45, 61]⟩, .string ⟨#[42, 61]⟩, .string ⟨#[47, 61]⟩, .string ⟨#[37, 61]⟩, .string ⟨#[38, 61]⟩, .string ⟨#[124, 61]⟩, .string ⟨#[94, 61]⟩, .string ⟨#[60, 60, 61]⟩, .string ⟨#[62, 62, 61]⟩] 9))) := hB2.alloc hB2.size _
  go_wp2_with fail
  refine (HA.out _ _ hT).mono ?_
  rintro e w2 ⟨rfl, rfl⟩
  clear hB2 hT n0 n1
  go_wp2_with fail
  go_ret
  exact ⟨rfl, HE.out⟩

set_option maxRecDepth 100000 in
set_option maxHeartbeats 4000000 in
theorem said_50 (s : ByteArray) (n a : Int) (p : Option Addr) (m c st : Nat) (w : World) (hz : n = 0) (q : Bool) (h78 : ∀ W, Below w.heap.size w W → Calls Tryz.prog 78 #[.string s] W fun e w' => e = .returned (.bool q) ∧ Below W.heap.size W w') : Calls Tryz.prog 44 #[.agg (nd 50 s n a p m c), .int .i64 (st : Nat)] w fun e w' => e = .returned (.bool (unaryB s.data.toList)) ∧ Below w.heap.size w w' := by
  subst hz
  have HA : Hid (∀ W p, TextsAt W p [[45], [33], [94], [42]] → Calls Tryz.prog 80 #[.string s, .slice p 4 4] W fun e w' => e = .returned (.bool (unaryB s.data.toList)) ∧ w' = W) := fun W p hT => among_any _ p _ s W (by decide) hT
  generalize unaryB s.data.toList = z at HA ⊢
  have H78 : Hid _ := h78
  clear h78
  have hb1 := below1 w (.cells (nd 50 s 0 a p m c) 24)
  have N0 := CellsOf.new w (nd 50 s 0 a p m c) 24
  go_enter Tryz.func44, Tryz.ntmps44
  go_wp2_with fail
  refine (H78.out _ hb1).mono ?_
  rintro e w1 ⟨rfl, hb2⟩
  have hB2 : Below w.heap.size w w1 := hb1.trans (hb2.mono (by simp))
  have hz2 := hb2.size
  simp only [World.size_alloc] at hz2
  have N1 := N0.below (by simp) hb2
  have n0 := N1 0 _ rfl
  have n1 := N1 1 _ rfl
  clear hb1 hb2 N0 N1
  have hT : TextsAt (w1.alloc (.cells #[.string ⟨#[45]⟩, .string ⟨#[33]⟩, .string ⟨#[94]⟩, .string ⟨#[42]⟩] 9)) (some ⟨w1.heap.size, 0, none⟩) [[45], [33], [94], [42]] := .inr ⟨_, rfl, by simp, fun i hi => by
    match i, hi with
    | 0, _ => exact cell_mid _ _ _ _ _ _ rfl rfl
    | 1, _ => exact cell_mid _ _ _ _ _ _ rfl rfl
    | 2, _ => exact cell_mid _ _ _ _ _ _ rfl rfl
    | 3, _ => exact cell_mid _ _ _ _ _ _ rfl rfl
    | i + 4, h => exact absurd h (by show ¬ (i + 4 < 4); omega)⟩
  have HE : Hid (Below w.heap.size w (w1.alloc (.cells #[.string ⟨#[45]⟩, .string ⟨#[33]⟩, .string ⟨#[94]⟩, .string ⟨#[42]⟩] 9))) := hB2.alloc hB2.size _
  go_wp2_with fail
  refine (HA.out _ _ hT).mono ?_
  rintro e w2 ⟨rfl, rfl⟩
  clear hB2 hT n0 n1
  go_wp2_with fail
  go_ret
  exact ⟨rfl, HE.out⟩

set_option maxRecDepth 100000 in
set_option maxHeartbeats 4000000 in
theorem said_34a (s : ByteArray) (n a : Int) (p : Option Addr) (m c st : Nat) (w : World) (hz : n = 0) (h1 : (s.toList == [43, 43]) = true) (q : Bool) (h78 : ∀ W, Below w.heap.size w W → Calls Tryz.prog 78 #[.string s] W fun e w' => e = .returned (.bool q) ∧ Below W.heap.size W w') : Calls Tryz.prog 44 #[.agg (nd 34 s n a p m c), .int .i64 (st : Nat)] w fun e w' => e = .returned (.bool true) ∧ Below w.heap.size w w' := by
  subst hz
  have H78 : Hid _ := h78
  clear h78
  have hb1 := below1 w (.cells (nd 34 s 0 a p m c) 24)
  have N0 := CellsOf.new w (nd 34 s 0 a p m c) 24
  go_enter Tryz.func44, Tryz.ntmps44
  go_wp2_with fail
  refine (H78.out _ hb1).mono ?_
  rintro e w1 ⟨rfl, hb2⟩
  have hB2 : Below w.heap.size w w1 := hb1.trans (hb2.mono (by simp))
  have hz2 := hb2.size
  simp only [World.size_alloc] at hz2
  have N1 := N0.below (by simp) hb2
  have n0 := N1 0 _ rfl
  have n1 := N1 1 _ rfl
  clear hb1 hb2 N0 N1
  have HE : Hid (Below w.heap.size w w1) := hB2
  clear hB2
  go_wp2_with fail
  go_ret
  exact ⟨rfl, HE.out⟩

set_option maxRecDepth 100000 in
set_option maxHeartbeats 4000000 in
theorem said_34b (s : ByteArray) (n a : Int) (p : Option Addr) (m c st : Nat) (w : World) (hz : n = 0) (h1 : (s.toList == [43, 43]) = false) (h2 : (s.toList == [45, 45]) = true) (q : Bool) (h78 : ∀ W, Below w.heap.size w W → Calls Tryz.prog 78 #[.string s] W fun e w' => e = .returned (.bool q) ∧ Below W.heap.size W w') : Calls Tryz.prog 44 #[.agg (nd 34 s n a p m c), .int .i64 (st : Nat)] w fun e w' => e = .returned (.bool true) ∧ Below w.heap.size w w' := by
  subst hz
  have H78 : Hid _ := h78
  clear h78
  have hb1 := below1 w (.cells (nd 34 s 0 a p m c) 24)
  have N0 := CellsOf.new w (nd 34 s 0 a p m c) 24
  go_enter Tryz.func44, Tryz.ntmps44
  go_wp2_with fail
  refine (H78.out _ hb1).mono ?_
  rintro e w1 ⟨rfl, hb2⟩
  have hB2 : Below w.heap.size w w1 := hb1.trans (hb2.mono (by simp))
  have hz2 := hb2.size
  simp only [World.size_alloc] at hz2
  have N1 := N0.below (by simp) hb2
  have n0 := N1 0 _ rfl
  have n1 := N1 1 _ rfl
  clear hb1 hb2 N0 N1
  have HE : Hid (Below w.heap.size w w1) := hB2
  clear hB2
  go_wp2_with fail
  go_ret
  exact ⟨rfl, HE.out⟩

set_option maxRecDepth 100000 in
set_option maxHeartbeats 4000000 in
theorem said_34c (s : ByteArray) (n a : Int) (p : Option Addr) (m c st : Nat) (w : World) (hz : n = 0) (h1 : (s.toList == [43, 43]) = false) (h2 : (s.toList == [45, 45]) = false) (q : Bool) (h78 : ∀ W, Below w.heap.size w W → Calls Tryz.prog 78 #[.string s] W fun e w' => e = .returned (.bool q) ∧ Below W.heap.size W w') : Calls Tryz.prog 44 #[.agg (nd 34 s n a p m c), .int .i64 (st : Nat)] w fun e w' => e = .returned (.bool false) ∧ Below w.heap.size w w' := by
  subst hz
  have H78 : Hid _ := h78
  clear h78
  have hb1 := below1 w (.cells (nd 34 s 0 a p m c) 24)
  have N0 := CellsOf.new w (nd 34 s 0 a p m c) 24
  go_enter Tryz.func44, Tryz.ntmps44
  go_wp2_with fail
  refine (H78.out _ hb1).mono ?_
  rintro e w1 ⟨rfl, hb2⟩
  have hB2 : Below w.heap.size w w1 := hb1.trans (hb2.mono (by simp))
  have hz2 := hb2.size
  simp only [World.size_alloc] at hz2
  have N1 := N0.below (by simp) hb2
  have n0 := N1 0 _ rfl
  have n1 := N1 1 _ rfl
  clear hb1 hb2 N0 N1
  have HE : Hid (Below w.heap.size w w1) := hB2
  clear hB2
  go_wp2_with fail
  go_ret
  exact ⟨rfl, HE.out⟩

set_option maxRecDepth 100000 in
set_option maxHeartbeats 4000000 in
theorem said_35 (s : ByteArray) (n a : Int) (p : Option Addr) (m c st : Nat) (w : World) (hz : n = 0) (q : Bool) (h78 : ∀ W, Below w.heap.size w W → Calls Tryz.prog 78 #[.string s] W fun e w' => e = .returned (.bool q) ∧ Below W.heap.size W w') (z : Bool) (hw : ∀ W, Calls Tryz.prog 81 #[.string s] W fun e w' => e = .returned (.bool z) ∧ w' = W) : Calls Tryz.prog 44 #[.agg (nd 35 s n a p m c), .int .i64 (st : Nat)] w fun e w' => e = .returned (.bool z) ∧ Below w.heap.size w w' := by
  subst hz
  have HW : Hid _ := hw
  clear hw
  have H78 : Hid _ := h78
  clear h78
  have hb1 := below1 w (.cells (nd 35 s 0 a p m c) 24)
  have N0 := CellsOf.new w (nd 35 s 0 a p m c) 24
  go_enter Tryz.func44, Tryz.ntmps44
  go_wp2_with fail
  refine (H78.out _ hb1).mono ?_
  rintro e w1 ⟨rfl, hb2⟩
  have hB2 : Below w.heap.size w w1 := hb1.trans (hb2.mono (by simp))
  have hz2 := hb2.size
  simp only [World.size_alloc] at hz2
  have N1 := N0.below (by simp) hb2
  have n0 := N1 0 _ rfl
  have n1 := N1 1 _ rfl
  clear hb1 hb2 N0 N1
  go_wp2_with fail
  refine (HW.out _).mono ?_
  rintro e w2 ⟨rfl, rfl⟩
  have HE : Hid (Below w.heap.size w w2) := hB2
  clear hB2 n0 n1
  go_wp2_with fail
  go_ret
  exact ⟨rfl, HE.out⟩

set_option maxRecDepth 100000 in
set_option maxHeartbeats 4000000 in
theorem said_36 (s : ByteArray) (n a : Int) (p : Option Addr) (m c st : Nat) (w : World) (hz : n = 0) (q : Bool) (h78 : ∀ W, Below w.heap.size w W → Calls Tryz.prog 78 #[.string s] W fun e w' => e = .returned (.bool q) ∧ Below W.heap.size W w') (z : Bool) (hw : ∀ W, Calls Tryz.prog 82 #[.string s] W fun e w' => e = .returned (.bool z) ∧ w' = W) : Calls Tryz.prog 44 #[.agg (nd 36 s n a p m c), .int .i64 (st : Nat)] w fun e w' => e = .returned (.bool z) ∧ Below w.heap.size w w' := by
  subst hz
  have HW : Hid _ := hw
  clear hw
  have H78 : Hid _ := h78
  clear h78
  have hb1 := below1 w (.cells (nd 36 s 0 a p m c) 24)
  have N0 := CellsOf.new w (nd 36 s 0 a p m c) 24
  go_enter Tryz.func44, Tryz.ntmps44
  go_wp2_with fail
  refine (H78.out _ hb1).mono ?_
  rintro e w1 ⟨rfl, hb2⟩
  have hB2 : Below w.heap.size w w1 := hb1.trans (hb2.mono (by simp))
  have hz2 := hb2.size
  simp only [World.size_alloc] at hz2
  have N1 := N0.below (by simp) hb2
  have n0 := N1 0 _ rfl
  have n1 := N1 1 _ rfl
  clear hb1 hb2 N0 N1
  go_wp2_with fail
  refine (HW.out _).mono ?_
  rintro e w2 ⟨rfl, rfl⟩
  have HE : Hid (Below w.heap.size w w2) := hB2
  clear hB2 n0 n1
  go_wp2_with fail
  go_ret
  exact ⟨rfl, HE.out⟩

set_option maxRecDepth 100000 in
set_option maxHeartbeats 4000000 in
theorem said_37 (s : ByteArray) (n a : Int) (p : Option Addr) (m c st : Nat) (w : World) (hz : n = 0) (q : Bool) (h78 : ∀ W, Below w.heap.size w W → Calls Tryz.prog 78 #[.string s] W fun e w' => e = .returned (.bool q) ∧ Below W.heap.size W w') : Calls Tryz.prog 44 #[.agg (nd 37 s n a p m c), .int .i64 (st : Nat)] w fun e w' => e = .returned (.bool (decide ((s.size : Int) ≤ 65536))) ∧ Below w.heap.size w w' := by
  subst hz
  have H78 : Hid _ := h78
  clear h78
  have hb1 := below1 w (.cells (nd 37 s 0 a p m c) 24)
  have N0 := CellsOf.new w (nd 37 s 0 a p m c) 24
  go_enter Tryz.func44, Tryz.ntmps44
  go_wp2_with fail
  refine (H78.out _ hb1).mono ?_
  rintro e w1 ⟨rfl, hb2⟩
  have hB2 : Below w.heap.size w w1 := hb1.trans (hb2.mono (by simp))
  have hz2 := hb2.size
  simp only [World.size_alloc] at hz2
  have N1 := N0.below (by simp) hb2
  have n0 := N1 0 _ rfl
  have n1 := N1 1 _ rfl
  clear hb1 hb2 N0 N1
  have HE : Hid (Below w.heap.size w w1) := hB2
  clear hB2
  go_wp2_with fail
  go_ret
  exact ⟨rfl, HE.out⟩

set_option maxRecDepth 100000 in
set_option maxHeartbeats 4000000 in
theorem said_51 (s : ByteArray) (n a : Int) (p : Option Addr) (m c st : Nat) (w : World) (hz : n = 0) (q : Bool) (h78 : ∀ W, Below w.heap.size w W → Calls Tryz.prog 78 #[.string s] W fun e w' => e = .returned (.bool q) ∧ Below W.heap.size W w') (z : Nat) (hw : ∀ W, Calls Tryz.prog 83 #[.string s] W fun e w' => e = .returned (.int .i64 (z : Nat)) ∧ Below W.heap.size W w') : Calls Tryz.prog 44 #[.agg (nd 51 s n a p m c), .int .i64 (st : Nat)] w fun e w' => e = .returned (.bool (decide (0 < z))) ∧ Below w.heap.size w w' := by
  subst hz
  have HW : Hid _ := hw
  clear hw
  have H78 : Hid _ := h78
  clear h78
  have hb1 := below1 w (.cells (nd 51 s 0 a p m c) 24)
  have N0 := CellsOf.new w (nd 51 s 0 a p m c) 24
  go_enter Tryz.func44, Tryz.ntmps44
  go_wp2_with fail
  refine (H78.out _ hb1).mono ?_
  rintro e w1 ⟨rfl, hb2⟩
  have hB2 : Below w.heap.size w w1 := hb1.trans (hb2.mono (by simp))
  have hz2 := hb2.size
  simp only [World.size_alloc] at hz2
  have N1 := N0.below (by simp) hb2
  have n0 := N1 0 _ rfl
  have n1 := N1 1 _ rfl
  clear hb1 hb2 N0 N1
  go_wp2_with fail
  refine (HW.out _).mono ?_
  rintro e w2 ⟨rfl, hb3⟩
  have HE : Hid (Below w.heap.size w w2) := hB2.trans (hb3.mono hB2.size)
  clear hB2 hb3 n0 n1
  go_wp2_with fail
  go_ret
  exact ⟨rfl, HE.out⟩

set_option maxRecDepth 100000 in
set_option maxHeartbeats 4000000 in
theorem said_40a (s : ByteArray) (n a : Int) (p : Option Addr) (m c : Nat) (w : World) (hz : n = 0) (q : Bool) (h78 : ∀ W, Below w.heap.size w W → Calls Tryz.prog 78 #[.string s] W fun e w' => e = .returned (.bool q) ∧ Below W.heap.size W w') : Calls Tryz.prog 44 #[.agg (nd 40 s n a p m c), .int .i64 23] w fun e w' => e = .returned (.bool q) ∧ Below w.heap.size w w' := by
  subst hz
  have H78 : Hid _ := h78
  clear h78
  have hb1 := below1 w (.cells (nd 40 s 0 a p m c) 24)
  have N0 := CellsOf.new w (nd 40 s 0 a p m c) 24
  go_enter Tryz.func44, Tryz.ntmps44
  go_wp2_with fail
  refine (H78.out _ hb1).mono ?_
  rintro e w1 ⟨rfl, hb2⟩
  have hB2 : Below w.heap.size w w1 := hb1.trans (hb2.mono (by simp))
  have hz2 := hb2.size
  simp only [World.size_alloc] at hz2
  have N1 := N0.below (by simp) hb2
  have n0 := N1 0 _ rfl
  have n1 := N1 1 _ rfl
  clear hb1 hb2 N0 N1
  have HE : Hid (Below w.heap.size w w1) := hB2
  clear hB2
  go_wp2_with fail
  go_ret
  exact ⟨rfl, HE.out⟩

set_option maxRecDepth 100000 in
set_option maxHeartbeats 4000000 in
theorem said_40b (s : ByteArray) (n a : Int) (p : Option Addr) (m c : Nat) (w : World) (hz : n = 0) (h0 : (s.toList == []) = false) (q : Bool) (h78 : ∀ W, Below w.heap.size w W → Calls Tryz.prog 78 #[.string s] W fun e w' => e = .returned (.bool q) ∧ Below W.heap.size W w') : Calls Tryz.prog 44 #[.agg (nd 40 s n a p m c), .int .i64 0] w fun e w' => e = .returned (.bool q) ∧ Below w.heap.size w w' := by
  subst hz
  have H78 : Hid _ := h78
  clear h78
  have hb1 := below1 w (.cells (nd 40 s 0 a p m c) 24)
  have N0 := CellsOf.new w (nd 40 s 0 a p m c) 24
  go_enter Tryz.func44, Tryz.ntmps44
  go_wp2_with fail
  refine (H78.out _ hb1).mono ?_
  rintro e w1 ⟨rfl, hb2⟩
  have hB2 : Below w.heap.size w w1 := hb1.trans (hb2.mono (by simp))
  have hz2 := hb2.size
  simp only [World.size_alloc] at hz2
  have N1 := N0.below (by simp) hb2
  have n0 := N1 0 _ rfl
  have n1 := N1 1 _ rfl
  clear hb1 hb2 N0 N1
  have HE : Hid (Below w.heap.size w w1) := hB2
  clear hB2
  go_wp2_with fail
  go_ret
  exact ⟨rfl, HE.out⟩

set_option maxRecDepth 100000 in
set_option maxHeartbeats 4000000 in
theorem said_40c (n a : Int) (p : Option Addr) (m c st : Nat) (w : World) (hz : n = 0) (h23 : (((st : Nat) : Int) == 23) = false) (q : Bool) (h78 : ∀ W, Below w.heap.size w W → Calls Tryz.prog 78 #[.string ⟨#[]⟩] W fun e w' => e = .returned (.bool q) ∧ Below W.heap.size W w') : Calls Tryz.prog 44 #[.agg (nd 40 ⟨#[]⟩ n a p m c), .int .i64 (st : Nat)] w fun e w' => e = .returned (.bool true) ∧ Below w.heap.size w w' := by
  subst hz
  have H78 : Hid _ := h78
  clear h78
  have hb1 := below1 w (.cells (nd 40 ⟨#[]⟩ 0 a p m c) 24)
  have N0 := CellsOf.new w (nd 40 ⟨#[]⟩ 0 a p m c) 24
  go_enter Tryz.func44, Tryz.ntmps44
  go_wp2_with fail
  refine (H78.out _ hb1).mono ?_
  rintro e w1 ⟨rfl, hb2⟩
  have hB2 : Below w.heap.size w w1 := hb1.trans (hb2.mono (by simp))
  have hz2 := hb2.size
  simp only [World.size_alloc] at hz2
  have N1 := N0.below (by simp) hb2
  have n0 := N1 0 _ rfl
  have n1 := N1 1 _ rfl
  clear hb1 hb2 N0 N1
  have HE : Hid (Below w.heap.size w w1) := hB2
  clear hB2
  by_cases h0 : (((st : Nat) : Int) == 0) = true
  · go_wp2_with fail
    go_ret
    exact ⟨rfl, HE.out⟩
  · rw [Bool.not_eq_true] at h0
    go_wp2_with fail
    go_ret
    exact ⟨rfl, HE.out⟩

set_option maxRecDepth 100000 in
set_option maxHeartbeats 4000000 in
theorem said_40d (s : ByteArray) (n a : Int) (p : Option Addr) (m c st : Nat) (w : World) (hz : n = 0) (h23 : (((st : Nat) : Int) == 23) = false) (h00 : (((st : Nat) : Int) == 0) = false) (h0 : (s.toList == []) = false) (q : Bool) (h78 : ∀ W, Below w.heap.size w W → Calls Tryz.prog 78 #[.string s] W fun e w' => e = .returned (.bool q) ∧ Below W.heap.size W w') : Calls Tryz.prog 44 #[.agg (nd 40 s n a p m c), .int .i64 (st : Nat)] w fun e w' => e = .returned (.bool false) ∧ Below w.heap.size w w' := by
  subst hz
  have H78 : Hid _ := h78
  clear h78
  have hb1 := below1 w (.cells (nd 40 s 0 a p m c) 24)
  have N0 := CellsOf.new w (nd 40 s 0 a p m c) 24
  go_enter Tryz.func44, Tryz.ntmps44
  go_wp2_with fail
  refine (H78.out _ hb1).mono ?_
  rintro e w1 ⟨rfl, hb2⟩
  have hB2 : Below w.heap.size w w1 := hb1.trans (hb2.mono (by simp))
  have hz2 := hb2.size
  simp only [World.size_alloc] at hz2
  have N1 := N0.below (by simp) hb2
  have n0 := N1 0 _ rfl
  have n1 := N1 1 _ rfl
  clear hb1 hb2 N0 N1
  have HE : Hid (Below w.heap.size w w1) := hB2
  clear hB2
  go_wp2_with fail
  go_ret
  exact ⟨rfl, HE.out⟩

set_option maxRecDepth 100000 in
set_option maxHeartbeats 4000000 in
theorem said_none1 (k : Int) (g2 : (k == 2) = false) (g3 : (k == 3) = false) (g4 : (k == 4) = false) (g5 : (k == 5) = false) (g6 : (k == 6) = false) (g7 : (k == 7) = false) (g8 : (k == 8) = false) (g9 : (k == 9) = false) (g10 : (k == 10) = false) (g11 : (k == 11) = false) (g12 : (k == 12) = false) (g18 : (k == 18) = false) (g41 : (k == 41) = false) (g45 : (k == 45) = false) (g23 : (k == 23) = false) (g24 : (k == 24) = false) (g25 : (k == 25) = false) (g26 : (k == 26) = false) (g31 : (k == 31) = false) (g32 : (k == 32) = false) (g14 : (k == 14) = false) (g40 : (k == 40) = false) (g20 : (k == 20) = false) (g34 : (k == 34) = false) (g35 : (k == 35) = false) (g36 : (k == 36) = false) (g37 : (k == 37) = false) (g50 : (k == 50) = false) (g51 : (k == 51) = false) (s : ByteArray) (n a : Int) (p : Option Addr) (m c st : Nat) (w : World) (hz : n = 0) (h0 : (s.toList == []) = false) (q : Bool) (h78 : ∀ W, Below w.heap.size w W → Calls Tryz.prog 78 #[.string s] W fun e w' => e = .returned (.bool q) ∧ Below W.heap.size W w') : Calls Tryz.prog 44 #[.agg (nd k s n a p m c), .int .i64 (st : Nat)] w fun e w' => e = .returned (.bool false) ∧ Below w.heap.size w w' := by
  subst hz
  have H78 : Hid _ := h78
  clear h78
  have hb1 := below1 w (.cells (nd k s 0 a p m c) 24)
  have N0 := CellsOf.new w (nd k s 0 a p m c) 24
  go_enter Tryz.func44, Tryz.ntmps44
  go_wp2_with fail
  refine (H78.out _ hb1).mono ?_
  rintro e w1 ⟨rfl, hb2⟩
  have hB2 : Below w.heap.size w w1 := hb1.trans (hb2.mono (by simp))
  have hz2 := hb2.size
  simp only [World.size_alloc] at hz2
  have N1 := N0.below (by simp) hb2
  have n0 := N1 0 _ rfl
  have n1 := N1 1 _ rfl
  clear hb1 hb2 N0 N1
  have HE : Hid (Below w.heap.size w w1) := hB2
  clear hB2
  go_wp2_with fail
  go_ret
  exact ⟨rfl, HE.out⟩

set_option maxRecDepth 100000 in
set_option maxHeartbeats 4000000 in
theorem said_none0 (k : Int) (g2 : (k == 2) = false) (g3 : (k == 3) = false) (g4 : (k == 4) = false) (g5 : (k == 5) = false) (g6 : (k == 6) = false) (g7 : (k == 7) = false) (g8 : (k == 8) = false) (g9 : (k == 9) = false) (g10 : (k == 10) = false) (g11 : (k == 11) = false) (g12 : (k == 12) = false) (g18 : (k == 18) = false) (g41 : (k == 41) = false) (g45 : (k == 45) = false) (g23 : (k == 23) = false) (g24 : (k == 24) = false) (g25 : (k == 25) = false) (g26 : (k == 26) = false) (g31 : (k == 31) = false) (g32 : (k == 32) = false) (g14 : (k == 14) = false) (g40 : (k == 40) = false) (g20 : (k == 20) = false) (g34 : (k == 34) = false) (g35 : (k == 35) = false) (g36 : (k == 36) = false) (g37 : (k == 37) = false) (g50 : (k == 50) = false) (g51 : (k == 51) = false) (n a : Int) (p : Option Addr) (m c st : Nat) (w : World) (hz : n = 0) (q : Bool) (h78 : ∀ W, Below w.heap.size w W → Calls Tryz.prog 78 #[.string ⟨#[]⟩] W fun e w' => e = .returned (.bool q) ∧ Below W.heap.size W w') : Calls Tryz.prog 44 #[.agg (nd k ⟨#[]⟩ n a p m c), .int .i64 (st : Nat)] w fun e w' => e = .returned (.bool true) ∧ Below w.heap.size w w' := by
  subst hz
  have H78 : Hid _ := h78
  clear h78
  have hb1 := below1 w (.cells (nd k ⟨#[]⟩ 0 a p m c) 24)
  have N0 := CellsOf.new w (nd k ⟨#[]⟩ 0 a p m c) 24
  go_enter Tryz.func44, Tryz.ntmps44
  go_wp2_with fail
  refine (H78.out _ hb1).mono ?_
  rintro e w1 ⟨rfl, hb2⟩
  have hB2 : Below w.heap.size w w1 := hb1.trans (hb2.mono (by simp))
  have hz2 := hb2.size
  simp only [World.size_alloc] at hz2
  have N1 := N0.below (by simp) hb2
  have n0 := N1 0 _ rfl
  have n1 := N1 1 _ rfl
  clear hb1 hb2 N0 N1
  have HE : Hid (Below w.heap.size w w1) := hB2
  clear hB2
  go_wp2_with fail
  go_ret
  exact ⟨rfl, HE.out⟩

end Go.Proofs.YthbnegggohegkaaGreatDoor
