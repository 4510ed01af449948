/-
  The walk of textFits, at every node: names, labels, signs, numbers, texts.
  The walk of textFits at labels, names, pairs and unary signs.
-/
import Derived.Test.YthbnegggohegkaaGreatDoorGkJ
namespace Go.Proofs.YthbnegggohegkaaGreatDoor
open Go.RowKit

set_option maxRecDepth 100000 in
set_option maxHeartbeats 4000000 in
theorem fits_name (k : Int) (hk : k = 2 ∨ k = 3 ∨ k = 4 ∨ k = 5 ∨ k = 6 ∨ k = 7 ∨ k = 8 ∨ k = 9 ∨ k = 10 ∨ k = 11 ∨ k = 12 ∨ k = 18 ∨ k = 41 ∨ k = 45) (s : ByteArray) (n a : Int) (p : Option Addr) (m c rl : Nat) (w : World) (q : Bool) (hn : ∀ W, Below w.heap.size w W → Calls Tryz.prog 121 #[.string s] W fun e w' => e = .returned (.bool q) ∧ Below W.heap.size W w') : Calls Tryz.prog 90 #[.agg (nd k s n a p m c), .int .i64 (rl : Nat)] w fun e w' => e = .returned (.bool q) ∧ Below w.heap.size w w' := by
  have HN : Hid _ := hn
  clear hn
  rcases hk with rfl | rfl | rfl | rfl | rfl | rfl | rfl | rfl | rfl | rfl | rfl | rfl | rfl | rfl
  all_goals
    go_enter Tryz.func90, Tryz.ntmps90
    go_wp2_with fail
    refine (HN.out _ (below1 _ _)).mono ?_
    rintro e w1 ⟨rfl, hb⟩
    go_wp2_with fail
    go_ret
    exact ⟨rfl, (below1 _ _).trans (hb.mono (by simp))⟩

set_option maxRecDepth 100000 in
set_option maxHeartbeats 4000000 in
theorem fits_label0 (k : Int) (hk : k = 23 ∨ k = 24 ∨ k = 25 ∨ k = 26 ∨ k = 31 ∨ k = 32) (n a : Int) (p : Option Addr) (m c rl : Nat) (w : World) : Calls Tryz.prog 90 #[.agg (nd k ⟨#[]⟩ n a p m c), .int .i64 (rl : Nat)] w fun e w' => e = .returned (.bool true) ∧ Below w.heap.size w w' := by
  rcases hk with rfl | rfl | rfl | rfl | rfl | rfl
  all_goals
    go_enter Tryz.func90, Tryz.ntmps90
    go_wp2
    go_ret
    exact ⟨rfl, below1 _ _⟩

set_option maxRecDepth 100000 in
set_option maxHeartbeats 4000000 in
theorem fits_assign (s : ByteArray) (n a : Int) (p : Option Addr) (m c rl : Nat) (w : World) : Calls Tryz.prog 90 #[.agg (nd 20 s n a p m c), .int .i64 (rl : Nat)] w fun e w' => e = .returned (.bool (assignB s.data.toList)) ∧ Below w.heap.size w w' := by
  have HN : Hid (∀ W, Calls Tryz.prog 124 #[.string s] W fun e w' => e = .returned (.bool (assignB s.data.toList)) ∧ w' = W) := fun W => assign_any s W
  generalize assignB s.data.toList = q at HN ⊢
  go_enter Tryz.func90, Tryz.ntmps90
  go_wp2_with fail
  refine (HN.out _).mono ?_
  rintro e w1 ⟨rfl, rfl⟩
  go_wp2_with fail
  go_ret
  exact ⟨rfl, below1 _ _⟩

set_option maxRecDepth 100000 in
set_option maxHeartbeats 4000000 in
theorem fits_token (k : Int) (kd : Nat) (hk : (k = 35 ∧ kd = 4) ∨ (k = 36 ∧ kd = 5)) (s : ByteArray) (n a : Int) (p : Option Addr) (m c rl : Nat) (w : World) (q : Bool) (hn : ∀ W, Below w.heap.size w W → Calls Tryz.prog 125 #[.string s, .int .i64 kd] W fun e w' => e = .returned (.bool q) ∧ Below W.heap.size W w') : Calls Tryz.prog 90 #[.agg (nd k s n a p m c), .int .i64 (rl : Nat)] w fun e w' => e = .returned (.bool q) ∧ Below w.heap.size w w' := by
  have HN : Hid _ := hn
  clear hn
  rcases hk with ⟨rfl, rfl⟩ | ⟨rfl, rfl⟩
  all_goals
    go_enter Tryz.func90, Tryz.ntmps90
    go_wp2_with fail
    refine (HN.out _ (below1 _ _)).mono ?_
    rintro e w1 ⟨rfl, hb⟩
    go_wp2_with fail
    go_ret
    exact ⟨rfl, (below1 _ _).trans (hb.mono (by simp))⟩

set_option maxRecDepth 100000 in
set_option maxHeartbeats 4000000 in
theorem fits_text (s : ByteArray) (n a : Int) (p : Option Addr) (m c rl : Nat) (w : World) : Calls Tryz.prog 90 #[.agg (nd 37 s n a p m c), .int .i64 (rl : Nat)] w fun e w' => e = .returned (.bool (decide (s.data.toList.length ≤ 65536))) ∧ Below w.heap.size w w' := by
  have hq : decide (s.data.toList.length ≤ 65536) = decide ((s.size : Int) ≤ 65536) := by
    have : s.data.toList.length = s.size := by simp
    rw [this]; by_cases h : s.size ≤ 65536
    · rw [decide_eq_true h, decide_eq_true (by omega)]
    · rw [decide_eq_false h, decide_eq_false (by omega)]
  rw [hq]
  clear hq
  go_enter Tryz.func90, Tryz.ntmps90
  go_wp2
  go_ret
  exact ⟨rfl, below1 _ _⟩

set_option maxRecDepth 100000 in
set_option maxHeartbeats 4000000 in
theorem fits_binary (s : ByteArray) (n a : Int) (p : Option Addr) (m c rl : Nat) (w : World) : Calls Tryz.prog 90 #[.agg (nd 51 s n a p m c), .int .i64 (rl : Nat)] w fun e w' => e = .returned (.bool (binB s.data.toList)) ∧ Below w.heap.size w w' := by
  have HN : Hid (∀ W, Calls Tryz.prog 127 #[.string s] W fun e w' => e = .returned (.int .i64 (levelN s.data.toList : Nat)) ∧ w' = W) := fun W => level_any s W
  rw [bin_level]
  generalize levelN s.data.toList = q at HN ⊢
  go_enter Tryz.func90, Tryz.ntmps90
  go_wp2_with fail
  refine (HN.out _).mono ?_
  rintro e w1 ⟨rfl, rfl⟩
  go_wp2_with fail
  go_ret
  exact ⟨rfl, below1 _ _⟩

set_option maxRecDepth 100000 in
set_option maxHeartbeats 4000000 in
theorem fits_none0 (k : Int) (h2 : (k == 2) = false) (h3 : (k == 3) = false) (h4 : (k == 4) = false) (h5 : (k == 5) = false) (h6 : (k == 6) = false) (h7 : (k == 7) = false) (h8 : (k == 8) = false) (h9 : (k == 9) = false) (h10 : (k == 10) = false) (h11 : (k == 11) = false) (h12 : (k == 12) = false) (h18 : (k == 18) = false) (h41 : (k == 41) = false) (h45 : (k == 45) = false) (h23 : (k == 23) = false) (h24 : (k == 24) = false) (h25 : (k == 25) = false) (h26 : (k == 26) = false) (h31 : (k == 31) = false) (h32 : (k == 32) = false) (h14 : (k == 14) = false) (h40 : (k == 40) = false) (h20 : (k == 20) = false) (h34 : (k == 34) = false) (h35 : (k == 35) = false) (h36 : (k == 36) = false) (h37 : (k == 37) = false) (h50 : (k == 50) = false) (h51 : (k == 51) = false) (n a : Int) (p : Option Addr) (m c rl : Nat) (w : World) : Calls Tryz.prog 90 #[.agg (nd k ⟨#[]⟩ n a p m c), .int .i64 (rl : Nat)] w fun e w' => e = .returned (.bool true) ∧ Below w.heap.size w w' := by
  go_enter Tryz.func90, Tryz.ntmps90
  go_wp2
  go_ret
  exact ⟨rfl, below1 _ _⟩

set_option maxRecDepth 100000 in
set_option maxHeartbeats 4000000 in
theorem fits_none1 (k : Int) (h2 : (k == 2) = false) (h3 : (k == 3) = false) (h4 : (k == 4) = false) (h5 : (k == 5) = false) (h6 : (k == 6) = false) (h7 : (k == 7) = false) (h8 : (k == 8) = false) (h9 : (k == 9) = false) (h10 : (k == 10) = false) (h11 : (k == 11) = false) (h12 : (k == 12) = false) (h18 : (k == 18) = false) (h41 : (k == 41) = false) (h45 : (k == 45) = false) (h23 : (k == 23) = false) (h24 : (k == 24) = false) (h25 : (k == 25) = false) (h26 : (k == 26) = false) (h31 : (k == 31) = false) (h32 : (k == 32) = false) (h14 : (k == 14) = false) (h40 : (k == 40) = false) (h20 : (k == 20) = false) (h34 : (k == 34) = false) (h35 : (k == 35) = false) (h36 : (k == 36) = false) (h37 : (k == 37) = false) (h50 : (k == 50) = false) (h51 : (k == 51) = false) (s : ByteArray) (n a : Int) (p : Option Addr) (m c rl : Nat) (w : World) (h0 : (s.toList == []) = false) : Calls Tryz.prog 90 #[.agg (nd k s n a p m c), .int .i64 (rl : Nat)] w fun e w' => e = .returned (.bool false) ∧ Below w.heap.size w w' := by
  go_enter Tryz.func90, Tryz.ntmps90
  go_wp2
  go_ret
  exact ⟨rfl, below1 _ _⟩

set_option maxRecDepth 100000 in
set_option maxHeartbeats 4000000 in
theorem fits_step0 (s : ByteArray) (hs : s = ⟨#[43, 43]⟩ ∨ s = ⟨#[45, 45]⟩) (n a : Int) (p : Option Addr) (m c rl : Nat) (w : World) : Calls Tryz.prog 90 #[.agg (nd 34 s n a p m c), .int .i64 (rl : Nat)] w fun e w' => e = .returned (.bool true) ∧ Below w.heap.size w w' := by
  rcases hs with rfl | rfl
  all_goals
    go_enter Tryz.func90, Tryz.ntmps90
    go_wp2
    go_ret
    exact ⟨rfl, below1 _ _⟩

set_option maxRecDepth 100000 in
set_option maxHeartbeats 4000000 in
theorem fits_step1 (s : ByteArray) (n a : Int) (p : Option Addr) (m c rl : Nat) (w : World) (h0 : (s.toList == [43, 43]) = false) (h1 : (s.toList == [45, 45]) = false) : Calls Tryz.prog 90 #[.agg (nd 34 s n a p m c), .int .i64 (rl : Nat)] w fun e w' => e = .returned (.bool false) ∧ Below w.heap.size w w' := by
  go_enter Tryz.func90, Tryz.ntmps90
  go_wp2
  go_ret
  exact ⟨rfl, below1 _ _⟩

set_option maxRecDepth 100000 in
set_option maxHeartbeats 4000000 in
theorem fits_pair28a (n a : Int) (p : Option Addr) (m c : Nat) (w : World) : Calls Tryz.prog 90 #[.agg (nd 40 ⟨#[]⟩ n a p m c), .int .i64 28] w fun e w' => e = .returned (.bool true) ∧ Below w.heap.size w w' := by
  go_enter Tryz.func90, Tryz.ntmps90
  go_wp2
  go_ret
  exact ⟨rfl, below1 _ _⟩

end Go.Proofs.YthbnegggohegkaaGreatDoor
namespace Go.Proofs.YthbnegggohegkaaGreatDoor
open Go.RowKit

set_option maxRecDepth 100000 in
set_option maxHeartbeats 4000000 in
theorem fits_label1 (k : Int) (hk : k = 23 ∨ k = 24 ∨ k = 25 ∨ k = 26 ∨ k = 31 ∨ k = 32) (s : ByteArray) (n a : Int) (p : Option Addr) (m c rl : Nat) (w : World) (h0 : (s.toList == []) = false) (q : Bool) (hn : ∀ W, Below w.heap.size w W → Calls Tryz.prog 121 #[.string s] W fun e w' => e = .returned (.bool q) ∧ Below W.heap.size W w') : Calls Tryz.prog 90 #[.agg (nd k s n a p m c), .int .i64 (rl : Nat)] w fun e w' => e = .returned (.bool q) ∧ Below w.heap.size w w' := by
  have HN : Hid _ := hn
  clear hn
  rcases hk with rfl | rfl | rfl | rfl | rfl | rfl
  all_goals
    go_enter Tryz.func90, Tryz.ntmps90
    go_wp2_with fail
    refine (HN.out _ (below1 _ _)).mono ?_
    rintro e w1 ⟨rfl, hb⟩
    go_wp2_with fail
    go_ret
    exact ⟨rfl, (below1 _ _).trans (hb.mono (by simp))⟩

set_option maxRecDepth 100000 in
set_option maxHeartbeats 4000000 in
theorem fits_pair28b (s : ByteArray) (n a : Int) (p : Option Addr) (m c : Nat) (w : World) (h0 : (s.toList == []) = false) : Calls Tryz.prog 90 #[.agg (nd 40 s n a p m c), .int .i64 28] w fun e w' => e = .returned (.bool false) ∧ Below w.heap.size w w' := by
  go_enter Tryz.func90, Tryz.ntmps90
  go_wp2
  go_ret
  exact ⟨rfl, below1 _ _⟩

set_option maxRecDepth 100000 in
set_option maxHeartbeats 4000000 in
theorem fits_pair29 (s : ByteArray) (n a : Int) (p : Option Addr) (m c : Nat) (w : World) (q : Bool) (hn : ∀ W, Below w.heap.size w W → Calls Tryz.prog 121 #[.string s] W fun e w' => e = .returned (.bool q) ∧ Below W.heap.size W w') : Calls Tryz.prog 90 #[.agg (nd 40 s n a p m c), .int .i64 29] w fun e w' => e = .returned (.bool q) ∧ Below w.heap.size w w' := by
  have HN : Hid _ := hn
  clear hn
  go_enter Tryz.func90, Tryz.ntmps90
  go_wp2_with fail
  refine (HN.out _ (below1 _ _)).mono ?_
  rintro e w1 ⟨rfl, hb⟩
  go_wp2_with fail
  go_ret
  exact ⟨rfl, (below1 _ _).trans (hb.mono (by simp))⟩

set_option maxRecDepth 100000 in
set_option maxHeartbeats 4000000 in
theorem fits_pair (s : ByteArray) (n a : Int) (p : Option Addr) (m c rl : Nat) (w : World) (h28 : (((rl : Nat) : Int) == 28) = false) (h29 : (((rl : Nat) : Int) == 29) = false) : Calls Tryz.prog 90 #[.agg (nd 40 s n a p m c), .int .i64 (rl : Nat)] w fun e w' => e = .returned (.bool false) ∧ Below w.heap.size w w' := by
  go_enter Tryz.func90, Tryz.ntmps90
  go_wp2
  go_ret
  exact ⟨rfl, below1 _ _⟩

set_option maxRecDepth 100000 in
set_option maxHeartbeats 4000000 in
theorem fits_unary0 (s : ByteArray) (n a : Int) (p : Option Addr) (m c rl : Nat) (w : World) (hu : ∀ W, Calls Tryz.prog 126 #[.string s] W fun e w' => e = .returned (.bool false) ∧ w' = W) : Calls Tryz.prog 90 #[.agg (nd 50 s n a p m c), .int .i64 (rl : Nat)] w fun e w' => e = .returned (.bool false) ∧ Below w.heap.size w w' := by
  have HN : Hid _ := hu
  clear hu
  go_enter Tryz.func90, Tryz.ntmps90
  go_wp2_with fail
  refine (HN.out _).mono ?_
  rintro e w1 ⟨rfl, rfl⟩
  go_wp2_with fail
  go_ret
  exact ⟨rfl, below1 _ _⟩

set_option maxRecDepth 100000 in
set_option maxHeartbeats 4000000 in
theorem fits_unary1 (s : ByteArray) (n a : Int) (p : Option Addr) (m c rl : Nat) (w : World) (hu : ∀ W, Calls Tryz.prog 126 #[.string s] W fun e w' => e = .returned (.bool true) ∧ w' = W) (h0 : (s.toList == [42]) = true) : Calls Tryz.prog 90 #[.agg (nd 50 s n a p m c), .int .i64 (rl : Nat)] w fun e w' => e = .returned (.bool true) ∧ Below w.heap.size w w' := by
  have HN : Hid _ := hu
  clear hu
  go_enter Tryz.func90, Tryz.ntmps90
  go_wp2_with fail
  refine (HN.out _).mono ?_
  rintro e w1 ⟨rfl, rfl⟩
  go_wp2_with fail
  go_ret
  exact ⟨rfl, below1 _ _⟩

set_option maxRecDepth 100000 in
set_option maxHeartbeats 4000000 in
theorem fits_unary2 (s : ByteArray) (n a : Int) (p : Option Addr) (m c rl : Nat) (w : World) (hu : ∀ W, Calls Tryz.prog 126 #[.string s] W fun e w' => e = .returned (.bool true) ∧ w' = W) (h0 : (s.toList == [42]) = false) (q : Bool) (hq : ((((rl : Nat) : Int)) != 14) = q) : Calls Tryz.prog 90 #[.agg (nd 50 s n a p m c), .int .i64 (rl : Nat)] w fun e w' => e = .returned (.bool q) ∧ Below w.heap.size w w' := by
  have HN : Hid _ := hu
  clear hu
  have HQ : Hid _ := hq
  clear hq
  go_enter Tryz.func90, Tryz.ntmps90
  go_wp2_with fail
  refine (HN.out _).mono ?_
  rintro e w1 ⟨rfl, rfl⟩
  go_wp2_with fail
  go_ret
  exact ⟨congrArg (fun b => Ending.returned (.bool b)) HQ.out, below1 _ _⟩

set_option maxRecDepth 100000 in
set_option maxHeartbeats 4000000 in
theorem fits_word1 (s : ByteArray) (n a : Int) (p : Option Addr) (m c rl : Nat) (w : World) (hn : ∀ W, Below w.heap.size w W → Calls Tryz.prog 121 #[.string s] W fun e w' => e = .returned (.bool true) ∧ Below W.heap.size W w') : Calls Tryz.prog 90 #[.agg (nd 14 s n a p m c), .int .i64 (rl : Nat)] w fun e w' => e = .returned (.bool true) ∧ Below w.heap.size w w' := by
  have HN : Hid _ := hn
  clear hn
  go_enter Tryz.func90, Tryz.ntmps90
  go_wp2_with fail
  refine wp_region_noPanic ?_
  refine wp_region_held (S := fun W => W.cell? ⟨w.heap.size, 1, none⟩ = some (.string s)) (by kernel_rfl) ?_
  obtain ⟨W4, hW4⟩ : ∃ W4, W4 = (w.alloc (.cells (nd 14 s n a p m c) 24)).drew := ⟨_, rfl⟩
  have e4 : ({ (w.alloc (.cells (nd 14 s n a p m c) 24)) with drawn := (w.alloc (.cells (nd 14 s n a p m c) 24)).drawn + 1 } : World) = W4 := hW4.symm
  rw [e4]
  have hB4 : Below w.heap.size w W4 := by rw [hW4]; exact (below1 _ _).drew
  have hS : W4.cell? ⟨w.heap.size, 1, none⟩ = some (.string s) := by rw [hW4]; simp
  have hz4 : W4.heap.size = w.heap.size + 1 := by rw [hW4]; simp
  have HK : Hid (∀ W, Below W4.heap.size W4 W → W.cell? ⟨w.heap.size, 1, none⟩ = some (.string s)) := fun W hW => (hW.cell (p := ⟨w.heap.size, 1, none⟩) (by show w.heap.size < _; omega)).trans hS
  clear e4 hW4
  have b5 : Below W4.heap.size W4 W4 := Below.refl _ _
  refine wpAnyH_take (i := 0) (v := .pointer (some ⟨w.heap.size, 1, none⟩)) rfl (by kernel_rfl) (by kernel_rfl) (by kernel_rfl) (fun _ _ _ h => h) (Or.inl ⟨by rfl, ?r⟩) hS ?_
  case r => intro W hW; simp [go_sem, execOp, Act.eval]
  simp only [List.getElem_toArray, List.getElem_cons_zero, Act.put, List.setIfInBounds_toArray, List.set_cons_succ, List.set_cons_zero]
  refine wpAnyH_take (i := 1) (v := .string s) rfl (by kernel_rfl) (by kernel_rfl) (by kernel_rfl) (fun _ _ _ h => h) (Or.inl ⟨by rfl, ?r⟩) hS ?_
  case r => intro W hW; simp [go_sem, execOp, Act.eval, hW]
  simp only [List.getElem_toArray, List.getElem_cons_zero, List.getElem_cons_succ, Act.put, List.setIfInBounds_toArray, List.set_cons_succ, List.set_cons_zero]
  refine wpAnyH_all (rs := [2]) (by kernel_rfl) (by simp) (fun i1 hi1 => ?_)
  obtain rfl : i1 = 2 := by simpa using hi1
  clear hi1
  refine wpOp_step rfl (fun K hK => ite_yes rfl ?_)
  simp only [List.getElem_toArray, List.getElem_cons_zero, List.getElem_cons_succ]
  go_simp
  refine (HN.out _ (hB4.trans (b5.mono hB4.size))).mono ?_
  rintro e w1 ⟨rfl, c5⟩
  have b5' : Below W4.heap.size W4 w1 := b5.trans (c5.mono b5.size)
  go_simp
  refine hK _ _ ⟨HK.out _ b5', ?_⟩
  clear hK K hS b5
  have hS := HK.out _ b5'
  have b5 : Below W4.heap.size W4 w1 := b5'
  clear b5'
  refine wpAnyH_take (i := 3) (v := .bool true) rfl (by kernel_rfl) (by kernel_rfl) (by kernel_rfl) (fun _ _ _ h => h) (Or.inl ⟨by rfl, ?r⟩) hS ?_
  case r => intro W hW; simp [go_sem, execOp, Act.eval]
  simp only [List.getElem_toArray, List.getElem_cons_zero, List.getElem_cons_succ, Act.put, List.setIfInBounds_toArray, List.set_cons_succ, List.set_cons_zero]
  refine wpAnyH_take (i := 4) (v := undef) rfl (by kernel_rfl) (by kernel_rfl) (by kernel_rfl) (fun _ _ _ h => h) (Or.inr ⟨by rfl, rfl⟩) hS ?_
  refine wpAnyH_take (i := 5) (v := undef) rfl (by kernel_rfl) (by kernel_rfl) (by kernel_rfl) (fun _ _ _ h => h) (Or.inr ⟨by rfl, rfl⟩) hS ?_
  refine wpAnyH_take (i := 6) (v := undef) rfl (by kernel_rfl) (by kernel_rfl) (by kernel_rfl) (fun _ _ _ h => h) (Or.inr ⟨by rfl, rfl⟩) hS ?_
  refine wpAnyH_take (i := 7) (v := undef) rfl (by kernel_rfl) (by kernel_rfl) (by kernel_rfl) (fun _ _ _ h => h) (Or.inr ⟨by rfl, rfl⟩) hS ?_
  refine wpAnyH_take (i := 8) (v := undef) rfl (by kernel_rfl) (by kernel_rfl) (by kernel_rfl) (fun _ _ _ h => h) (Or.inr ⟨by rfl, rfl⟩) hS ?_
  refine wpAnyH_take (i := 9) (v := .bool true) rfl (by kernel_rfl) (by kernel_rfl) (by kernel_rfl) (fun _ _ _ h => h) (Or.inl ⟨by rfl, ?r⟩) hS ?_
  case r => intro W hW; simp [go_sem, execOp, Act.eval, Act.put]
  refine wpAnyH_take (i := 10) (v := .bool true) rfl (by kernel_rfl) (by kernel_rfl) (by kernel_rfl) (fun _ _ _ h => h) (Or.inl ⟨by rfl, ?r⟩) hS ?_
  case r => intro W hW; simp [go_sem, execOp, Act.eval, Act.put]
  refine wpAnyH_done (by kernel_rfl) ?_ _
  refine NoPanic.normal ?_
  try simp only [List.getElem_toArray, List.getElem_cons_zero, List.getElem_cons_succ, Act.put, List.setIfInBounds_toArray, List.set_cons_succ, List.set_cons_zero]
  have HE : Hid _ := hB4.trans (b5.mono hB4.size)
  clear hB4 b5 HK hS
  go_wp2_with fail
  go_ret
  exact ⟨rfl, HE.out⟩

set_option maxRecDepth 100000 in
set_option maxHeartbeats 4000000 in
theorem fits_word2 (s : ByteArray) (n a : Int) (p : Option Addr) (m c rl : Nat) (w : World) (hn : ∀ W, Below w.heap.size w W → Calls Tryz.prog 121 #[.string s] W fun e w' => e = .returned (.bool false) ∧ Below W.heap.size W w') (ws : List Bytes) (hw : ∀ W, Below w.heap.size w W → Calls Tryz.prog 123 #[.int .i64 (rl : Nat)] W fun e w' => ∃ p, e = .returned (.slice p ws.length ws.length) ∧ TextsAt w' p ws ∧ Below W.heap.size W w') (hc : ∀ W p, TextsAt W p ws → Calls Tryz.prog 122 #[.slice p ws.length ws.length, .string s] W fun e w' => e = .returned (.bool (ws.contains s.data.toList)) ∧ w' = W) : Calls Tryz.prog 90 #[.agg (nd 14 s n a p m c), .int .i64 (rl : Nat)] w fun e w' => e = .returned (.bool (ws.contains s.data.toList)) ∧ Below w.heap.size w w' := by
  have HN : Hid _ := hn
  clear hn
  have HW : Hid _ := hw
  clear hw
  have HC : Hid _ := hc
  clear hc
  generalize ws.contains s.data.toList = z at HC ⊢
  go_enter Tryz.func90, Tryz.ntmps90
  go_wp2_with fail
  refine wp_region_noPanic ?_
  refine wp_region_held (S := fun W => W.cell? ⟨w.heap.size, 1, none⟩ = some (.string s)) (by kernel_rfl) ?_
  obtain ⟨W4, hW4⟩ : ∃ W4, W4 = (w.alloc (.cells (nd 14 s n a p m c) 24)).drew := ⟨_, rfl⟩
  have e4 : ({ (w.alloc (.cells (nd 14 s n a p m c) 24)) with drawn := (w.alloc (.cells (nd 14 s n a p m c) 24)).drawn + 1 } : World) = W4 := hW4.symm
  rw [e4]
  have hB4 : Below w.heap.size w W4 := by rw [hW4]; exact (below1 _ _).drew
  have hS : W4.cell? ⟨w.heap.size, 1, none⟩ = some (.string s) := by rw [hW4]; simp
  have hz4 : W4.heap.size = w.heap.size + 1 := by rw [hW4]; simp
  have HK : Hid (∀ W, Below W4.heap.size W4 W → W.cell? ⟨w.heap.size, 1, none⟩ = some (.string s)) := fun W hW => (hW.cell (p := ⟨w.heap.size, 1, none⟩) (by show w.heap.size < _; omega)).trans hS
  clear e4 hW4
  have b5 : Below W4.heap.size W4 W4 := Below.refl _ _
  refine wpAnyH_take (i := 0) (v := .pointer (some ⟨w.heap.size, 1, none⟩)) rfl (by kernel_rfl) (by kernel_rfl) (by kernel_rfl) (fun _ _ _ h => h) (Or.inl ⟨by rfl, ?r⟩) hS ?_
  case r => intro W hW; simp [go_sem, execOp, Act.eval]
  simp only [List.getElem_toArray, List.getElem_cons_zero, Act.put, List.setIfInBounds_toArray, List.set_cons_succ, List.set_cons_zero]
  refine wpAnyH_take (i := 1) (v := .string s) rfl (by kernel_rfl) (by kernel_rfl) (by kernel_rfl) (fun _ _ _ h => h) (Or.inl ⟨by rfl, ?r⟩) hS ?_
  case r => intro W hW; simp [go_sem, execOp, Act.eval, hW]
  simp only [List.getElem_toArray, List.getElem_cons_zero, List.getElem_cons_succ, Act.put, List.setIfInBounds_toArray, List.set_cons_succ, List.set_cons_zero]
  refine wpAnyH_all (rs := [2]) (by kernel_rfl) (by simp) (fun i2 hi2 => ?_)
  obtain rfl : i2 = 2 := by simpa using hi2
  clear hi2
  refine wpOp_step rfl (fun K hK => ite_yes rfl ?_)
  simp only [List.getElem_toArray, List.getElem_cons_zero, List.getElem_cons_succ]
  go_simp
  refine (HN.out _ (hB4.trans (b5.mono hB4.size))).mono ?_
  rintro e w2 ⟨rfl, c5⟩
  have b5' : Below W4.heap.size W4 w2 := b5.trans (c5.mono b5.size)
  go_simp
  refine hK _ _ ⟨HK.out _ b5', ?_⟩
  clear hK K hS b5
  have hS := HK.out _ b5'
  have b5 : Below W4.heap.size W4 w2 := b5'
  clear b5'
  refine wpAnyH_take (i := 3) (v := .bool false) rfl (by kernel_rfl) (by kernel_rfl) (by kernel_rfl) (fun _ _ _ h => h) (Or.inl ⟨by rfl, ?r⟩) hS ?_
  case r => intro W hW; simp [go_sem, execOp, Act.eval]
  simp only [List.getElem_toArray, List.getElem_cons_zero, List.getElem_cons_succ, Act.put, List.setIfInBounds_toArray, List.set_cons_succ, List.set_cons_zero]
  refine wpAnyH_take (i := 4) (v := .int .i64 (rl : Nat)) rfl (by kernel_rfl) (by kernel_rfl) (by kernel_rfl) (fun _ _ _ h => h) (Or.inl ⟨by rfl, ?r⟩) hS ?_
  case r => intro W hW; simp [go_sem, execOp, Act.eval]
  simp only [List.getElem_toArray, List.getElem_cons_zero, List.getElem_cons_succ, Act.put, List.setIfInBounds_toArray, List.set_cons_succ, List.set_cons_zero]
  refine wpAnyH_take (i := 6) (v := .pointer (some ⟨w.heap.size, 1, none⟩)) rfl (by kernel_rfl) (by kernel_rfl) (by kernel_rfl) (fun _ _ _ h => h) (Or.inl ⟨by rfl, ?r⟩) hS ?_
  case r => intro W hW; simp [go_sem, execOp, Act.eval]
  simp only [List.getElem_toArray, List.getElem_cons_zero, List.getElem_cons_succ, Act.put, List.setIfInBounds_toArray, List.set_cons_succ, List.set_cons_zero]
  refine wpAnyH_take (i := 7) (v := .string s) rfl (by kernel_rfl) (by kernel_rfl) (by kernel_rfl) (fun _ _ _ h => h) (Or.inl ⟨by rfl, ?r⟩) hS ?_
  case r => intro W hW; simp [go_sem, execOp, Act.eval, hW]
  simp only [List.getElem_toArray, List.getElem_cons_zero, List.getElem_cons_succ, Act.put, List.setIfInBounds_toArray, List.set_cons_succ, List.set_cons_zero]
  refine wpAnyH_all (rs := [5]) (by kernel_rfl) (by simp) (fun i3 hi3 => ?_)
  obtain rfl : i3 = 5 := by simpa using hi3
  clear hi3
  refine wpOp_step rfl (fun K hK => ite_yes rfl ?_)
  simp only [List.getElem_toArray, List.getElem_cons_zero, List.getElem_cons_succ]
  go_simp
  refine (HW.out _ (hB4.trans (b5.mono hB4.size))).mono ?_
  rintro e w3 ⟨q0, rfl, hT, c5⟩
  have b5' : Below W4.heap.size W4 w3 := b5.trans (c5.mono b5.size)
  go_simp
  refine hK _ _ ⟨HK.out _ b5', ?_⟩
  clear hK K hS b5
  have hS := HK.out _ b5'
  have b5 : Below W4.heap.size W4 w3 := b5'
  clear b5'
  refine wpAnyH_all (rs := [8]) (by kernel_rfl) (by simp) (fun i4 hi4 => ?_)
  obtain rfl : i4 = 8 := by simpa using hi4
  clear hi4
  refine wpOp_step rfl (fun K hK => ite_yes rfl ?_)
  simp only [List.getElem_toArray, List.getElem_cons_zero, List.getElem_cons_succ]
  go_simp
  refine (HC.out _ _ hT).mono ?_
  rintro e w4 ⟨rfl, rfl⟩
  have b5' : Below W4.heap.size W4 w4 := b5
  go_simp
  refine hK _ _ ⟨HK.out _ b5', ?_⟩
  clear hK K hS b5
  have hS := HK.out _ b5'
  have b5 : Below W4.heap.size W4 w4 := b5'
  clear b5'
  refine wpAnyH_take (i := 9) (v := .bool z) rfl (by kernel_rfl) (by kernel_rfl) (by kernel_rfl) (fun _ _ _ h => h) (Or.inl ⟨by rfl, ?r⟩) hS ?_
  case r => intro W hW; simp [go_sem, execOp, Act.eval]
  simp only [List.getElem_toArray, List.getElem_cons_zero, List.getElem_cons_succ, Act.put, List.setIfInBounds_toArray, List.set_cons_succ, List.set_cons_zero]
  refine wpAnyH_take (i := 10) (v := .bool z) rfl (by kernel_rfl) (by kernel_rfl) (by kernel_rfl) (fun _ _ _ h => h) (Or.inl ⟨by rfl, ?r⟩) hS ?_
  case r => intro W hW; simp [go_sem, execOp, Act.eval]
  simp only [List.getElem_toArray, List.getElem_cons_zero, List.getElem_cons_succ, Act.put, List.setIfInBounds_toArray, List.set_cons_succ, List.set_cons_zero]
  refine wpAnyH_done (by kernel_rfl) ?_ _
  refine NoPanic.normal ?_
  try simp only [List.getElem_toArray, List.getElem_cons_zero, List.getElem_cons_succ, Act.put, List.setIfInBounds_toArray, List.set_cons_succ, List.set_cons_zero]
  have HE : Hid _ := hB4.trans (b5.mono hB4.size)
  clear hB4 b5 HK hS
  go_wp2_with fail
  go_ret
  exact ⟨rfl, HE.out⟩

end Go.Proofs.YthbnegggohegkaaGreatDoor
