/-
  The document's own answer for trees: a way of look that ends in a fault.
  The document's own answer for trees: a way of look that ends in a fault.
  The document's own answer for trees: a way of look that ends in a fault.
-/
import Derived.Test.YthbnegggohegkaaGreatDoorQoJ
namespace Go.Proofs.YthbnegggohegkaaGreatDoor
open Go.RowKit

set_option maxRecDepth 100000 in
set_option maxHeartbeats 8000000 in
theorem look_high (lb ah : Nat) (deep : Int) (k : Int) (s : ByteArray) (n a : Int) (p : Option Addr) (m c st : Nat) (w : World) (hlb : lb < w.heap.size) (hrow : w.heap[lb]? = some (.cells (lkC (ah : Nat) 0 0 ⟨#[]⟩) 59 (0, 0))) (hbig : ah < 9000000000000000000) (q1 q2 : Bool) (lo hi mo : Int)
    (h43 : ∀ W, Below w.heap.size w W → Calls Tryz.prog 43 #[.agg (nd k s n a p m c), .int .i64 (st : Nat)] W fun e w' => e = .returned (.bool q1) ∧ Below W.heap.size W w')
    (h44 : ∀ W, Below w.heap.size w W → Calls Tryz.prog 44 #[.agg (nd k s n a p m c), .int .i64 (st : Nat)] W fun e w' => e = .returned (.bool q2) ∧ Below W.heap.size W w')
    (h45 : ∀ W, Below w.heap.size w W → Calls Tryz.prog 45 #[.agg (nd k s n a p m c), .int .i64 (st : Nat)] W fun e w' => e = .returned (.tuple #[.int .i64 lo, .int .i64 hi]) ∧ Below W.heap.size W w')
    (h46 : ∀ W, Calls Tryz.prog 46 #[.int .i64 k] W fun e w' => e = .returned (.int .i64 mo) ∧ w' = W) 
    (h1 : ah < 20000) (h2 : deep ≤ 60) (h3 : 1 ≤ k) (h4 : 51 < k) : Calls Tryz.prog 29 #[.pointer (some ⟨lb, 0, none⟩), .agg (nd k s n a p m c), .int .i64 deep, .int .i64 (st : Nat)] w (fun e w' => (∃ u, e = .returned u) ∧ Chk lb w w' ∧ ∃ z : Int, w'.heap[lb]? = some (.cells (lkC z 20 a (toldName s)) 59 (0, 0))) := by
  have H43 : Hid _ := h43
  have H44 : Hid _ := h44
  have H45 : Hid _ := h45
  have H46 : Hid _ := h46
  clear h43 h44 h45 h46
  have hb0 := below1 w (.cells (nd k s n a p m c) 24)
  have N0 := CellsOf.new w (nd k s n a p m c) 24
  go_enter Tryz.func29, Tryz.ntmps29
  go_wp2_with fail
  refine (H43.out _ hb0).mono ?_
  rintro e w1 ⟨rfl, hb1⟩
  have hB1 : Below w.heap.size w w1 := hb0.trans (hb1.mono (by simp))
  have hz1 := hb1.size
  simp only [World.size_alloc] at hz1
  have N1 := N0.below (by simp) hb1
  have a0 := N1 0 _ rfl
  have a1 := N1 1 _ rfl
  have a2 := N1 2 _ rfl
  have a3 := N1 3 _ rfl
  have a4 := N1 4 _ rfl
  clear hb0 hb1 N0
  go_wp2_with fail
  refine (H44.out _ hB1).mono ?_
  rintro e w2 ⟨rfl, hb2⟩
  have hB2 : Below w.heap.size w w2 := hB1.trans (hb2.mono hB1.size)
  have hz2 := hb2.size
  have N2 := N1.below (by omega) hb2
  clear a0 a1 a2 a3 a4 hb2 N1 hB1
  have a0 := N2 0 _ rfl
  have a1 := N2 1 _ rfl
  have a2 := N2 2 _ rfl
  have a3 := N2 3 _ rfl
  have a4 := N2 4 _ rfl
  go_wp2_with fail
  refine (H45.out _ hB2).mono ?_
  rintro e w3 ⟨rfl, hb3⟩
  have hB3 : Below w.heap.size w w3 := hB2.trans (hb3.mono hB2.size)
  have hz3 := hb3.size
  have N3 := N2.below (by omega) hb3
  clear a0 a1 a2 a3 a4 hb3 N2 hB2
  have a0 := N3 0 _ rfl
  have a1 := N3 1 _ rfl
  have a2 := N3 2 _ rfl
  have a3 := N3 3 _ rfl
  have a4 := N3 4 _ rfl
  go_wp2_with fail
  refine (H46.out _).mono ?_
  rintro e w4 ⟨rfl, rfl⟩
  have hrow3 := (hB3.block _ hlb).trans hrow
  obtain ⟨hcl, hfl⟩ := row_cells hrow3
  have l0 := hcl 0
  have l1 := hcl 1
  have l2 := hcl 2
  have l3 := hcl 3
  have f0 := hfl 0
  have f1 := hfl 1
  have f2 := hfl 2
  have f3 := hfl 3
  simp only [List.getElem?_toArray, List.getElem?_cons_zero, List.getElem?_cons_succ] at l0 l1 l2 l3
  clear hcl hfl
  have h1' : ¬ (20000 : Int) ≤ ((ah : Nat) : Int) := by omega
  have h2' : ¬ 60 < deep := by omega
  have h3' : ¬ k < 1 := by omega
  go_wp2_with fail
  refine (rWrong_any 20 k s n a p m c _).mono ?_
  rintro e w5 ⟨rfl, hb5⟩
  have hB5 : Below w.heap.size w w5 := hB3.trans (hb5.mono hB3.size)
  have hz5 := hb5.size
  have hrow5 := (hB5.block _ hlb).trans hrow
  have N5 := N3.below (by omega) hb5
  have ht : (if s.size ≤ 40 then s else ⟨#[]⟩) = toldName s := rfl
  rw [ht]
  clear ht l0 l1 l2 l3 f0 f1 f2 f3 a0 a1 a2 a3 a4 hrow3
  obtain ⟨nm, hnm⟩ : ∃ nm, nm = toldName s := ⟨_, rfl⟩
  rw [← hnm]
  have HNM : Hid (nm = toldName s) := hnm
  clear hnm
  obtain ⟨W6, hW6⟩ : ∃ W6, W6 = (((w5.setCell ⟨lb, 1, none⟩ (.int .i64 20)).setCell ⟨lb, 2, none⟩ (.int .i64 a)).setCell ⟨lb, 3, none⟩ (.string nm)).setCell ⟨lb, 0, none⟩ (.int .i64 (((ah : Nat) : Int) + 1)) := ⟨_, rfl⟩
  have hrow6 : W6.heap[lb]? = some (.cells (lkC (((ah : Nat) : Int) + 1) 20 a nm) 59 (0, 0)) := by rw [hW6]; exact heap_set (heap_set (heap_set (heap_set hrow5 1 _) 2 _) 3 _) 0 _
  have hK6 : Chk lb w W6 := by
    rw [hW6]
    exact ((((Chk.of hB5 (by omega)).trans (Chk.setAt lb 1 _ _)).trans (Chk.setAt lb 2 _ _)).trans (Chk.setAt lb 3 _ _)).trans (Chk.setAt lb 0 _ _)
  have N6 : CellsOf W6 w.heap.size (nd k s n a p m c) := by
    rw [hW6]
    exact (Chk.setAt lb 0 _ _).cells ((Chk.setAt lb 3 _ _).cells ((Chk.setAt lb 2 _ _).cells ((Chk.setAt lb 1 _ _).cells N5 (by omega) (by omega)) (by omega) (by simp; omega)) (by omega) (by simp; omega)) (by omega) (by simp; omega)
  have e6 : (((w5.setCell ⟨lb, 1, none⟩ (.int .i64 20)).setCell ⟨lb, 2, none⟩ (.int .i64 a)).setCell ⟨lb, 3, none⟩ (.string nm)).setCell ⟨lb, 0, none⟩ (.int .i64 (((ah : Nat) : Int) + 1)) = W6 := hW6.symm
  obtain ⟨hcl, hfl⟩ := row_cells hrow5
  have l0 := hcl 0
  have l1 := hcl 1
  have l2 := hcl 2
  have l3 := hcl 3
  have f0 := hfl 0
  have f1 := hfl 1
  have f2 := hfl 2
  have f3 := hfl 3
  simp only [List.getElem?_toArray, List.getElem?_cons_zero, List.getElem?_cons_succ] at l0 l1 l2 l3
  have HP : Hid (Chk lb w W6 ∧ W6.heap[lb]? = some (.cells (lkC (((ah : Nat) : Int) + 1) 20 a nm) 59 (0, 0))) := ⟨hK6, hrow6⟩
  have r4 := N6 4 _ rfl
  have d1 := (row_cells hrow6).1 1
  simp only [List.getElem?_toArray, List.getElem?_cons_zero, List.getElem?_cons_succ] at d1
  have hal : ah < 9000000000000000000 := hbig
  clear hcl hfl hrow5 hrow6 hK6 N5 N6 hW6 hb5 hB5 N3 hB3
  go_wp2_with fail
  go_loopg [13, 14] 0 (fun gk i _ wr => i = .int .i64 0 ∧ wr = W6)
  case atStart => exact ⟨rfl, rfl⟩
  case round =>
    obtain ⟨rfl, rfl⟩ := hrel
    by_cases hm0 : m = 0
    · subst hm0
      go_wp2_with fail
      refine bodyPost_end (v := .tuple #[]) (results_none rfl _ _ _) rfl ⟨⟨_, rfl⟩, HP.out.1, _, by rw [← HNM.out]; exact HP.out.2⟩
    · have hm0' : (0 : Int) < ((m : Nat) : Int) := by omega
      go_wp2_with fail
      refine bodyPost_end (v := .tuple #[]) (results_none rfl _ _ _) rfl ⟨⟨_, rfl⟩, HP.out.1, _, by rw [← HNM.out]; exact HP.out.2⟩

end Go.Proofs.YthbnegggohegkaaGreatDoor
namespace Go.Proofs.YthbnegggohegkaaGreatDoor
open Go.RowKit

set_option maxRecDepth 100000 in
set_option maxHeartbeats 8000000 in
theorem look_st (lb ah : Nat) (deep : Int) (k : Int) (s : ByteArray) (n a : Int) (p : Option Addr) (m c st : Nat) (w : World) (hlb : lb < w.heap.size) (hrow : w.heap[lb]? = some (.cells (lkC (ah : Nat) 0 0 ⟨#[]⟩) 59 (0, 0))) (hbig : ah < 9000000000000000000) (q2 : Bool) (lo hi mo : Int)
    (h43 : ∀ W, Below w.heap.size w W → Calls Tryz.prog 43 #[.agg (nd k s n a p m c), .int .i64 (st : Nat)] W fun e w' => e = .returned (.bool false) ∧ Below W.heap.size W w')
    (h44 : ∀ W, Below w.heap.size w W → Calls Tryz.prog 44 #[.agg (nd k s n a p m c), .int .i64 (st : Nat)] W fun e w' => e = .returned (.bool q2) ∧ Below W.heap.size W w')
    (h45 : ∀ W, Below w.heap.size w W → Calls Tryz.prog 45 #[.agg (nd k s n a p m c), .int .i64 (st : Nat)] W fun e w' => e = .returned (.tuple #[.int .i64 lo, .int .i64 hi]) ∧ Below W.heap.size W w')
    (h46 : ∀ W, Calls Tryz.prog 46 #[.int .i64 k] W fun e w' => e = .returned (.int .i64 mo) ∧ w' = W) 
    (h1 : ah < 20000) (h2 : deep ≤ 60) (h3 : 1 ≤ k) (h4 : k ≤ 51) : Calls Tryz.prog 29 #[.pointer (some ⟨lb, 0, none⟩), .agg (nd k s n a p m c), .int .i64 deep, .int .i64 (st : Nat)] w (fun e w' => (∃ u, e = .returned u) ∧ Chk lb w w' ∧ ∃ z : Int, w'.heap[lb]? = some (.cells (lkC z 20 a (toldName s)) 59 (0, 0))) := by
  have H43 : Hid _ := h43
  have H44 : Hid _ := h44
  have H45 : Hid _ := h45
  have H46 : Hid _ := h46
  clear h43 h44 h45 h46
  have hb0 := below1 w (.cells (nd k s n a p m c) 24)
  have N0 := CellsOf.new w (nd k s n a p m c) 24
  go_enter Tryz.func29, Tryz.ntmps29
  go_wp2_with fail
  refine (H43.out _ hb0).mono ?_
  rintro e w1 ⟨rfl, hb1⟩
  have hB1 : Below w.heap.size w w1 := hb0.trans (hb1.mono (by simp))
  have hz1 := hb1.size
  simp only [World.size_alloc] at hz1
  have N1 := N0.below (by simp) hb1
  have a0 := N1 0 _ rfl
  have a1 := N1 1 _ rfl
  have a2 := N1 2 _ rfl
  have a3 := N1 3 _ rfl
  have a4 := N1 4 _ rfl
  clear hb0 hb1 N0
  go_wp2_with fail
  refine (H44.out _ hB1).mono ?_
  rintro e w2 ⟨rfl, hb2⟩
  have hB2 : Below w.heap.size w w2 := hB1.trans (hb2.mono hB1.size)
  have hz2 := hb2.size
  have N2 := N1.below (by omega) hb2
  clear a0 a1 a2 a3 a4 hb2 N1 hB1
  have a0 := N2 0 _ rfl
  have a1 := N2 1 _ rfl
  have a2 := N2 2 _ rfl
  have a3 := N2 3 _ rfl
  have a4 := N2 4 _ rfl
  go_wp2_with fail
  refine (H45.out _ hB2).mono ?_
  rintro e w3 ⟨rfl, hb3⟩
  have hB3 : Below w.heap.size w w3 := hB2.trans (hb3.mono hB2.size)
  have hz3 := hb3.size
  have N3 := N2.below (by omega) hb3
  clear a0 a1 a2 a3 a4 hb3 N2 hB2
  have a0 := N3 0 _ rfl
  have a1 := N3 1 _ rfl
  have a2 := N3 2 _ rfl
  have a3 := N3 3 _ rfl
  have a4 := N3 4 _ rfl
  go_wp2_with fail
  refine (H46.out _).mono ?_
  rintro e w4 ⟨rfl, rfl⟩
  have hrow3 := (hB3.block _ hlb).trans hrow
  obtain ⟨hcl, hfl⟩ := row_cells hrow3
  have l0 := hcl 0
  have l1 := hcl 1
  have l2 := hcl 2
  have l3 := hcl 3
  have f0 := hfl 0
  have f1 := hfl 1
  have f2 := hfl 2
  have f3 := hfl 3
  simp only [List.getElem?_toArray, List.getElem?_cons_zero, List.getElem?_cons_succ] at l0 l1 l2 l3
  clear hcl hfl
  have h1' : ¬ (20000 : Int) ≤ ((ah : Nat) : Int) := by omega
  have h2' : ¬ 60 < deep := by omega
  have h3' : ¬ k < 1 := by omega
  have h4' : ¬ 51 < k := by omega
  go_wp2_with fail
  refine (rWrong_any 20 k s n a p m c _).mono ?_
  rintro e w5 ⟨rfl, hb5⟩
  have hB5 : Below w.heap.size w w5 := hB3.trans (hb5.mono hB3.size)
  have hz5 := hb5.size
  have hrow5 := (hB5.block _ hlb).trans hrow
  have N5 := N3.below (by omega) hb5
  have ht : (if s.size ≤ 40 then s else ⟨#[]⟩) = toldName s := rfl
  rw [ht]
  clear ht l0 l1 l2 l3 f0 f1 f2 f3 a0 a1 a2 a3 a4 hrow3
  obtain ⟨nm, hnm⟩ : ∃ nm, nm = toldName s := ⟨_, rfl⟩
  rw [← hnm]
  have HNM : Hid (nm = toldName s) := hnm
  clear hnm
  obtain ⟨W6, hW6⟩ : ∃ W6, W6 = (((w5.setCell ⟨lb, 1, none⟩ (.int .i64 20)).setCell ⟨lb, 2, none⟩ (.int .i64 a)).setCell ⟨lb, 3, none⟩ (.string nm)).setCell ⟨lb, 0, none⟩ (.int .i64 (((ah : Nat) : Int) + 1)) := ⟨_, rfl⟩
  have hrow6 : W6.heap[lb]? = some (.cells (lkC (((ah : Nat) : Int) + 1) 20 a nm) 59 (0, 0)) := by rw [hW6]; exact heap_set (heap_set (heap_set (heap_set hrow5 1 _) 2 _) 3 _) 0 _
  have hK6 : Chk lb w W6 := by
    rw [hW6]
    exact ((((Chk.of hB5 (by omega)).trans (Chk.setAt lb 1 _ _)).trans (Chk.setAt lb 2 _ _)).trans (Chk.setAt lb 3 _ _)).trans (Chk.setAt lb 0 _ _)
  have N6 : CellsOf W6 w.heap.size (nd k s n a p m c) := by
    rw [hW6]
    exact (Chk.setAt lb 0 _ _).cells ((Chk.setAt lb 3 _ _).cells ((Chk.setAt lb 2 _ _).cells ((Chk.setAt lb 1 _ _).cells N5 (by omega) (by omega)) (by omega) (by simp; omega)) (by omega) (by simp; omega)) (by omega) (by simp; omega)
  have e6 : (((w5.setCell ⟨lb, 1, none⟩ (.int .i64 20)).setCell ⟨lb, 2, none⟩ (.int .i64 a)).setCell ⟨lb, 3, none⟩ (.string nm)).setCell ⟨lb, 0, none⟩ (.int .i64 (((ah : Nat) : Int) + 1)) = W6 := hW6.symm
  obtain ⟨hcl, hfl⟩ := row_cells hrow5
  have l0 := hcl 0
  have l1 := hcl 1
  have l2 := hcl 2
  have l3 := hcl 3
  have f0 := hfl 0
  have f1 := hfl 1
  have f2 := hfl 2
  have f3 := hfl 3
  simp only [List.getElem?_toArray, List.getElem?_cons_zero, List.getElem?_cons_succ] at l0 l1 l2 l3
  have HP : Hid (Chk lb w W6 ∧ W6.heap[lb]? = some (.cells (lkC (((ah : Nat) : Int) + 1) 20 a nm) 59 (0, 0))) := ⟨hK6, hrow6⟩
  have r4 := N6 4 _ rfl
  have d1 := (row_cells hrow6).1 1
  simp only [List.getElem?_toArray, List.getElem?_cons_zero, List.getElem?_cons_succ] at d1
  have hal : ah < 9000000000000000000 := hbig
  clear hcl hfl hrow5 hrow6 hK6 N5 N6 hW6 hb5 hB5 N3 hB3
  go_wp2_with fail
  go_loopg [13, 14] 0 (fun gk i _ wr => i = .int .i64 0 ∧ wr = W6)
  case atStart => exact ⟨rfl, rfl⟩
  case round =>
    obtain ⟨rfl, rfl⟩ := hrel
    by_cases hm0 : m = 0
    · subst hm0
      go_wp2_with fail
      refine bodyPost_end (v := .tuple #[]) (results_none rfl _ _ _) rfl ⟨⟨_, rfl⟩, HP.out.1, _, by rw [← HNM.out]; exact HP.out.2⟩
    · have hm0' : (0 : Int) < ((m : Nat) : Int) := by omega
      go_wp2_with fail
      refine bodyPost_end (v := .tuple #[]) (results_none rfl _ _ _) rfl ⟨⟨_, rfl⟩, HP.out.1, _, by rw [← HNM.out]; exact HP.out.2⟩

end Go.Proofs.YthbnegggohegkaaGreatDoor
namespace Go.Proofs.YthbnegggohegkaaGreatDoor
open Go.RowKit

set_option maxRecDepth 100000 in
set_option maxHeartbeats 8000000 in
theorem look_said (lb ah : Nat) (deep : Int) (k : Int) (s : ByteArray) (n a : Int) (p : Option Addr) (m c st : Nat) (w : World) (hlb : lb < w.heap.size) (hrow : w.heap[lb]? = some (.cells (lkC (ah : Nat) 0 0 ⟨#[]⟩) 59 (0, 0))) (hbig : ah < 9000000000000000000)  (lo hi mo : Int)
    (h43 : ∀ W, Below w.heap.size w W → Calls Tryz.prog 43 #[.agg (nd k s n a p m c), .int .i64 (st : Nat)] W fun e w' => e = .returned (.bool true) ∧ Below W.heap.size W w')
    (h44 : ∀ W, Below w.heap.size w W → Calls Tryz.prog 44 #[.agg (nd k s n a p m c), .int .i64 (st : Nat)] W fun e w' => e = .returned (.bool false) ∧ Below W.heap.size W w')
    (h45 : ∀ W, Below w.heap.size w W → Calls Tryz.prog 45 #[.agg (nd k s n a p m c), .int .i64 (st : Nat)] W fun e w' => e = .returned (.tuple #[.int .i64 lo, .int .i64 hi]) ∧ Below W.heap.size W w')
    (h46 : ∀ W, Calls Tryz.prog 46 #[.int .i64 k] W fun e w' => e = .returned (.int .i64 mo) ∧ w' = W) 
    (h1 : ah < 20000) (h2 : deep ≤ 60) (h3 : 1 ≤ k) (h4 : k ≤ 51) : Calls Tryz.prog 29 #[.pointer (some ⟨lb, 0, none⟩), .agg (nd k s n a p m c), .int .i64 deep, .int .i64 (st : Nat)] w (fun e w' => (∃ u, e = .returned u) ∧ Chk lb w w' ∧ ∃ z : Int, w'.heap[lb]? = some (.cells (lkC z 20 a (toldName s)) 59 (0, 0))) := by
  have H43 : Hid _ := h43
  have H44 : Hid _ := h44
  have H45 : Hid _ := h45
  have H46 : Hid _ := h46
  clear h43 h44 h45 h46
  have hb0 := below1 w (.cells (nd k s n a p m c) 24)
  have N0 := CellsOf.new w (nd k s n a p m c) 24
  go_enter Tryz.func29, Tryz.ntmps29
  go_wp2_with fail
  refine (H43.out _ hb0).mono ?_
  rintro e w1 ⟨rfl, hb1⟩
  have hB1 : Below w.heap.size w w1 := hb0.trans (hb1.mono (by simp))
  have hz1 := hb1.size
  simp only [World.size_alloc] at hz1
  have N1 := N0.below (by simp) hb1
  have a0 := N1 0 _ rfl
  have a1 := N1 1 _ rfl
  have a2 := N1 2 _ rfl
  have a3 := N1 3 _ rfl
  have a4 := N1 4 _ rfl
  clear hb0 hb1 N0
  go_wp2_with fail
  refine (H44.out _ hB1).mono ?_
  rintro e w2 ⟨rfl, hb2⟩
  have hB2 : Below w.heap.size w w2 := hB1.trans (hb2.mono hB1.size)
  have hz2 := hb2.size
  have N2 := N1.below (by omega) hb2
  clear a0 a1 a2 a3 a4 hb2 N1 hB1
  have a0 := N2 0 _ rfl
  have a1 := N2 1 _ rfl
  have a2 := N2 2 _ rfl
  have a3 := N2 3 _ rfl
  have a4 := N2 4 _ rfl
  go_wp2_with fail
  refine (H45.out _ hB2).mono ?_
  rintro e w3 ⟨rfl, hb3⟩
  have hB3 : Below w.heap.size w w3 := hB2.trans (hb3.mono hB2.size)
  have hz3 := hb3.size
  have N3 := N2.below (by omega) hb3
  clear a0 a1 a2 a3 a4 hb3 N2 hB2
  have a0 := N3 0 _ rfl
  have a1 := N3 1 _ rfl
  have a2 := N3 2 _ rfl
  have a3 := N3 3 _ rfl
  have a4 := N3 4 _ rfl
  go_wp2_with fail
  refine (H46.out _).mono ?_
  rintro e w4 ⟨rfl, rfl⟩
  have hrow3 := (hB3.block _ hlb).trans hrow
  obtain ⟨hcl, hfl⟩ := row_cells hrow3
  have l0 := hcl 0
  have l1 := hcl 1
  have l2 := hcl 2
  have l3 := hcl 3
  have f0 := hfl 0
  have f1 := hfl 1
  have f2 := hfl 2
  have f3 := hfl 3
  simp only [List.getElem?_toArray, List.getElem?_cons_zero, List.getElem?_cons_succ] at l0 l1 l2 l3
  clear hcl hfl
  have h1' : ¬ (20000 : Int) ≤ ((ah : Nat) : Int) := by omega
  have h2' : ¬ 60 < deep := by omega
  have h3' : ¬ k < 1 := by omega
  have h4' : ¬ 51 < k := by omega
  go_wp2_with fail
  refine (rWrong_any 20 k s n a p m c _).mono ?_
  rintro e w5 ⟨rfl, hb5⟩
  have hB5 : Below w.heap.size w w5 := hB3.trans (hb5.mono hB3.size)
  have hz5 := hb5.size
  have hrow5 := (hB5.block _ hlb).trans hrow
  have N5 := N3.below (by omega) hb5
  have ht : (if s.size ≤ 40 then s else ⟨#[]⟩) = toldName s := rfl
  rw [ht]
  clear ht l0 l1 l2 l3 f0 f1 f2 f3 a0 a1 a2 a3 a4 hrow3
  obtain ⟨nm, hnm⟩ : ∃ nm, nm = toldName s := ⟨_, rfl⟩
  rw [← hnm]
  have HNM : Hid (nm = toldName s) := hnm
  clear hnm
  obtain ⟨W6, hW6⟩ : ∃ W6, W6 = (((w5.setCell ⟨lb, 1, none⟩ (.int .i64 20)).setCell ⟨lb, 2, none⟩ (.int .i64 a)).setCell ⟨lb, 3, none⟩ (.string nm)).setCell ⟨lb, 0, none⟩ (.int .i64 (((ah : Nat) : Int) + 1)) := ⟨_, rfl⟩
  have hrow6 : W6.heap[lb]? = some (.cells (lkC (((ah : Nat) : Int) + 1) 20 a nm) 59 (0, 0)) := by rw [hW6]; exact heap_set (heap_set (heap_set (heap_set hrow5 1 _) 2 _) 3 _) 0 _
  have hK6 : Chk lb w W6 := by
    rw [hW6]
    exact ((((Chk.of hB5 (by omega)).trans (Chk.setAt lb 1 _ _)).trans (Chk.setAt lb 2 _ _)).trans (Chk.setAt lb 3 _ _)).trans (Chk.setAt lb 0 _ _)
  have N6 : CellsOf W6 w.heap.size (nd k s n a p m c) := by
    rw [hW6]
    exact (Chk.setAt lb 0 _ _).cells ((Chk.setAt lb 3 _ _).cells ((Chk.setAt lb 2 _ _).cells ((Chk.setAt lb 1 _ _).cells N5 (by omega) (by omega)) (by omega) (by simp; omega)) (by omega) (by simp; omega)) (by omega) (by simp; omega)
  have e6 : (((w5.setCell ⟨lb, 1, none⟩ (.int .i64 20)).setCell ⟨lb, 2, none⟩ (.int .i64 a)).setCell ⟨lb, 3, none⟩ (.string nm)).setCell ⟨lb, 0, none⟩ (.int .i64 (((ah : Nat) : Int) + 1)) = W6 := hW6.symm
  obtain ⟨hcl, hfl⟩ := row_cells hrow5
  have l0 := hcl 0
  have l1 := hcl 1
  have l2 := hcl 2
  have l3 := hcl 3
  have f0 := hfl 0
  have f1 := hfl 1
  have f2 := hfl 2
  have f3 := hfl 3
  simp only [List.getElem?_toArray, List.getElem?_cons_zero, List.getElem?_cons_succ] at l0 l1 l2 l3
  have HP : Hid (Chk lb w W6 ∧ W6.heap[lb]? = some (.cells (lkC (((ah : Nat) : Int) + 1) 20 a nm) 59 (0, 0))) := ⟨hK6, hrow6⟩
  have r4 := N6 4 _ rfl
  have d1 := (row_cells hrow6).1 1
  simp only [List.getElem?_toArray, List.getElem?_cons_zero, List.getElem?_cons_succ] at d1
  have hal : ah < 9000000000000000000 := hbig
  clear hcl hfl hrow5 hrow6 hK6 N5 N6 hW6 hb5 hB5 N3 hB3
  go_wp2_with fail
  go_loopg [13, 14] 0 (fun gk i _ wr => i = .int .i64 0 ∧ wr = W6)
  case atStart => exact ⟨rfl, rfl⟩
  case round =>
    obtain ⟨rfl, rfl⟩ := hrel
    by_cases hm0 : m = 0
    · subst hm0
      go_wp2_with fail
      refine bodyPost_end (v := .tuple #[]) (results_none rfl _ _ _) rfl ⟨⟨_, rfl⟩, HP.out.1, _, by rw [← HNM.out]; exact HP.out.2⟩
    · have hm0' : (0 : Int) < ((m : Nat) : Int) := by omega
      go_wp2_with fail
      refine bodyPost_end (v := .tuple #[]) (results_none rfl _ _ _) rfl ⟨⟨_, rfl⟩, HP.out.1, _, by rw [← HNM.out]; exact HP.out.2⟩

end Go.Proofs.YthbnegggohegkaaGreatDoor
