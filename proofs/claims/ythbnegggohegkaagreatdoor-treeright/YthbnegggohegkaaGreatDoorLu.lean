/-
  The law TreeRight, at every tree.
-/
import Derived.Test.YthbnegggohegkaaGreatDoorLs
import Derived.Test.YthbnegggohegkaaGreatDoorLtJ
import Derived.Test.YthbnegggohegkaaGreatDoorLq
namespace Go.Proofs.YthbnegggohegkaaGreatDoor
open Go.RowKit

set_option maxRecDepth 100000 in
set_option maxHeartbeats 8000000 in
theorem law_ok_big {gw ow gs os : Nat} (t : MT) (w : World) (ht : TabsAt gw ow gs os w) (hg : w.cell? ⟨0, 0, none⟩ = some (.iface 129 (.agg #[hnd 33]))) (hin : t.In w.heap.size w) 
    (hsz : 30000 < t.size) (h10 : ∀ W, Below w.heap.size w W → Calls Tryz.prog 10 #[nodeV t] W fun e w' => e = .returned (.agg #[.int .i64 0, .int .i64 0, .string ⟨#[]⟩]) ∧ Below W.heap.size W w')
    (h13 : ∀ x W, (x = t ∨ MT.twin t x) → Below w.heap.size w W → x.In W.heap.size W → Calls Tryz.prog 13 #[nodeV x] W fun e w' => Below W.heap.size W w' ∧ e = .returned .nilIface) :
    Calls Tryz.prog 3 #[nodeV t] w fun e w' => e = .returned (.bool true) ∧ Below w.heap.size w w' := by
  have h6 := ht.two
  have hb0 := below1 w (nodeO t)
  have HX : Hid _ := examples_any (w.alloc (nodeO t)) (ht.below (Nat.le_refl _) hb0) ((hb0.cell (p := ⟨0, 0, none⟩) (by show 0 < _; omega)).trans hg)
  have HG : Hid (∀ W, Below w.heap.size w W → W.cell? ⟨0, 0, none⟩ = some (.iface 129 (.agg #[hnd 33]))) := fun W hW => (hW.cell (p := ⟨0, 0, none⟩) (by show 0 < _; omega)).trans hg
  have HIN : Hid (∀ W, Below w.heap.size w W → t.In W.heap.size W) := fun W hW => MT.In.mono hW.size _ (MT.In.below hW t hin)
  have H10 : Hid _ := h10
  have H13 : Hid _ := h13
  have N0 := BoxAt.new w t
  clear h10 h13 ht hg hin
  go_enter Tryz.func3, Tryz.ntmps3
  go_wp2_with fail
  refine Calls.mono HX.out ?_
  clear HX
  rintro e w1 ⟨rfl, hb1⟩
  have hz1 := hb1.size
  simp only [World.size_alloc] at hz1
  have hB1 : Below w.heap.size w w1 := hb0.trans (hb1.mono (by simp))
  have N1 := N0.below (by simp) hb1
  obtain ⟨k0, k1, k2, k3, k4⟩ := N1
  clear hb0 hb1 N0
  have N1 : BoxAt w1 w.heap.size t := ⟨k0, k1, k2, k3, k4⟩
  go_wp2_with fail
  refine Calls.mono (H10.out w1 hB1) ?_
  rintro e w2 ⟨rfl, hb2⟩
  clear k0 k1 k2 k3 k4
  have hz2 := hb2.size
  have hB2 : Below w.heap.size w w2 := hB1.trans (hb2.mono hB1.size)
  have N2 := N1.below (by omega) hb2
  have hb3 := below1 w2 (.cells #[.int .i64 0, .int .i64 0, .string ⟨#[]⟩] 28)
  have N3 := N2.below (by omega) hb3
  obtain ⟨k0, k1, k2, k3, k4⟩ := N3
  have hb4 := below2 w2 (.cells #[.int .i64 0, .int .i64 0, .string ⟨#[]⟩] 28) (nodeO t)
  have N4 := N2.below (by omega) hb4
  have hw4 : ((w2.alloc (.cells #[.int .i64 0, .int .i64 0, .string ⟨#[]⟩] 28)).alloc (nodeO t)).heap[w2.heap.size]? = some (.cells #[.int .i64 0, .int .i64 0, .string ⟨#[]⟩] 28 (0, 0)) := ((MapKept.heap_alloc _ _).2 _ (by simp)).trans (heap_alloc_new w2 _)
  have x4 := BoxAt.new (w2.alloc (.cells #[.int .i64 0, .int .i64 0, .string ⟨#[]⟩] 28)) t
  rw [World.size_alloc] at x4
  have hx4 : ((w2.alloc (.cells #[.int .i64 0, .int .i64 0, .string ⟨#[]⟩] 28)).alloc (nodeO t)).heap[w2.heap.size + 1]? = some (nodeO t) := by
    have := heap_alloc_new (w2.alloc (.cells #[.int .i64 0, .int .i64 0, .string ⟨#[]⟩] 28)) (nodeO t)
    rwa [World.size_alloc] at this
  have hB4 : Below w.heap.size w ((w2.alloc (.cells #[.int .i64 0, .int .i64 0, .string ⟨#[]⟩] 28)).alloc (nodeO t)) := hB2.trans (hb4.mono hB2.size)
  have hz4 : ((w2.alloc (.cells #[.int .i64 0, .int .i64 0, .string ⟨#[]⟩] 28)).alloc (nodeO t)).heap.size = w2.heap.size + 2 := by simp
  have HC : Hid _ := refCount_any t _ (HIN.out _ hB4)
  obtain ⟨j0, j1, j2, j3, j4⟩ := N4
  have N4 : BoxAt ((w2.alloc (.cells #[.int .i64 0, .int .i64 0, .string ⟨#[]⟩] 28)).alloc (nodeO t)) w.heap.size t := ⟨j0, j1, j2, j3, j4⟩
  clear hB1 hb2 N1 hb3 hb4 N2
  go_wp2_with fail
  refine Calls.mono HC.out ?_
  clear HC
  rintro e w5 ⟨r, rfl, hr0, hr1, HR, hb5⟩
  have hz5 := hb5.size
  rw [hz4] at hz5
  have hB5 : Below w.heap.size w w5 := hB4.trans (hb5.mono (by omega))
  have N5 := N4.below (by omega) hb5
  have hw5 := (hb5.block w2.heap.size (by omega)).trans hw4
  have hx5 := (hb5.block (w2.heap.size + 1) (by omega)).trans hx4
  clear k0 k1 k2 k3 k4 j0 j1 j2 j3 j4 hw4 hx4 x4 N4 hb5 hB4 hz4
  obtain ⟨k0, k1, k2, k3, k4⟩ := N5
  have N5 : BoxAt w5 w.heap.size t := ⟨k0, k1, k2, k3, k4⟩
  have hr : 30000 < r := by have := HR.out; omega
  have hrd : decide (30000 < r) = true := decide_eq_true hr
  have hw7 := hw5
  have N7 := N5
  have hx7 := hx5
  have hB7 := hB5
  have hz7 : w2.heap.size + 2 ≤ w5.heap.size := hz5
  have hIx := HIN.out w5 hB5
  obtain ⟨w7, hw7e⟩ : ∃ w7, w7 = w5 := ⟨_, rfl⟩
  rw [← hw7e] at hw7 N7 hx7 hB7 hz7 hIx
  have x0 : w5.cell? ⟨w2.heap.size + 1, 0, none⟩ = some (.int .i64 t.kind) := cell_row hx5 0
  have x1 : w5.cell? ⟨w2.heap.size + 1, 1, none⟩ = some (.string t.text) := cell_row hx5 1
  have x2 : w5.cell? ⟨w2.heap.size + 1, 2, none⟩ = some (.int .i64 t.num) := cell_row hx5 2
  have x3 : w5.cell? ⟨w2.heap.size + 1, 3, none⟩ = some (.int .i64 t.at_) := cell_row hx5 3
  have x4 : w5.cell? ⟨w2.heap.size + 1, 4, none⟩ = some (.slice t.ptr t.kids.length t.cap) := cell_row hx5 4
  subst hw7e
  clear hB5 hw5 N5 hx5
  go_wp2_with fail
  refine Calls.mono (H13.out t _ (.inl rfl) hB7 hIx) ?_
  rintro e w8 ⟨hb8, hE8⟩
  subst hE8
  clear x0 x1 x2 x3 x4
  have hz8 := hb8.size
  have hx8 := (hb8.block (w2.heap.size + 1) (by omega)).trans hx7
  have hw8 := (hb8.block w2.heap.size (by omega)).trans hw7
  have N8 := N7.below (by omega) hb8
  have hB8 : Below w.heap.size w w8 := hB7.trans (hb8.mono hB7.size)
  have hIx8 : t.In w8.heap.size w8 := MT.In.mono hz8 _ (MT.In.below hb8 _ hIx)
  have x0 : w8.cell? ⟨w2.heap.size + 1, 0, none⟩ = some (.int .i64 t.kind) := cell_row hx8 0
  have x1 : w8.cell? ⟨w2.heap.size + 1, 1, none⟩ = some (.string t.text) := cell_row hx8 1
  have x2 : w8.cell? ⟨w2.heap.size + 1, 2, none⟩ = some (.int .i64 t.num) := cell_row hx8 2
  have x3 : w8.cell? ⟨w2.heap.size + 1, 3, none⟩ = some (.int .i64 t.at_) := cell_row hx8 3
  have x4 : w8.cell? ⟨w2.heap.size + 1, 4, none⟩ = some (.slice t.ptr t.kids.length t.cap) := cell_row hx8 4
  go_wp2_with fail
  refine Calls.mono (H13.out t _ (.inl rfl) hB8 hIx8) ?_
  rintro e w9 ⟨hb9, hE9⟩
  subst hE9
  clear x0 x1 x2 x3 x4
  have hz9 := hb9.size
  have hx9 := (hb9.block (w2.heap.size + 1) (by omega)).trans hx8
  have hw9 := (hb9.block w2.heap.size (by omega)).trans hw8
  have N9 := N8.below (by omega) hb9
  have hB9 : Below w.heap.size w w9 := hB8.trans (hb9.mono hB8.size)
  obtain ⟨hcl, _⟩ := row_cells hw9
  have v0 := hcl 0
  have v1 := hcl 1
  have v2 := hcl 2
  simp only [List.getElem?_toArray, List.getElem?_cons_zero, List.getElem?_cons_succ] at v0 v1 v2
  go_wp2_with fail
  refine (says_none w9).mono ?_
  rintro e wa ⟨rfl, hka⟩
  clear v0 v1 v2 hcl
  have hza := hka.size
  have hwa := (hka.block w2.heap.size (by omega)).trans hw9
  have hxa := (hka.block (w2.heap.size + 1) (by omega)).trans hx9
  have Na := N9.below (by omega) hka
  have hBa : Below w.heap.size w wa := hB9.trans (hka.mono (by omega))
  obtain ⟨hcl, _⟩ := row_cells hwa
  have v0 := hcl 0
  have v1 := hcl 1
  have v2 := hcl 2
  simp only [List.getElem?_toArray, List.getElem?_cons_zero, List.getElem?_cons_succ] at v0 v1 v2
  go_wp2_with fail
  refine (says_none wa).mono ?_
  rintro e wb ⟨rfl, hkb⟩
  clear v0 v1 v2 hcl
  have hzb := hkb.size
  have hxb := (hkb.block (w2.heap.size + 1) (by omega)).trans hxa
  have Nb := Na.below (by omega) hkb
  have hBb : Below w.heap.size w wb := hBa.trans (hkb.mono (by omega))
  have HP : Hid (Below w.heap.size w wb) := hBb
  clear hBb hxb Nb
  go_wp2_with fail
  go_ret
  exact ⟨rfl, HP.out⟩

set_option maxRecDepth 100000 in
set_option maxHeartbeats 8000000 in
theorem law_ok {gw ow gs os : Nat} (t : MT) (w : World) (ht : TabsAt gw ow gs os w) (hg : w.cell? ⟨0, 0, none⟩ = some (.iface 129 (.agg #[hnd 33]))) (hin : t.In w.heap.size w) 
    (hsz : t.size ≤ 30000) (h10 : ∀ W, Below w.heap.size w W → Calls Tryz.prog 10 #[nodeV t] W fun e w' => e = .returned (.agg #[.int .i64 0, .int .i64 0, .string ⟨#[]⟩]) ∧ Below W.heap.size W w')
    (h13 : ∀ x W, (x = t ∨ MT.twin t x) → Below w.heap.size w W → x.In W.heap.size W → Calls Tryz.prog 13 #[nodeV x] W fun e w' => Below W.heap.size W w' ∧ e = .returned .nilIface) :
    Calls Tryz.prog 3 #[nodeV t] w fun e w' => e = .returned (.bool true) ∧ Below w.heap.size w w' := by
  have h6 := ht.two
  have hb0 := below1 w (nodeO t)
  have HX : Hid _ := examples_any (w.alloc (nodeO t)) (ht.below (Nat.le_refl _) hb0) ((hb0.cell (p := ⟨0, 0, none⟩) (by show 0 < _; omega)).trans hg)
  have HG : Hid (∀ W, Below w.heap.size w W → W.cell? ⟨0, 0, none⟩ = some (.iface 129 (.agg #[hnd 33]))) := fun W hW => (hW.cell (p := ⟨0, 0, none⟩) (by show 0 < _; omega)).trans hg
  have HIN : Hid (∀ W, Below w.heap.size w W → t.In W.heap.size W) := fun W hW => MT.In.mono hW.size _ (MT.In.below hW t hin)
  have H10 : Hid _ := h10
  have H13 : Hid _ := h13
  have N0 := BoxAt.new w t
  clear h10 h13 ht hg hin
  go_enter Tryz.func3, Tryz.ntmps3
  go_wp2_with fail
  refine Calls.mono HX.out ?_
  clear HX
  rintro e w1 ⟨rfl, hb1⟩
  have hz1 := hb1.size
  simp only [World.size_alloc] at hz1
  have hB1 : Below w.heap.size w w1 := hb0.trans (hb1.mono (by simp))
  have N1 := N0.below (by simp) hb1
  obtain ⟨k0, k1, k2, k3, k4⟩ := N1
  clear hb0 hb1 N0
  have N1 : BoxAt w1 w.heap.size t := ⟨k0, k1, k2, k3, k4⟩
  go_wp2_with fail
  refine Calls.mono (H10.out w1 hB1) ?_
  rintro e w2 ⟨rfl, hb2⟩
  clear k0 k1 k2 k3 k4
  have hz2 := hb2.size
  have hB2 : Below w.heap.size w w2 := hB1.trans (hb2.mono hB1.size)
  have N2 := N1.below (by omega) hb2
  have hb3 := below1 w2 (.cells #[.int .i64 0, .int .i64 0, .string ⟨#[]⟩] 28)
  have N3 := N2.below (by omega) hb3
  obtain ⟨k0, k1, k2, k3, k4⟩ := N3
  have hb4 := below2 w2 (.cells #[.int .i64 0, .int .i64 0, .string ⟨#[]⟩] 28) (nodeO t)
  have N4 := N2.below (by omega) hb4
  have hw4 : ((w2.alloc (.cells #[.int .i64 0, .int .i64 0, .string ⟨#[]⟩] 28)).alloc (nodeO t)).heap[w2.heap.size]? = some (.cells #[.int .i64 0, .int .i64 0, .string ⟨#[]⟩] 28 (0, 0)) := ((MapKept.heap_alloc _ _).2 _ (by simp)).trans (heap_alloc_new w2 _)
  have x4 := BoxAt.new (w2.alloc (.cells #[.int .i64 0, .int .i64 0, .string ⟨#[]⟩] 28)) t
  rw [World.size_alloc] at x4
  have hx4 : ((w2.alloc (.cells #[.int .i64 0, .int .i64 0, .string ⟨#[]⟩] 28)).alloc (nodeO t)).heap[w2.heap.size + 1]? = some (nodeO t) := by
    have := heap_alloc_new (w2.alloc (.cells #[.int .i64 0, .int .i64 0, .string ⟨#[]⟩] 28)) (nodeO t)
    rwa [World.size_alloc] at this
  have hB4 : Below w.heap.size w ((w2.alloc (.cells #[.int .i64 0, .int .i64 0, .string ⟨#[]⟩] 28)).alloc (nodeO t)) := hB2.trans (hb4.mono hB2.size)
  have hz4 : ((w2.alloc (.cells #[.int .i64 0, .int .i64 0, .string ⟨#[]⟩] 28)).alloc (nodeO t)).heap.size = w2.heap.size + 2 := by simp
  have HC : Hid _ := refCount_any t _ (HIN.out _ hB4)
  obtain ⟨j0, j1, j2, j3, j4⟩ := N4
  have N4 : BoxAt ((w2.alloc (.cells #[.int .i64 0, .int .i64 0, .string ⟨#[]⟩] 28)).alloc (nodeO t)) w.heap.size t := ⟨j0, j1, j2, j3, j4⟩
  clear hB1 hb2 N1 hb3 hb4 N2
  go_wp2_with fail
  refine Calls.mono HC.out ?_
  clear HC
  rintro e w5 ⟨r, rfl, hr0, hr1, HR, hb5⟩
  have hz5 := hb5.size
  rw [hz4] at hz5
  have hB5 : Below w.heap.size w w5 := hB4.trans (hb5.mono (by omega))
  have N5 := N4.below (by omega) hb5
  have hw5 := (hb5.block w2.heap.size (by omega)).trans hw4
  have hx5 := (hb5.block (w2.heap.size + 1) (by omega)).trans hx4
  clear k0 k1 k2 k3 k4 j0 j1 j2 j3 j4 hw4 hx4 x4 N4 hb5 hB4 hz4
  obtain ⟨k0, k1, k2, k3, k4⟩ := N5
  have N5 : BoxAt w5 w.heap.size t := ⟨k0, k1, k2, k3, k4⟩
  have hr : ¬ 30000 < r := by have := HR.out; omega
  have hrd : decide (30000 < r) = false := decide_eq_false hr
  have HT : Hid _ := twinM_any 30000 (Nat.le_refl _) t w5 hsz (HIN.out w5 hB5)
  go_wp2_with fail
  refine Calls.mono HT.out ?_
  clear HT
  rintro e w6 ⟨t', rfl, HTW, HAM, _, hb6⟩
  clear k0 k1 k2 k3 k4
  have hz6 := hb6.size
  have hx6 := (hb6.block (w2.heap.size + 1) (by omega)).trans hx5
  obtain ⟨w7, hw7e⟩ : ∃ w7, w7 = set5W w6 (w2.heap.size + 1) 0 (.int .i64 t'.kind) (.string t'.text) (.int .i64 t'.num) (.int .i64 t'.at_) (.slice t'.ptr t'.kids.length t'.cap) := ⟨_, rfl⟩
  have hS7 : w7.heap.size = w6.heap.size := by rw [hw7e]; exact set5W_size _ _ _ _ _ _ _ _
  have hx7 : w7.heap[w2.heap.size + 1]? = some (nodeO t') := by rw [hw7e]; exact heap_set (heap_set (heap_set (heap_set (heap_set hx6 0 _) 1 _) 2 _) 3 _) 4 _
  have hK7 : Chk (w2.heap.size + 1) w6 w7 := by
    rw [hw7e]
    exact ((((Chk.setAt _ 0 _ _).trans (Chk.setAt _ 1 _ _)).trans (Chk.setAt _ 2 _ _)).trans (Chk.setAt _ 3 _ _)).trans (Chk.setAt _ 4 _ _)
  have e7 : ((((w6.setCell ⟨w2.heap.size + 1, 0, none⟩ (.int .i64 t'.kind)).setCell ⟨w2.heap.size + 1, 1, none⟩ (.string t'.text)).setCell ⟨w2.heap.size + 1, 2, none⟩ (.int .i64 t'.num)).setCell ⟨w2.heap.size + 1, 3, none⟩ (.int .i64 t'.at_)).setCell ⟨w2.heap.size + 1, 4, none⟩ (.slice t'.ptr t'.kids.length t'.cap) = w7 := hw7e.symm
  have hw7 := (hK7.below.block w2.heap.size (by omega)).trans ((hb6.block w2.heap.size (by omega)).trans hw5)
  have N7 := (N5.below (by omega) hb6).below (B := w2.heap.size + 1) (by omega) hK7.below
  have hB7 : Below w.heap.size w w7 := (hB5.trans (hb6.mono hB5.size)).trans (hK7.below.mono (by omega))
  have hz7 : w2.heap.size + 2 ≤ w7.heap.size := by omega
  have hAM7 : t'.AM (fun b => b < w7.heap.size) w7 := MT.AM.keep (fun b hb => by omega) (fun k o hk => World.cell?_of_block (a := ⟨k, o, none⟩) (hK7.rest k (by omega) (by omega))) t' HAM.out
  have hIx := MT.At.toIn (fun b hb => hb) t' hAM7.1
  have HXT : Hid (t' = t ∨ MT.twin t t') := .inr HTW.out
  obtain ⟨hcl, hfl⟩ := row_cells hx6
  have y0 := hcl 0
  have y1 := hcl 1
  have y2 := hcl 2
  have y3 := hcl 3
  have y4 := hcl 4
  have g0 := hfl 0
  have g1 := hfl 1
  have g2 := hfl 2
  have g3 := hfl 3
  have g4 := hfl 4
  simp only [List.getElem?_toArray, List.getElem?_cons_zero, List.getElem?_cons_succ] at y0 y1 y2 y3 y4
  have x0 : w7.cell? ⟨w2.heap.size + 1, 0, none⟩ = some (.int .i64 t'.kind) := cell_row hx7 0
  have x1 : w7.cell? ⟨w2.heap.size + 1, 1, none⟩ = some (.string t'.text) := cell_row hx7 1
  have x2 : w7.cell? ⟨w2.heap.size + 1, 2, none⟩ = some (.int .i64 t'.num) := cell_row hx7 2
  have x3 : w7.cell? ⟨w2.heap.size + 1, 3, none⟩ = some (.int .i64 t'.at_) := cell_row hx7 3
  have x4 : w7.cell? ⟨w2.heap.size + 1, 4, none⟩ = some (.slice t'.ptr t'.kids.length t'.cap) := cell_row hx7 4
  clear hw7e hcl hfl hw5 hx5 hx6 N5 hK7 HAM hb6 hB5
  go_wp2_with fail
  refine Calls.mono (H13.out t' _ HXT.out hB7 hIx) ?_
  rintro e w8 ⟨hb8, hE8⟩
  subst hE8
  clear x0 x1 x2 x3 x4 y0 y1 y2 y3 y4 g0 g1 g2 g3 g4 e7
  have hz8 := hb8.size
  have hx8 := (hb8.block (w2.heap.size + 1) (by omega)).trans hx7
  have hw8 := (hb8.block w2.heap.size (by omega)).trans hw7
  have N8 := N7.below (by omega) hb8
  have hB8 : Below w.heap.size w w8 := hB7.trans (hb8.mono hB7.size)
  have hIx8 : t'.In w8.heap.size w8 := MT.In.mono hz8 _ (MT.In.below hb8 _ hIx)
  have x0 : w8.cell? ⟨w2.heap.size + 1, 0, none⟩ = some (.int .i64 t'.kind) := cell_row hx8 0
  have x1 : w8.cell? ⟨w2.heap.size + 1, 1, none⟩ = some (.string t'.text) := cell_row hx8 1
  have x2 : w8.cell? ⟨w2.heap.size + 1, 2, none⟩ = some (.int .i64 t'.num) := cell_row hx8 2
  have x3 : w8.cell? ⟨w2.heap.size + 1, 3, none⟩ = some (.int .i64 t'.at_) := cell_row hx8 3
  have x4 : w8.cell? ⟨w2.heap.size + 1, 4, none⟩ = some (.slice t'.ptr t'.kids.length t'.cap) := cell_row hx8 4
  go_wp2_with fail
  refine Calls.mono (H13.out t' _ HXT.out hB8 hIx8) ?_
  rintro e w9 ⟨hb9, hE9⟩
  subst hE9
  clear x0 x1 x2 x3 x4
  have hz9 := hb9.size
  have hx9 := (hb9.block (w2.heap.size + 1) (by omega)).trans hx8
  have hw9 := (hb9.block w2.heap.size (by omega)).trans hw8
  have N9 := N8.below (by omega) hb9
  have hB9 : Below w.heap.size w w9 := hB8.trans (hb9.mono hB8.size)
  obtain ⟨hcl, _⟩ := row_cells hw9
  have v0 := hcl 0
  have v1 := hcl 1
  have v2 := hcl 2
  simp only [List.getElem?_toArray, List.getElem?_cons_zero, List.getElem?_cons_succ] at v0 v1 v2
  go_wp2_with fail
  refine (says_none w9).mono ?_
  rintro e wa ⟨rfl, hka⟩
  clear v0 v1 v2 hcl
  have hza := hka.size
  have hwa := (hka.block w2.heap.size (by omega)).trans hw9
  have hxa := (hka.block (w2.heap.size + 1) (by omega)).trans hx9
  have Na := N9.below (by omega) hka
  have hBa : Below w.heap.size w wa := hB9.trans (hka.mono (by omega))
  obtain ⟨hcl, _⟩ := row_cells hwa
  have v0 := hcl 0
  have v1 := hcl 1
  have v2 := hcl 2
  simp only [List.getElem?_toArray, List.getElem?_cons_zero, List.getElem?_cons_succ] at v0 v1 v2
  go_wp2_with fail
  refine (says_none wa).mono ?_
  rintro e wb ⟨rfl, hkb⟩
  clear v0 v1 v2 hcl
  have hzb := hkb.size
  have hxb := (hkb.block (w2.heap.size + 1) (by omega)).trans hxa
  have Nb := Na.below (by omega) hkb
  have hBb : Below w.heap.size w wb := hBa.trans (hkb.mono (by omega))
  have hAMb : t'.AM (fun b => b < wb.heap.size) wb := MT.AM.keep (fun b hb => by omega) (fun k o hk => World.cell?_of_block (a := ⟨k, o, none⟩) ((hkb.block k (by omega)).trans ((hka.block k (by omega)).trans ((hb9.block k (by omega)).trans (hb8.block k (by omega)))))) t' hAM7
  have x0 : wb.cell? ⟨w2.heap.size + 1, 0, none⟩ = some (.int .i64 t'.kind) := cell_row hxb 0
  have x1 : wb.cell? ⟨w2.heap.size + 1, 1, none⟩ = some (.string t'.text) := cell_row hxb 1
  have x2 : wb.cell? ⟨w2.heap.size + 1, 2, none⟩ = some (.int .i64 t'.num) := cell_row hxb 2
  have x3 : wb.cell? ⟨w2.heap.size + 1, 3, none⟩ = some (.int .i64 t'.at_) := cell_row hxb 3
  have x4 : wb.cell? ⟨w2.heap.size + 1, 4, none⟩ = some (.slice t'.ptr t'.kids.length t'.cap) := cell_row hxb 4
  obtain ⟨k0, k1, k2, k3, k4⟩ := Nb
  have HS : Hid _ := still_any t.size t t' wb (Nat.le_refl _) HTW.out hAMb (HIN.out wb hBb)
  go_wp2_with fail
  refine Calls.mono HS.out ?_
  clear HS
  rintro e wc ⟨rfl, hbc⟩
  have HP : Hid (Below w.heap.size w wc) := hBb.trans (hbc.mono hBb.size)
  clear hBb hxb hbc x0 x1 x2 x3 x4 k0 k1 k2 k3 k4
  go_wp2_with fail
  go_ret
  exact ⟨rfl, HP.out⟩

set_option maxRecDepth 100000 in
set_option maxHeartbeats 8000000 in
theorem law_err_big {gw ow gs os : Nat} (t : MT) (w : World) (ht : TabsAt gw ow gs os w) (hg : w.cell? ⟨0, 0, none⟩ = some (.iface 129 (.agg #[hnd 33]))) (hin : t.In w.heap.size w) (cd a : Int) (nm : ByteArray) (hcd : (cd == 0) = false) 
    (hsz : 30000 < t.size) (h10 : ∀ W, Below w.heap.size w W → Calls Tryz.prog 10 #[nodeV t] W fun e w' => e = .returned (.agg #[.int .i64 cd, .int .i64 a, .string nm]) ∧ Below W.heap.size W w')
    (h13 : ∀ x W, (x = t ∨ MT.twin t x) → Below w.heap.size w W → x.In W.heap.size W → Calls Tryz.prog 13 #[nodeV x] W fun e w' => Below W.heap.size W w' ∧ ∃ B, e = .returned (.iface 67 (.pointer (some ⟨B, 0, none⟩))) ∧ W.heap.size ≤ B ∧ w'.heap[B]? = some (.cells #[.int .i64 cd, .int .i64 a, .string nm] 28 (0, 0))) :
    Calls Tryz.prog 3 #[nodeV t] w fun e w' => e = .returned (.bool true) ∧ Below w.heap.size w w' := by
  have h6 := ht.two
  have hb0 := below1 w (nodeO t)
  have HX : Hid _ := examples_any (w.alloc (nodeO t)) (ht.below (Nat.le_refl _) hb0) ((hb0.cell (p := ⟨0, 0, none⟩) (by show 0 < _; omega)).trans hg)
  have HG : Hid (∀ W, Below w.heap.size w W → W.cell? ⟨0, 0, none⟩ = some (.iface 129 (.agg #[hnd 33]))) := fun W hW => (hW.cell (p := ⟨0, 0, none⟩) (by show 0 < _; omega)).trans hg
  have HIN : Hid (∀ W, Below w.heap.size w W → t.In W.heap.size W) := fun W hW => MT.In.mono hW.size _ (MT.In.below hW t hin)
  have H10 : Hid _ := h10
  have H13 : Hid _ := h13
  have N0 := BoxAt.new w t
  clear h10 h13 ht hg hin
  go_enter Tryz.func3, Tryz.ntmps3
  go_wp2_with fail
  refine Calls.mono HX.out ?_
  clear HX
  rintro e w1 ⟨rfl, hb1⟩
  have hz1 := hb1.size
  simp only [World.size_alloc] at hz1
  have hB1 : Below w.heap.size w w1 := hb0.trans (hb1.mono (by simp))
  have N1 := N0.below (by simp) hb1
  obtain ⟨k0, k1, k2, k3, k4⟩ := N1
  clear hb0 hb1 N0
  have N1 : BoxAt w1 w.heap.size t := ⟨k0, k1, k2, k3, k4⟩
  go_wp2_with fail
  refine Calls.mono (H10.out w1 hB1) ?_
  rintro e w2 ⟨rfl, hb2⟩
  clear k0 k1 k2 k3 k4
  have hz2 := hb2.size
  have hB2 : Below w.heap.size w w2 := hB1.trans (hb2.mono hB1.size)
  have N2 := N1.below (by omega) hb2
  have hb3 := below1 w2 (.cells #[.int .i64 cd, .int .i64 a, .string nm] 28)
  have N3 := N2.below (by omega) hb3
  obtain ⟨k0, k1, k2, k3, k4⟩ := N3
  have hb4 := below2 w2 (.cells #[.int .i64 cd, .int .i64 a, .string nm] 28) (nodeO t)
  have N4 := N2.below (by omega) hb4
  have hw4 : ((w2.alloc (.cells #[.int .i64 cd, .int .i64 a, .string nm] 28)).alloc (nodeO t)).heap[w2.heap.size]? = some (.cells #[.int .i64 cd, .int .i64 a, .string nm] 28 (0, 0)) := ((MapKept.heap_alloc _ _).2 _ (by simp)).trans (heap_alloc_new w2 _)
  have x4 := BoxAt.new (w2.alloc (.cells #[.int .i64 cd, .int .i64 a, .string nm] 28)) t
  rw [World.size_alloc] at x4
  have hx4 : ((w2.alloc (.cells #[.int .i64 cd, .int .i64 a, .string nm] 28)).alloc (nodeO t)).heap[w2.heap.size + 1]? = some (nodeO t) := by
    have := heap_alloc_new (w2.alloc (.cells #[.int .i64 cd, .int .i64 a, .string nm] 28)) (nodeO t)
    rwa [World.size_alloc] at this
  have hB4 : Below w.heap.size w ((w2.alloc (.cells #[.int .i64 cd, .int .i64 a, .string nm] 28)).alloc (nodeO t)) := hB2.trans (hb4.mono hB2.size)
  have hz4 : ((w2.alloc (.cells #[.int .i64 cd, .int .i64 a, .string nm] 28)).alloc (nodeO t)).heap.size = w2.heap.size + 2 := by simp
  have HC : Hid _ := refCount_any t _ (HIN.out _ hB4)
  obtain ⟨j0, j1, j2, j3, j4⟩ := N4
  have N4 : BoxAt ((w2.alloc (.cells #[.int .i64 cd, .int .i64 a, .string nm] 28)).alloc (nodeO t)) w.heap.size t := ⟨j0, j1, j2, j3, j4⟩
  clear hB1 hb2 N1 hb3 hb4 N2
  go_wp2_with fail
  refine Calls.mono HC.out ?_
  clear HC
  rintro e w5 ⟨r, rfl, hr0, hr1, HR, hb5⟩
  have hz5 := hb5.size
  rw [hz4] at hz5
  have hB5 : Below w.heap.size w w5 := hB4.trans (hb5.mono (by omega))
  have N5 := N4.below (by omega) hb5
  have hw5 := (hb5.block w2.heap.size (by omega)).trans hw4
  have hx5 := (hb5.block (w2.heap.size + 1) (by omega)).trans hx4
  clear k0 k1 k2 k3 k4 j0 j1 j2 j3 j4 hw4 hx4 x4 N4 hb5 hB4 hz4
  obtain ⟨k0, k1, k2, k3, k4⟩ := N5
  have N5 : BoxAt w5 w.heap.size t := ⟨k0, k1, k2, k3, k4⟩
  have hr : 30000 < r := by have := HR.out; omega
  have hrd : decide (30000 < r) = true := decide_eq_true hr
  have hw7 := hw5
  have N7 := N5
  have hx7 := hx5
  have hB7 := hB5
  have hz7 : w2.heap.size + 2 ≤ w5.heap.size := hz5
  have hIx := HIN.out w5 hB5
  obtain ⟨w7, hw7e⟩ : ∃ w7, w7 = w5 := ⟨_, rfl⟩
  rw [← hw7e] at hw7 N7 hx7 hB7 hz7 hIx
  have x0 : w5.cell? ⟨w2.heap.size + 1, 0, none⟩ = some (.int .i64 t.kind) := cell_row hx5 0
  have x1 : w5.cell? ⟨w2.heap.size + 1, 1, none⟩ = some (.string t.text) := cell_row hx5 1
  have x2 : w5.cell? ⟨w2.heap.size + 1, 2, none⟩ = some (.int .i64 t.num) := cell_row hx5 2
  have x3 : w5.cell? ⟨w2.heap.size + 1, 3, none⟩ = some (.int .i64 t.at_) := cell_row hx5 3
  have x4 : w5.cell? ⟨w2.heap.size + 1, 4, none⟩ = some (.slice t.ptr t.kids.length t.cap) := cell_row hx5 4
  subst hw7e
  clear hB5 hw5 N5 hx5
  go_wp2_with fail
  refine Calls.mono (H13.out t _ (.inl rfl) hB7 hIx) ?_
  rintro e w8 ⟨hb8, hE8⟩
  obtain ⟨B1, rfl, hB1, hr8⟩ := hE8
  clear x0 x1 x2 x3 x4
  have hz8 := hb8.size
  have hx8 := (hb8.block (w2.heap.size + 1) (by omega)).trans hx7
  have hw8 := (hb8.block w2.heap.size (by omega)).trans hw7
  have N8 := N7.below (by omega) hb8
  have hB8 : Below w.heap.size w w8 := hB7.trans (hb8.mono hB7.size)
  have hIx8 : t.In w8.heap.size w8 := MT.In.mono hz8 _ (MT.In.below hb8 _ hIx)
  have x0 : w8.cell? ⟨w2.heap.size + 1, 0, none⟩ = some (.int .i64 t.kind) := cell_row hx8 0
  have x1 : w8.cell? ⟨w2.heap.size + 1, 1, none⟩ = some (.string t.text) := cell_row hx8 1
  have x2 : w8.cell? ⟨w2.heap.size + 1, 2, none⟩ = some (.int .i64 t.num) := cell_row hx8 2
  have x3 : w8.cell? ⟨w2.heap.size + 1, 3, none⟩ = some (.int .i64 t.at_) := cell_row hx8 3
  have x4 : w8.cell? ⟨w2.heap.size + 1, 4, none⟩ = some (.slice t.ptr t.kids.length t.cap) := cell_row hx8 4
  go_wp2_with fail
  refine Calls.mono (H13.out t _ (.inl rfl) hB8 hIx8) ?_
  rintro e w9 ⟨hb9, hE9⟩
  obtain ⟨B2, rfl, hB2', hr9⟩ := hE9
  clear x0 x1 x2 x3 x4
  have hz9 := hb9.size
  have hx9 := (hb9.block (w2.heap.size + 1) (by omega)).trans hx8
  have hw9 := (hb9.block w2.heap.size (by omega)).trans hw8
  have N9 := N8.below (by omega) hb9
  have hB9 : Below w.heap.size w w9 := hB8.trans (hb9.mono hB8.size)
  obtain ⟨hcl, _⟩ := row_cells hw9
  have v0 := hcl 0
  have v1 := hcl 1
  have v2 := hcl 2
  simp only [List.getElem?_toArray, List.getElem?_cons_zero, List.getElem?_cons_succ] at v0 v1 v2
  have hlt1 := (Array.getElem?_eq_some_iff.1 hr8).1
  have hlt2 := (Array.getElem?_eq_some_iff.1 hr9).1
  have hS1 : Hid _ := says_err B1 cd a hcd nm w9 (by omega) ((hb9.block B1 (by omega)).trans hr8) (HG.out w9 hB9)
  go_wp2_with fail
  refine Calls.mono hS1.out ?_
  clear hS1
  rintro e wa ⟨rfl, hka⟩
  clear v0 v1 v2 hcl
  have hza := hka.size
  have hwa := (hka.below.block w2.heap.size (by omega)).trans hw9
  have hxa := (hka.below.block (w2.heap.size + 1) (by omega)).trans hx9
  have Na := N9.below (B := B1) (by omega) hka.below
  have hBa : Below w.heap.size w wa := hB9.trans (hka.below.mono (by omega))
  obtain ⟨hcl, _⟩ := row_cells hwa
  have v0 := hcl 0
  have v1 := hcl 1
  have v2 := hcl 2
  simp only [List.getElem?_toArray, List.getElem?_cons_zero, List.getElem?_cons_succ] at v0 v1 v2
  have hS2 : Hid _ := says_err B2 cd a hcd nm wa (by omega) ((hka.rest B2 (by omega) (by omega)).trans hr9) (HG.out wa hBa)
  go_wp2_with fail
  refine Calls.mono hS2.out ?_
  clear hS2
  rintro e wb ⟨rfl, hkb⟩
  clear v0 v1 v2 hcl
  have hzb := hkb.size
  have hxb := (hkb.below.block (w2.heap.size + 1) (by omega)).trans hxa
  have Nb := Na.below (B := B2) (by omega) hkb.below
  have hBb : Below w.heap.size w wb := hBa.trans (hkb.below.mono (by omega))
  have HP : Hid (Below w.heap.size w wb) := hBb
  clear hBb hxb Nb
  go_wp2_with fail
  go_ret
  exact ⟨rfl, HP.out⟩

set_option maxRecDepth 100000 in
set_option maxHeartbeats 8000000 in
theorem law_err {gw ow gs os : Nat} (t : MT) (w : World) (ht : TabsAt gw ow gs os w) (hg : w.cell? ⟨0, 0, none⟩ = some (.iface 129 (.agg #[hnd 33]))) (hin : t.In w.heap.size w) (cd a : Int) (nm : ByteArray) (hcd : (cd == 0) = false) 
    (hsz : t.size ≤ 30000) (h10 : ∀ W, Below w.heap.size w W → Calls Tryz.prog 10 #[nodeV t] W fun e w' => e = .returned (.agg #[.int .i64 cd, .int .i64 a, .string nm]) ∧ Below W.heap.size W w')
    (h13 : ∀ x W, (x = t ∨ MT.twin t x) → Below w.heap.size w W → x.In W.heap.size W → Calls Tryz.prog 13 #[nodeV x] W fun e w' => Below W.heap.size W w' ∧ ∃ B, e = .returned (.iface 67 (.pointer (some ⟨B, 0, none⟩))) ∧ W.heap.size ≤ B ∧ w'.heap[B]? = some (.cells #[.int .i64 cd, .int .i64 a, .string nm] 28 (0, 0))) :
    Calls Tryz.prog 3 #[nodeV t] w fun e w' => e = .returned (.bool true) ∧ Below w.heap.size w w' := by
  have h6 := ht.two
  have hb0 := below1 w (nodeO t)
  have HX : Hid _ := examples_any (w.alloc (nodeO t)) (ht.below (Nat.le_refl _) hb0) ((hb0.cell (p := ⟨0, 0, none⟩) (by show 0 < _; omega)).trans hg)
  have HG : Hid (∀ W, Below w.heap.size w W → W.cell? ⟨0, 0, none⟩ = some (.iface 129 (.agg #[hnd 33]))) := fun W hW => (hW.cell (p := ⟨0, 0, none⟩) (by show 0 < _; omega)).trans hg
  have HIN : Hid (∀ W, Below w.heap.size w W → t.In W.heap.size W) := fun W hW => MT.In.mono hW.size _ (MT.In.below hW t hin)
  have H10 : Hid _ := h10
  have H13 : Hid _ := h13
  have N0 := BoxAt.new w t
  clear h10 h13 ht hg hin
  go_enter Tryz.func3, Tryz.ntmps3
  go_wp2_with fail
  refine Calls.mono HX.out ?_
  clear HX
  rintro e w1 ⟨rfl, hb1⟩
  have hz1 := hb1.size
  simp only [World.size_alloc] at hz1
  have hB1 : Below w.heap.size w w1 := hb0.trans (hb1.mono (by simp))
  have N1 := N0.below (by simp) hb1
  obtain ⟨k0, k1, k2, k3, k4⟩ := N1
  clear hb0 hb1 N0
  have N1 : BoxAt w1 w.heap.size t := ⟨k0, k1, k2, k3, k4⟩
  go_wp2_with fail
  refine Calls.mono (H10.out w1 hB1) ?_
  rintro e w2 ⟨rfl, hb2⟩
  clear k0 k1 k2 k3 k4
  have hz2 := hb2.size
  have hB2 : Below w.heap.size w w2 := hB1.trans (hb2.mono hB1.size)
  have N2 := N1.below (by omega) hb2
  have hb3 := below1 w2 (.cells #[.int .i64 cd, .int .i64 a, .string nm] 28)
  have N3 := N2.below (by omega) hb3
  obtain ⟨k0, k1, k2, k3, k4⟩ := N3
  have hb4 := below2 w2 (.cells #[.int .i64 cd, .int .i64 a, .string nm] 28) (nodeO t)
  have N4 := N2.below (by omega) hb4
  have hw4 : ((w2.alloc (.cells #[.int .i64 cd, .int .i64 a, .string nm] 28)).alloc (nodeO t)).heap[w2.heap.size]? = some (.cells #[.int .i64 cd, .int .i64 a, .string nm] 28 (0, 0)) := ((MapKept.heap_alloc _ _).2 _ (by simp)).trans (heap_alloc_new w2 _)
  have x4 := BoxAt.new (w2.alloc (.cells #[.int .i64 cd, .int .i64 a, .string nm] 28)) t
  rw [World.size_alloc] at x4
  have hx4 : ((w2.alloc (.cells #[.int .i64 cd, .int .i64 a, .string nm] 28)).alloc (nodeO t)).heap[w2.heap.size + 1]? = some (nodeO t) := by
    have := heap_alloc_new (w2.alloc (.cells #[.int .i64 cd, .int .i64 a, .string nm] 28)) (nodeO t)
    rwa [World.size_alloc] at this
  have hB4 : Below w.heap.size w ((w2.alloc (.cells #[.int .i64 cd, .int .i64 a, .string nm] 28)).alloc (nodeO t)) := hB2.trans (hb4.mono hB2.size)
  have hz4 : ((w2.alloc (.cells #[.int .i64 cd, .int .i64 a, .string nm] 28)).alloc (nodeO t)).heap.size = w2.heap.size + 2 := by simp
  have HC : Hid _ := refCount_any t _ (HIN.out _ hB4)
  obtain ⟨j0, j1, j2, j3, j4⟩ := N4
  have N4 : BoxAt ((w2.alloc (.cells #[.int .i64 cd, .int .i64 a, .string nm] 28)).alloc (nodeO t)) w.heap.size t := ⟨j0, j1, j2, j3, j4⟩
  clear hB1 hb2 N1 hb3 hb4 N2
  go_wp2_with fail
  refine Calls.mono HC.out ?_
  clear HC
  rintro e w5 ⟨r, rfl, hr0, hr1, HR, hb5⟩
  have hz5 := hb5.size
  rw [hz4] at hz5
  have hB5 : Below w.heap.size w w5 := hB4.trans (hb5.mono (by omega))
  have N5 := N4.below (by omega) hb5
  have hw5 := (hb5.block w2.heap.size (by omega)).trans hw4
  have hx5 := (hb5.block (w2.heap.size + 1) (by omega)).trans hx4
  clear k0 k1 k2 k3 k4 j0 j1 j2 j3 j4 hw4 hx4 x4 N4 hb5 hB4 hz4
  obtain ⟨k0, k1, k2, k3, k4⟩ := N5
  have N5 : BoxAt w5 w.heap.size t := ⟨k0, k1, k2, k3, k4⟩
  have hr : ¬ 30000 < r := by have := HR.out; omega
  have hrd : decide (30000 < r) = false := decide_eq_false hr
  have HT : Hid _ := twinM_any 30000 (Nat.le_refl _) t w5 hsz (HIN.out w5 hB5)
  go_wp2_with fail
  refine Calls.mono HT.out ?_
  clear HT
  rintro e w6 ⟨t', rfl, HTW, HAM, _, hb6⟩
  clear k0 k1 k2 k3 k4
  have hz6 := hb6.size
  have hx6 := (hb6.block (w2.heap.size + 1) (by omega)).trans hx5
  obtain ⟨w7, hw7e⟩ : ∃ w7, w7 = set5W w6 (w2.heap.size + 1) 0 (.int .i64 t'.kind) (.string t'.text) (.int .i64 t'.num) (.int .i64 t'.at_) (.slice t'.ptr t'.kids.length t'.cap) := ⟨_, rfl⟩
  have hS7 : w7.heap.size = w6.heap.size := by rw [hw7e]; exact set5W_size _ _ _ _ _ _ _ _
  have hx7 : w7.heap[w2.heap.size + 1]? = some (nodeO t') := by rw [hw7e]; exact heap_set (heap_set (heap_set (heap_set (heap_set hx6 0 _) 1 _) 2 _) 3 _) 4 _
  have hK7 : Chk (w2.heap.size + 1) w6 w7 := by
    rw [hw7e]
    exact ((((Chk.setAt _ 0 _ _).trans (Chk.setAt _ 1 _ _)).trans (Chk.setAt _ 2 _ _)).trans (Chk.setAt _ 3 _ _)).trans (Chk.setAt _ 4 _ _)
  have e7 : ((((w6.setCell ⟨w2.heap.size + 1, 0, none⟩ (.int .i64 t'.kind)).setCell ⟨w2.heap.size + 1, 1, none⟩ (.string t'.text)).setCell ⟨w2.heap.size + 1, 2, none⟩ (.int .i64 t'.num)).setCell ⟨w2.heap.size + 1, 3, none⟩ (.int .i64 t'.at_)).setCell ⟨w2.heap.size + 1, 4, none⟩ (.slice t'.ptr t'.kids.length t'.cap) = w7 := hw7e.symm
  have hw7 := (hK7.below.block w2.heap.size (by omega)).trans ((hb6.block w2.heap.size (by omega)).trans hw5)
  have N7 := (N5.below (by omega) hb6).below (B := w2.heap.size + 1) (by omega) hK7.below
  have hB7 : Below w.heap.size w w7 := (hB5.trans (hb6.mono hB5.size)).trans (hK7.below.mono (by omega))
  have hz7 : w2.heap.size + 2 ≤ w7.heap.size := by omega
  have hAM7 : t'.AM (fun b => b < w7.heap.size) w7 := MT.AM.keep (fun b hb => by omega) (fun k o hk => World.cell?_of_block (a := ⟨k, o, none⟩) (hK7.rest k (by omega) (by omega))) t' HAM.out
  have hIx := MT.At.toIn (fun b hb => hb) t' hAM7.1
  have HXT : Hid (t' = t ∨ MT.twin t t') := .inr HTW.out
  obtain ⟨hcl, hfl⟩ := row_cells hx6
  have y0 := hcl 0
  have y1 := hcl 1
  have y2 := hcl 2
  have y3 := hcl 3
  have y4 := hcl 4
  have g0 := hfl 0
  have g1 := hfl 1
  have g2 := hfl 2
  have g3 := hfl 3
  have g4 := hfl 4
  simp only [List.getElem?_toArray, List.getElem?_cons_zero, List.getElem?_cons_succ] at y0 y1 y2 y3 y4
  have x0 : w7.cell? ⟨w2.heap.size + 1, 0, none⟩ = some (.int .i64 t'.kind) := cell_row hx7 0
  have x1 : w7.cell? ⟨w2.heap.size + 1, 1, none⟩ = some (.string t'.text) := cell_row hx7 1
  have x2 : w7.cell? ⟨w2.heap.size + 1, 2, none⟩ = some (.int .i64 t'.num) := cell_row hx7 2
  have x3 : w7.cell? ⟨w2.heap.size + 1, 3, none⟩ = some (.int .i64 t'.at_) := cell_row hx7 3
  have x4 : w7.cell? ⟨w2.heap.size + 1, 4, none⟩ = some (.slice t'.ptr t'.kids.length t'.cap) := cell_row hx7 4
  clear hw7e hcl hfl hw5 hx5 hx6 N5 hK7 HAM hb6 hB5
  go_wp2_with fail
  refine Calls.mono (H13.out t' _ HXT.out hB7 hIx) ?_
  rintro e w8 ⟨hb8, hE8⟩
  obtain ⟨B1, rfl, hB1, hr8⟩ := hE8
  clear x0 x1 x2 x3 x4 y0 y1 y2 y3 y4 g0 g1 g2 g3 g4 e7
  have hz8 := hb8.size
  have hx8 := (hb8.block (w2.heap.size + 1) (by omega)).trans hx7
  have hw8 := (hb8.block w2.heap.size (by omega)).trans hw7
  have N8 := N7.below (by omega) hb8
  have hB8 : Below w.heap.size w w8 := hB7.trans (hb8.mono hB7.size)
  have hIx8 : t'.In w8.heap.size w8 := MT.In.mono hz8 _ (MT.In.below hb8 _ hIx)
  have x0 : w8.cell? ⟨w2.heap.size + 1, 0, none⟩ = some (.int .i64 t'.kind) := cell_row hx8 0
  have x1 : w8.cell? ⟨w2.heap.size + 1, 1, none⟩ = some (.string t'.text) := cell_row hx8 1
  have x2 : w8.cell? ⟨w2.heap.size + 1, 2, none⟩ = some (.int .i64 t'.num) := cell_row hx8 2
  have x3 : w8.cell? ⟨w2.heap.size + 1, 3, none⟩ = some (.int .i64 t'.at_) := cell_row hx8 3
  have x4 : w8.cell? ⟨w2.heap.size + 1, 4, none⟩ = some (.slice t'.ptr t'.kids.length t'.cap) := cell_row hx8 4
  go_wp2_with fail
  refine Calls.mono (H13.out t' _ HXT.out hB8 hIx8) ?_
  rintro e w9 ⟨hb9, hE9⟩
  obtain ⟨B2, rfl, hB2', hr9⟩ := hE9
  clear x0 x1 x2 x3 x4
  have hz9 := hb9.size
  have hx9 := (hb9.block (w2.heap.size + 1) (by omega)).trans hx8
  have hw9 := (hb9.block w2.heap.size (by omega)).trans hw8
  have N9 := N8.below (by omega) hb9
  have hB9 : Below w.heap.size w w9 := hB8.trans (hb9.mono hB8.size)
  obtain ⟨hcl, _⟩ := row_cells hw9
  have v0 := hcl 0
  have v1 := hcl 1
  have v2 := hcl 2
  simp only [List.getElem?_toArray, List.getElem?_cons_zero, List.getElem?_cons_succ] at v0 v1 v2
  have hlt1 := (Array.getElem?_eq_some_iff.1 hr8).1
  have hlt2 := (Array.getElem?_eq_some_iff.1 hr9).1
  have hS1 : Hid _ := says_err B1 cd a hcd nm w9 (by omega) ((hb9.block B1 (by omega)).trans hr8) (HG.out w9 hB9)
  go_wp2_with fail
  refine Calls.mono hS1.out ?_
  clear hS1
  rintro e wa ⟨rfl, hka⟩
  clear v0 v1 v2 hcl
  have hza := hka.size
  have hwa := (hka.below.block w2.heap.size (by omega)).trans hw9
  have hxa := (hka.below.block (w2.heap.size + 1) (by omega)).trans hx9
  have Na := N9.below (B := B1) (by omega) hka.below
  have hBa : Below w.heap.size w wa := hB9.trans (hka.below.mono (by omega))
  obtain ⟨hcl, _⟩ := row_cells hwa
  have v0 := hcl 0
  have v1 := hcl 1
  have v2 := hcl 2
  simp only [List.getElem?_toArray, List.getElem?_cons_zero, List.getElem?_cons_succ] at v0 v1 v2
  have hS2 : Hid _ := says_err B2 cd a hcd nm wa (by omega) ((hka.rest B2 (by omega) (by omega)).trans hr9) (HG.out wa hBa)
  go_wp2_with fail
  refine Calls.mono hS2.out ?_
  clear hS2
  rintro e wb ⟨rfl, hkb⟩
  clear v0 v1 v2 hcl
  have hzb := hkb.size
  have hxb := (hkb.below.block (w2.heap.size + 1) (by omega)).trans hxa
  have Nb := Na.below (B := B2) (by omega) hkb.below
  have hBb : Below w.heap.size w wb := hBa.trans (hkb.below.mono (by omega))
  have hAMb : t'.AM (fun b => b < wb.heap.size) wb := MT.AM.keep (fun b hb => by omega) (fun k o hk => World.cell?_of_block (a := ⟨k, o, none⟩) ((hkb.below.block k (by omega)).trans ((hka.below.block k (by omega)).trans ((hb9.block k (by omega)).trans (hb8.block k (by omega)))))) t' hAM7
  have x0 : wb.cell? ⟨w2.heap.size + 1, 0, none⟩ = some (.int .i64 t'.kind) := cell_row hxb 0
  have x1 : wb.cell? ⟨w2.heap.size + 1, 1, none⟩ = some (.string t'.text) := cell_row hxb 1
  have x2 : wb.cell? ⟨w2.heap.size + 1, 2, none⟩ = some (.int .i64 t'.num) := cell_row hxb 2
  have x3 : wb.cell? ⟨w2.heap.size + 1, 3, none⟩ = some (.int .i64 t'.at_) := cell_row hxb 3
  have x4 : wb.cell? ⟨w2.heap.size + 1, 4, none⟩ = some (.slice t'.ptr t'.kids.length t'.cap) := cell_row hxb 4
  obtain ⟨k0, k1, k2, k3, k4⟩ := Nb
  have HS : Hid _ := still_any t.size t t' wb (Nat.le_refl _) HTW.out hAMb (HIN.out wb hBb)
  go_wp2_with fail
  refine Calls.mono HS.out ?_
  clear HS
  rintro e wc ⟨rfl, hbc⟩
  have HP : Hid (Below w.heap.size w wc) := hBb.trans (hbc.mono hBb.size)
  clear hBb hxb hbc x0 x1 x2 x3 x4 k0 k1 k2 k3 k4
  go_wp2_with fail
  go_ret
  exact ⟨rfl, HP.out⟩

theorem rightLaw_any {gw ow gs os : Nat} (t : MT) (w : World) (ht : TabsAt gw ow gs os w) (hg : w.cell? ⟨0, 0, none⟩ = some (.iface 129 (.agg #[hnd 33]))) (hin : t.In w.heap.size w) :
    Calls Tryz.prog 3 #[nodeV t] w fun e w' => e = .returned (.bool true) ∧ Below w.heap.size w w' := by
  have H10 : ∀ W, Below w.heap.size w W → Calls Tryz.prog 10 #[nodeV t] W fun e w' => e = .returned (retR (rightSpec t)) ∧ Below W.heap.size W w' := fun W hW => refRight_any t W (MT.In.mono hW.size _ (MT.In.below hW t hin))
  have H13 : ∀ x W, (x = t ∨ MT.twin t x) → Below w.heap.size w W → x.In W.heap.size W → Calls Tryz.prog 13 #[nodeV x] W (RightP W (rightSpec x)) := fun x W _ hW hx => right_any x W (ht.below (Nat.le_refl _) hW) hx
  have hq : ∀ x, (x = t ∨ MT.twin t x) → eqR (rightSpec t) (rightSpec x) := fun x hx => by
    rcases hx with rfl | hx
    · rcases rightSpec x with ⟨c, y⟩ | b
      · exact ⟨rfl, rfl, rfl⟩
      · exact rfl
    · exact right_tw hx
  cases hs : rightSpec t with
  | ok b =>
    rw [hs] at H10 hq
    have H13' : ∀ x W, (x = t ∨ MT.twin t x) → Below w.heap.size w W → x.In W.heap.size W → Calls Tryz.prog 13 #[nodeV x] W fun e w' => Below W.heap.size W w' ∧ e = .returned .nilIface := fun x W hx hW hI =>
      (H13 x W hx hW hI).mono fun e w' h => by
        have h2 := hq x hx
        cases hx' : rightSpec x with
        | error e' => rw [hx'] at h2; exact h2.elim
        | ok b' => rw [hx'] at h; exact h
    by_cases hz : 30000 < t.size
    · exact law_ok_big t w ht hg hin hz H10 H13'
    · exact law_ok t w ht hg hin (by omega) H10 H13'
  | error e =>
    obtain ⟨code, y⟩ := e
    have hcd := right_code hs
    rw [hs] at H10 hq
    have H13' : ∀ x W, (x = t ∨ MT.twin t x) → Below w.heap.size w W → x.In W.heap.size W → Calls Tryz.prog 13 #[nodeV x] W fun e w' => Below W.heap.size W w' ∧ ∃ B, e = .returned (.iface 67 (.pointer (some ⟨B, 0, none⟩))) ∧ W.heap.size ≤ B ∧ w'.heap[B]? = some (.cells #[.int .i64 (code : Nat), .int .i64 y.at_, .string (toldName y.text)] 28 (0, 0)) := fun x W hx hW hI =>
      (H13 x W hx hW hI).mono fun e w' h => by
        have h2 := hq x hx
        cases hx' : rightSpec x with
        | error e' =>
          obtain ⟨c', y'⟩ := e'
          rw [hx'] at h2 h
          obtain ⟨e1, e2, e3⟩ := h2
          simp only at e1 e2 e3
          rw [e1, e2, e3]
          exact h
        | ok b' => rw [hx'] at h2; exact h2.elim
    have hc0 : (((code : Nat) : Int) == 0) = false := by simp; omega
    by_cases hz : 30000 < t.size
    · exact law_err_big t w ht hg hin _ _ _ hc0 hz H10 H13'
    · exact law_err t w ht hg hin _ _ _ hc0 (by omega) H10 H13'
end Go.Proofs.YthbnegggohegkaaGreatDoor
