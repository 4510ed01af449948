/-
  The walk of the law TreeKids.
-/
import Derived.Test.YthbnegggohegkaaGreatDoorGsJ
import Derived.Test.YthbnegggohegkaaGreatDoorEx
namespace Go.Proofs.YthbnegggohegkaaGreatDoor
open Go.RowKit

set_option maxRecDepth 100000 in
set_option maxHeartbeats 4000000 in
theorem kids_bad {gw ow gs os : Nat} (k : Int) (s : ByteArray) (n a : Int) (p : Option Addr) (m c : Nat) (w : World) (ht : TabsAt gw ow gs os w) (hg : w.cell? ⟨0, 0, none⟩ = some (.iface 129 (.agg #[hnd 33]))) (x : Nat × MT)
    (hr : ∀ W, Below w.heap.size w W → Calls Tryz.prog 13 #[.agg (nd k s n a p m c)] W (RightP W (.error x))) :
    Calls Tryz.prog 6 #[.agg (nd k s n a p m c)] w fun e w' => e = .returned (.bool true) ∧ Below w.heap.size w w' := by
  have HR : Hid _ := hr
  clear hr
  have hb1 := below1 w (.cells (nd k s n a p m c) 24)
  have N0 := CellsOf.new w (nd k s n a p m c) 24
  go_enter Tryz.func6, Tryz.ntmps6
  go_wp2_with fail
  refine (examples_any _ (ht.below (Nat.le_refl _) hb1) ((hb1.cell (p := ⟨0, 0, none⟩) (by have := ht.two; show 0 < _; omega)).trans hg)).mono ?_
  rintro e w1 ⟨rfl, hb2⟩
  have hz2 := hb2.size
  simp only [World.size_alloc] at hz2
  have hB2 : Below w.heap.size w w1 := hb1.trans (hb2.mono (by simp))
  have N2 := N0.below (by simp) hb2
  have n0 := N2 0 _ rfl
  have n1 := N2 1 _ rfl
  have n2 := N2 2 _ rfl
  have n3 := N2 3 _ rfl
  have n4 := N2 4 _ rfl
  go_wp2_with fail
  refine (HR.out w1 hB2).mono ?_
  rintro e w2 ⟨hb3, hres⟩
  obtain ⟨B, rfl, _, _⟩ := hres
  have HE : Hid (Below w.heap.size w w2) := hB2.trans (hb3.mono hB2.size)
  clear n0 n1 n2 n3 n4 hb3 hB2 hb2 N0 N2 hb1
  go_wp2_with fail
  go_ret
  exact ⟨rfl, HE.out⟩

set_option maxRecDepth 100000 in
set_option maxHeartbeats 4000000 in
theorem kids_case {gw ow gs os : Nat} (s : ByteArray) (n a : Int) (b o c : Nat) (y : MT) (w : World) (ht : TabsAt gw ow gs os w) (hg : w.cell? ⟨0, 0, none⟩ = some (.iface 129 (.agg #[hnd 33]))) (r1 r2 : Nat)
    (hr : ∀ W, Below w.heap.size w W → Calls Tryz.prog 13 #[.agg (nd 27 s n a (some ⟨b, o, none⟩) 2 c)] W (RightP W (.ok r1))) (hb : b < w.heap.size) (hy : MT.CellsAt w b (o + 5) y) (hry : ∀ W, Below w.heap.size w W → Calls Tryz.prog 13 #[nodeV y] W (RightP W (.ok r2))) :
    Calls Tryz.prog 6 #[.agg (nd 27 s n a (some ⟨b, o, none⟩) 2 c)] w fun e w' => e = .returned (.bool true) ∧ Below w.heap.size w w' := by
  have HR : Hid _ := hr
  clear hr
  have HY : Hid _ := hry
  clear hry
  have hb1 := below1 w (.cells (nd 27 s n a (some ⟨b, o, none⟩) 2 c) 24)
  have N0 := CellsOf.new w (nd 27 s n a (some ⟨b, o, none⟩) 2 c) 24
  go_enter Tryz.func6, Tryz.ntmps6
  go_wp2_with fail
  refine (examples_any _ (ht.below (Nat.le_refl _) hb1) ((hb1.cell (p := ⟨0, 0, none⟩) (by have := ht.two; show 0 < _; omega)).trans hg)).mono ?_
  rintro e w1 ⟨rfl, hb2⟩
  have hz2 := hb2.size
  simp only [World.size_alloc] at hz2
  have hB2 : Below w.heap.size w w1 := hb1.trans (hb2.mono (by simp))
  have N2 := N0.below (by simp) hb2
  have n0 := N2 0 _ rfl
  have n1 := N2 1 _ rfl
  have n2 := N2 2 _ rfl
  have n3 := N2 3 _ rfl
  have n4 := N2 4 _ rfl
  go_wp2_with fail
  refine (HR.out w1 hB2).mono ?_
  rintro e w2 ⟨hb3, hres⟩
  obtain rfl := hres
  have hB3 : Below w.heap.size w w2 := hB2.trans (hb3.mono hB2.size)
  have N3 := N2.below (by omega) hb3
  have m0 := N3 0 _ rfl
  have m4 := N3 4 _ rfl
  obtain ⟨y0, y1, y2, y3, y4⟩ := hy.below hb hB3
  have hz3 := hb3.size
  clear n0 n1 n2 n3 n4 hb3 hB2 hb2 N0 N2 hb1 N3
  go_wp2_with fail
  refine (HY.out w2 hB3).mono ?_
  rintro e w3 ⟨hb4, hres⟩
  obtain rfl := hres
  have HE : Hid (Below w.heap.size w w3) := hB3.trans (hb4.mono hB3.size)
  clear m0 m4 y0 y1 y2 y3 y4 hb4 hB3
  go_wp2_with fail
  go_ret
  exact ⟨rfl, HE.out⟩

set_option maxRecDepth 100000 in
set_option maxHeartbeats 4000000 in
theorem kids_loop {gw ow gs os : Nat} (k : Int) (h27 : (k == 27) = false) (s : ByteArray) (n a : Int) (p : Option Addr) (c : Nat) (ks : List MT) (w : World) (ht : TabsAt gw ow gs os w) (hg : w.cell? ⟨0, 0, none⟩ = some (.iface 129 (.agg #[hnd 33]))) (r1 : Nat)
    (hin : (MT.node k s n a p c ks).In w.heap.size w) (hr : ∀ W, Below w.heap.size w W → Calls Tryz.prog 13 #[.agg (nd k s n a p ks.length c)] W (RightP W (.ok r1)))
    (hry : ∀ W y, y ∈ ks → Below w.heap.size w W → ∃ r2, Calls Tryz.prog 13 #[nodeV y] W (RightP W (.ok r2))) :
    Calls Tryz.prog 6 #[.agg (nd k s n a p ks.length c)] w fun e w' => e = .returned (.bool true) ∧ Below w.heap.size w w' := by
  have HR : Hid _ := hr
  clear hr
  have HY : Hid _ := hry
  clear hry
  have hcap := hin.cap_le
  have hlc := hin.len_le
  have hL := hin.kidsL
  simp only [MT.cap_node, MT.kids_node, MT.ptr_node] at hcap hlc hL
  unfold maxLen at hcap
  clear hin
  have hb1 := below1 w (.cells (nd k s n a p ks.length c) 24)
  have N0 := CellsOf.new w (nd k s n a p ks.length c) 24
  go_enter Tryz.func6, Tryz.ntmps6
  go_wp2_with fail
  refine (examples_any _ (ht.below (Nat.le_refl _) hb1) ((hb1.cell (p := ⟨0, 0, none⟩) (by have := ht.two; show 0 < _; omega)).trans hg)).mono ?_
  rintro e w1 ⟨rfl, hb2⟩
  have hz2 := hb2.size
  simp only [World.size_alloc] at hz2
  have hB2 : Below w.heap.size w w1 := hb1.trans (hb2.mono (by simp))
  have N2 := N0.below (by simp) hb2
  have n0 := N2 0 _ rfl
  have n1 := N2 1 _ rfl
  have n2 := N2 2 _ rfl
  have n3 := N2 3 _ rfl
  have n4 := N2 4 _ rfl
  go_wp2_with fail
  refine (HR.out w1 hB2).mono ?_
  rintro e w2 ⟨hb3, hres⟩
  obtain rfl := hres
  have hB3 : Below w.heap.size w w2 := hB2.trans (hb3.mono hB2.size)
  have N3 := N2.below (by omega) hb3
  have m0 := N3 0 _ rfl
  have hz3 := hb3.size
  clear n0 n1 n2 n3 n4 hb3 hB2 hb2 N0 N2 hb1
  go_wp2_with fail
  clear m0
  go_loopg [5] ks.length (fun gk i wr => ∃ j : Nat, gk + j = ks.length ∧ i = .int .i64 j ∧ Below w.heap.size w wr ∧ w.heap.size < wr.heap.size ∧ CellsOf wr w.heap.size (nd k s n a p ks.length c))
  case atStart => exact ⟨0, rfl, rfl, hB3, by omega, N3⟩
  case round =>
    obtain ⟨j, hj, rfl, hb, hz, hN⟩ := hrel
    clear N3 hB3
    have m4 := hN 4 _ rfl
    by_cases hlt : j < ks.length
    · obtain ⟨b, o, rfl, hbB, hL0⟩ := hL.resolve_left (fun h => by rw [h] at hlt; simp at hlt)
      obtain ⟨⟨c0, c1, c2, c3, c4⟩, _⟩ := (MT.InL.below hb b o hbB ks hL0).get j hlt
      obtain ⟨r2, hC⟩ := HY.out wr ks[j] (List.getElem_mem hlt) hb
      generalize ks[j] = y at c0 c1 c2 c3 c4 hC
      have HC : Hid (Calls Tryz.prog 13 #[nodeV y] wr (RightP wr (.ok r2))) := hC
      have hbw : b < wr.heap.size := by omega
      have HJ : Hid (gk + j = ks.length) := hj
      clear hj hL0 hL hC
      go_wp2_with fail
      refine Calls.mono HC.out ?_
      rintro e w3 ⟨hb4, hres⟩
      obtain rfl := hres
      have HE : Hid (Below w.heap.size w w3 ∧ w.heap.size < w3.heap.size ∧ CellsOf w3 w.heap.size (nd k s n a (some ⟨b, o, none⟩) ks.length c)) := ⟨hb.trans (hb4.mono hb.size), by have := hb4.size; omega, hN.below hz hb4⟩
      clear c0 c1 c2 c3 c4 m4 hb4 hN
      go_wp2_with fail
      go_roundg (ks.length - (j + 1))
      case measure => have := HJ.out; omega
      case rel => exact ⟨j + 1, by omega, by go_num, HE.out.1, HE.out.2.1, HE.out.2.2⟩
    · clear hj hL
      go_wp2_with fail
      go_ret
      exact ⟨rfl, hb⟩

theorem two_of_length {α : Type} : ∀ {l : List α}, l.length = 2 → ∃ x y, l = [x, y]
  | [x, y], _ => ⟨x, y, rfl⟩

theorem kidsLaw_any {gw ow gs os : Nat} (t : MT) (w : World) (ht : TabsAt gw ow gs os w) (hg : w.cell? ⟨0, 0, none⟩ = some (.iface 129 (.agg #[hnd 33]))) (hin : t.In w.heap.size w) :
    Calls Tryz.prog 6 #[nodeV t] w fun e w' => e = .returned (.bool true) ∧ Below w.heap.size w w' := by
  have hR : ∀ W, Below w.heap.size w W → Calls Tryz.prog 13 #[nodeV t] W (RightP W (rightSpec t)) := fun W hW => right_any t W (ht.below (Nat.le_refl _) hW) (MT.In.mono hW.size t (MT.In.below hW t hin))
  cases hs : rightSpec t with
  | error x =>
    rw [hs] at hR
    exact kids_bad t.kind t.text t.num t.at_ t.ptr t.kids.length t.cap w ht hg x hR
  | ok r1 =>
    obtain ⟨k1, k2⟩ := kids_right t r1 hs
    rw [hs] at hR
    have hkin : ∀ y ∈ t.kids, y.In w.heap.size w := fun y hy => by
      obtain ⟨j, hj, rfl⟩ := List.getElem_of_mem hy
      obtain ⟨b, o, _, _, hL⟩ := hin.kidsL.resolve_left (fun h => by rw [h] at hj; simp at hj)
      exact (hL.get j hj).2
    have hRy : ∀ y ∈ t.kids, ∀ W, Below w.heap.size w W → Calls Tryz.prog 13 #[nodeV y] W (RightP W (rightSpec y)) := fun y hy W hW => right_any y W (ht.below (Nat.le_refl _) hW) (MT.In.mono hW.size y (MT.In.below hW y (hkin y hy)))
    obtain ⟨k, s, n, a, p, c, ks⟩ := t
    cases h27 : k == 27 with
    | true =>
      obtain rfl : k = 27 := eq_of_beq h27
      obtain ⟨hl, h2⟩ := k2 (MT.kind_node 27 s n a p c ks)
      have hL := hin.kidsL
      simp only [MT.kids_node, MT.ptr_node] at hl h2 hL hRy
      obtain ⟨x, y, rfl⟩ := two_of_length hl
      clear hs k1 k2
      obtain ⟨r2, e2⟩ := h2 y (by simp)
      obtain ⟨b, o, rfl, hb, hL⟩ := hL.resolve_left (by simp)
      rw [MT.InL, MT.InL] at hL
      exact kids_case s n a b o c y w ht hg r1 r2 hR hb hL.2.2.1 (fun W hW => by have := hRy y (by simp) W hW; rwa [e2] at this)
    | false =>
      have hne : k ≠ 27 := ne_of_beq_false h27
      exact kids_loop k h27 s n a p c ks w ht hg r1 hin hR (fun W y hy hW => by
        obtain ⟨r2, e2⟩ := k1 hne y hy
        have := hRy y hy W hW
        rw [e2] at this
        exact ⟨r2, this⟩)
end Go.Proofs.YthbnegggohegkaaGreatDoor
