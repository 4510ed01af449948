/-
  Loops over something.
-/
import Derived.Test.YthbnegggohegkaaGreatDoorWgJ
namespace Go.Proofs.YthbnegggohegkaaGreatDoor
open Go.RowKit
variable {pb base L : Nat} {s : PS} {v : Value} {w w' : World}
def itemS (y : MT) : ByteArray := if y.kind = 16 then ⟨#[95]⟩ else y.text
set_option maxRecDepth 100000 in
set_option maxHeartbeats 2000000 in
theorem item_any (y : MT) (w : World) : Calls Tryz.prog 136 #[nodeV y] w fun e w' => e = .returned (.string (itemS y)) ∧ Below w.heap.size w w' := by
  by_cases h : y.kind = 16
  · have e1 : itemS y = ⟨#[95]⟩ := by unfold itemS; rw [if_pos h]
    rw [e1]
    go_enter Tryz.func136, Tryz.ntmps136
    go_wp2_with fail
    go_ret
    exact ⟨rfl, below1 _ _⟩
  · have e1 : itemS y = y.text := by unfold itemS; rw [if_neg h]
    rw [e1]
    have h2 : (y.kind == 16) = false := by simpa using h
    go_enter Tryz.func136, Tryz.ntmps136
    go_wp2_with fail
    go_ret
    exact ⟨rfl, below1 _ _⟩
set_option maxRecDepth 100000 in
set_option maxHeartbeats 4000000 in
theorem loop_24s  {t : ByteArray} {n : Int} {a : Int} {p : Option Addr} {c : Nat} {y0 y1 y2 y3 : MT}  {gl g2 g3 : PS → PS} (hl : Wf 135 pb base L (.node 24 t n a p c [y0, y1, y2, y3]) gl) (hs0 : (itemS y0).size ≤ 4000000000) (hk : (y1.kind == 16) = false) (hs1 : (itemS y1).size ≤ 4000000000) (h2 : Wf 134 pb base L y2 g2) (h3 : Wf 102 pb base L y3 g3) (hpb : pb < base) : Wf 105 pb base L (.node 24 t n a p c [y0, y1, y2, y3]) (fun s => (g3 (putS [⟨#[32]⟩] (g2 (putS [⟨#[32, 105, 110, 32]⟩] (putS [⟨#[44, 32]⟩, itemS y1] (putS [⟨#[32]⟩, itemS y0] (putS [⟨#[102, 111, 114]⟩] (gl s))))))))) := by
  intro s v w hi hP hB hin
  have hkk := hin.kidsL
  simp only [MT.kids_node, MT.ptr_node] at hkk
  rcases hkk with hkk | ⟨b, o, rfl, hbp, hL⟩
  · cases hkk
  have Hhl : Hid _ := hl
  clear hl
  have Hh2 : Hid _ := h2
  clear h2
  have Hh3 : Hid _ := h3
  clear h3
  have Hhk : Hid _ := hk
  clear hk
  have hb0 : Below w.heap.size w (w.alloc (.cells #[.int .i64 24, .string t, .int .i64 n, .int .i64 a, .slice (some ⟨b, o, none⟩) 4 c] 24)) := below1 _ _
  have hP0 := hP.below hb0
  have hK0 : PK pb base w _ := PK.of (pb := pb) hb0 hB
  have HI0 : Hid _ := In.pk hin hK0 hpb
  have nd0 := heap_alloc_new w (.cells #[.int .i64 24, .string t, .int .i64 n, .int .i64 a, .slice (some ⟨b, o, none⟩) 4 c] 24)
  have HL0 : Hid (MT.InL pb _ b o [y0, y1, y2, y3]) := MT.InL.below (hb0.mono (by omega)) b o hbp _ hL
  have hz0 := lt_of nd0
  have HD0 : Hid (_ ∧ _ ∧ _) := ⟨hP0, hK0, nd0⟩
  have hbz : b < w.heap.size := by omega
  clear hP hin hb0 hP0 hK0 nd0 hL
  rw [nv4]
  go_enter Tryz.func105, Tryz.ntmps105
  go_wp2_with fail
  have HIT0 : Hid _ := item_any y0
  have HIT1 : Hid _ := item_any y1
  refine (Hhl.out _ _ _ (Nat.le_trans (Nat.le_of_eq (Eq.refl s.ind)) hi) HD0.out.1 (Nat.le_trans hB HD0.out.2.1.size) HI0.out).mono ?_
  rintro e w1 ⟨⟨u1, rfl⟩, v1, hP1, hi1, hk1⟩
  have HJ1 : Hid ((gl s).ind = s.ind) := hi1.trans (Eq.refl s.ind)
  clear hi1
  have hK1 : PK pb base w w1 := HD0.out.2.1.trans hk1
  have nd1 := hk1.high (w.heap.size) _ _ _ (by omega) HD0.out.2.2 (by decide)
  have HI1 : Hid _ := In.pk HI0.out hk1 hpb
  have HL1 : Hid (MT.InL pb w1 b o [y0, y1, y2, y3]) := MT.InL.below (hk1.below (by omega) (Nat.le_refl _)) b o hbp _ HL0.out
  have hz1 := lt_of nd1
  have HD1 : Hid (_ ∧ _ ∧ _) := ⟨hP1, hK1, nd1⟩
  obtain ⟨k0, k1, k2, k3, k4⟩ := cells5 nd1
  have hbz1 : b < w1.heap.size := by omega
  clear hP1 hK1 nd1 hk1 HD0 HI0 HL0
  go_wp2_with fail
  refine (putc [⟨#[102, 111, 114]⟩] HD1.out.1 hpb (Nat.le_trans hB HD1.out.2.1.size) (al_cons (by decide) al_nil) (by simp) (by first | rfl | simp)).mono ?_
  rintro e w2 ⟨⟨u2, rfl⟩, v2, hP2, hk2⟩
  have HJ2 : Hid ((putS [⟨#[102, 111, 114]⟩] (gl s)).ind = s.ind) := (putS_ind _ _).trans HJ1.out
  have hK2 : PK pb base w w2 := HD1.out.2.1.trans hk2
  have nd2 := hk2.high (w.heap.size) _ _ _ (by omega) HD1.out.2.2 (by decide)
  have HI2 : Hid _ := In.pk HI1.out hk2 hpb
  have HL2 : Hid (MT.InL pb w2 b o [y0, y1, y2, y3]) := MT.InL.below (hk2.below (by omega) (Nat.le_refl _)) b o hbp _ HL1.out
  have hz2 := lt_of nd2
  have HD2 : Hid (_ ∧ _ ∧ _) := ⟨hP2, hK2, nd2⟩
  clear k0 k1 k2 k3 k4
  obtain ⟨k0, k1, k2, k3, k4⟩ := cells5 nd2
  obtain ⟨c00, c01, c02, c03, c04⟩ : MT.CellsAt w2 b o y0 := (HL2.out.get 0 (by simp)).1
  have hbz2 : b < w2.heap.size := by omega
  clear hP2 hK2 nd2 hk2 HD1 HI1 HJ1 HL1
  go_wp2_with fail
  refine (HIT0.out _).mono ?_
  rintro e w3 ⟨rfl, hm⟩
  have hP3 := HD2.out.1.below hm
  have hk3 : PK pb base _ w3 := PK.of (pb := pb) hm (by first | omega | (simp only [World.size_alloc, World.size_setCell]; omega))
  clear hm
  have HJ3 : Hid ((putS [⟨#[102, 111, 114]⟩] (gl s)).ind = s.ind) := HJ2.out
  have hK3 : PK pb base w w3 := HD2.out.2.1.trans hk3
  have nd3 := hk3.high (w.heap.size) _ _ _ (by omega) HD2.out.2.2 (by decide)
  have HI3 : Hid _ := In.pk HI2.out hk3 hpb
  have HL3 : Hid (MT.InL pb w3 b o [y0, y1, y2, y3]) := MT.InL.below (hk3.below (by omega) (Nat.le_refl _)) b o hbp _ HL2.out
  have hz3 := lt_of nd3
  have HD3 : Hid (_ ∧ _ ∧ _) := ⟨hP3, hK3, nd3⟩
  clear k0 k1 k2 k3 k4 c00 c01 c02 c03 c04
  obtain ⟨k0, k1, k2, k3, k4⟩ := cells5 nd3
  have hbz3 : b < w3.heap.size := by omega
  clear hP3 hK3 nd3 hk3 HD2 HI2 HJ2 HL2
  go_wp2_with fail
  refine (putc [⟨#[32]⟩, itemS y0] HD3.out.1 hpb (Nat.le_trans hB HD3.out.2.1.size) (al_cons (by decide) (al_cons hs0 al_nil)) (by simp) (by first | rfl | simp)).mono ?_
  rintro e w4 ⟨⟨u4, rfl⟩, v4, hP4, hk4⟩
  have HJ4 : Hid ((putS [⟨#[32]⟩, itemS y0] (putS [⟨#[102, 111, 114]⟩] (gl s))).ind = s.ind) := (putS_ind _ _).trans HJ3.out
  have hK4 : PK pb base w w4 := HD3.out.2.1.trans hk4
  have nd4 := hk4.high (w.heap.size) _ _ _ (by omega) HD3.out.2.2 (by decide)
  have HI4 : Hid _ := In.pk HI3.out hk4 hpb
  have HL4 : Hid (MT.InL pb w4 b o [y0, y1, y2, y3]) := MT.InL.below (hk4.below (by omega) (Nat.le_refl _)) b o hbp _ HL3.out
  have hz4 := lt_of nd4
  have HD4 : Hid (_ ∧ _ ∧ _) := ⟨hP4, hK4, nd4⟩
  clear k0 k1 k2 k3 k4
  obtain ⟨k0, k1, k2, k3, k4⟩ := cells5 nd4
  have hbz4 : b < w4.heap.size := by omega
  clear hP4 hK4 nd4 hk4 HD3 HI3 HJ3 HL3
  obtain ⟨c10, c11, c12, c13, c14⟩ : MT.CellsAt w4 b (o + 5) y1 := (HL4.out.get 1 (by simp)).1
  have hk := Hhk.out
  skip
  go_wp2_with fail
  clear hk
  refine (HIT1.out _).mono ?_
  rintro e w5 ⟨rfl, hm⟩
  have hP5 := HD4.out.1.below hm
  have hk5 : PK pb base _ w5 := PK.of (pb := pb) hm (by first | omega | (simp only [World.size_alloc, World.size_setCell]; omega))
  clear hm
  have HJ5 : Hid ((putS [⟨#[32]⟩, itemS y0] (putS [⟨#[102, 111, 114]⟩] (gl s))).ind = s.ind) := HJ4.out
  have hK5 : PK pb base w w5 := HD4.out.2.1.trans hk5
  have nd5 := hk5.high (w.heap.size) _ _ _ (by omega) HD4.out.2.2 (by decide)
  have HI5 : Hid _ := In.pk HI4.out hk5 hpb
  have HL5 : Hid (MT.InL pb w5 b o [y0, y1, y2, y3]) := MT.InL.below (hk5.below (by omega) (Nat.le_refl _)) b o hbp _ HL4.out
  have hz5 := lt_of nd5
  have HD5 : Hid (_ ∧ _ ∧ _) := ⟨hP5, hK5, nd5⟩
  clear k0 k1 k2 k3 k4 c10 c11 c12 c13 c14
  obtain ⟨k0, k1, k2, k3, k4⟩ := cells5 nd5
  have hbz5 : b < w5.heap.size := by omega
  clear hP5 hK5 nd5 hk5 HD4 HI4 HJ4 HL4
  go_wp2_with fail
  refine (putc [⟨#[44, 32]⟩, itemS y1] HD5.out.1 hpb (Nat.le_trans hB HD5.out.2.1.size) (al_cons (by decide) (al_cons hs1 al_nil)) (by simp) (by first | rfl | simp)).mono ?_
  rintro e w6 ⟨⟨u6, rfl⟩, v6, hP6, hk6⟩
  have HJ6 : Hid ((putS [⟨#[44, 32]⟩, itemS y1] (putS [⟨#[32]⟩, itemS y0] (putS [⟨#[102, 111, 114]⟩] (gl s)))).ind = s.ind) := (putS_ind _ _).trans HJ5.out
  have hK6 : PK pb base w w6 := HD5.out.2.1.trans hk6
  have nd6 := hk6.high (w.heap.size) _ _ _ (by omega) HD5.out.2.2 (by decide)
  have HI6 : Hid _ := In.pk HI5.out hk6 hpb
  have HL6 : Hid (MT.InL pb w6 b o [y0, y1, y2, y3]) := MT.InL.below (hk6.below (by omega) (Nat.le_refl _)) b o hbp _ HL5.out
  have hz6 := lt_of nd6
  have HD6 : Hid (_ ∧ _ ∧ _) := ⟨hP6, hK6, nd6⟩
  clear k0 k1 k2 k3 k4
  obtain ⟨k0, k1, k2, k3, k4⟩ := cells5 nd6
  have hbz6 : b < w6.heap.size := by omega
  clear hP6 hK6 nd6 hk6 HD5 HI5 HJ5 HL5
  go_wp2_with fail
  refine (putc [⟨#[32, 105, 110, 32]⟩] HD6.out.1 hpb (Nat.le_trans hB HD6.out.2.1.size) (al_cons (by decide) al_nil) (by simp) (by first | rfl | simp)).mono ?_
  rintro e w7 ⟨⟨u7, rfl⟩, v7, hP7, hk7⟩
  have HJ7 : Hid ((putS [⟨#[32, 105, 110, 32]⟩] (putS [⟨#[44, 32]⟩, itemS y1] (putS [⟨#[32]⟩, itemS y0] (putS [⟨#[102, 111, 114]⟩] (gl s))))).ind = s.ind) := (putS_ind _ _).trans HJ6.out
  have hK7 : PK pb base w w7 := HD6.out.2.1.trans hk7
  have nd7 := hk7.high (w.heap.size) _ _ _ (by omega) HD6.out.2.2 (by decide)
  have HI7 : Hid _ := In.pk HI6.out hk7 hpb
  have HL7 : Hid (MT.InL pb w7 b o [y0, y1, y2, y3]) := MT.InL.below (hk7.below (by omega) (Nat.le_refl _)) b o hbp _ HL6.out
  have hz7 := lt_of nd7
  have HD7 : Hid (_ ∧ _ ∧ _) := ⟨hP7, hK7, nd7⟩
  clear k0 k1 k2 k3 k4
  obtain ⟨k0, k1, k2, k3, k4⟩ := cells5 nd7
  obtain ⟨c20, c21, c22, c23, c24⟩ : MT.CellsAt w7 b (o + 10) y2 := (HL7.out.get 2 (by simp)).1
  have hbz7 : b < w7.heap.size := by omega
  clear hP7 hK7 nd7 hk7 HD6 HI6 HJ6 HL6
  go_wp2_with fail
  refine (Hh2.out _ _ _ (Nat.le_trans (Nat.le_of_eq HJ7.out) hi) HD7.out.1 (Nat.le_trans hB HD7.out.2.1.size) (HL7.out.get 2 (by simp)).2).mono ?_
  rintro e w8 ⟨⟨u8, rfl⟩, v8, hP8, hi8, hk8⟩
  have HJ8 : Hid ((g2 (putS [⟨#[32, 105, 110, 32]⟩] (putS [⟨#[44, 32]⟩, itemS y1] (putS [⟨#[32]⟩, itemS y0] (putS [⟨#[102, 111, 114]⟩] (gl s)))))).ind = s.ind) := hi8.trans HJ7.out
  clear hi8
  have hK8 : PK pb base w w8 := HD7.out.2.1.trans hk8
  have nd8 := hk8.high (w.heap.size) _ _ _ (by omega) HD7.out.2.2 (by decide)
  have HI8 : Hid _ := In.pk HI7.out hk8 hpb
  have HL8 : Hid (MT.InL pb w8 b o [y0, y1, y2, y3]) := MT.InL.below (hk8.below (by omega) (Nat.le_refl _)) b o hbp _ HL7.out
  have hz8 := lt_of nd8
  have HD8 : Hid (_ ∧ _ ∧ _) := ⟨hP8, hK8, nd8⟩
  clear k0 k1 k2 k3 k4 c20 c21 c22 c23 c24
  obtain ⟨k0, k1, k2, k3, k4⟩ := cells5 nd8
  have hbz8 : b < w8.heap.size := by omega
  clear hP8 hK8 nd8 hk8 HD7 HI7 HJ7 HL7
  go_wp2_with fail
  refine (putc [⟨#[32]⟩] HD8.out.1 hpb (Nat.le_trans hB HD8.out.2.1.size) (al_cons (by decide) al_nil) (by simp) (by first | rfl | simp)).mono ?_
  rintro e w9 ⟨⟨u9, rfl⟩, v9, hP9, hk9⟩
  have HJ9 : Hid ((putS [⟨#[32]⟩] (g2 (putS [⟨#[32, 105, 110, 32]⟩] (putS [⟨#[44, 32]⟩, itemS y1] (putS [⟨#[32]⟩, itemS y0] (putS [⟨#[102, 111, 114]⟩] (gl s))))))).ind = s.ind) := (putS_ind _ _).trans HJ8.out
  have hK9 : PK pb base w w9 := HD8.out.2.1.trans hk9
  have nd9 := hk9.high (w.heap.size) _ _ _ (by omega) HD8.out.2.2 (by decide)
  have HI9 : Hid _ := In.pk HI8.out hk9 hpb
  have HL9 : Hid (MT.InL pb w9 b o [y0, y1, y2, y3]) := MT.InL.below (hk9.below (by omega) (Nat.le_refl _)) b o hbp _ HL8.out
  have hz9 := lt_of nd9
  have HD9 : Hid (_ ∧ _ ∧ _) := ⟨hP9, hK9, nd9⟩
  clear k0 k1 k2 k3 k4
  obtain ⟨k0, k1, k2, k3, k4⟩ := cells5 nd9
  obtain ⟨c30, c31, c32, c33, c34⟩ : MT.CellsAt w9 b (o + 15) y3 := (HL9.out.get 3 (by simp)).1
  have hbz9 : b < w9.heap.size := by omega
  clear hP9 hK9 nd9 hk9 HD8 HI8 HJ8 HL8
  go_wp2_with fail
  refine (Hh3.out _ _ _ (Nat.le_trans (Nat.le_of_eq HJ9.out) hi) HD9.out.1 (Nat.le_trans hB HD9.out.2.1.size) (HL9.out.get 3 (by simp)).2).mono ?_
  rintro e w10 ⟨⟨u10, rfl⟩, v10, hP10, hi10, hk10⟩
  have HJ10 : Hid ((g3 (putS [⟨#[32]⟩] (g2 (putS [⟨#[32, 105, 110, 32]⟩] (putS [⟨#[44, 32]⟩, itemS y1] (putS [⟨#[32]⟩, itemS y0] (putS [⟨#[102, 111, 114]⟩] (gl s)))))))).ind = s.ind) := hi10.trans HJ9.out
  clear hi10
  have HE : Hid (_ ∧ PK pb base w w10) := ⟨hP10, HD9.out.2.1.trans hk10⟩
  clear hP10 hk10 k0 k1 k2 k3 k4 c30 c31 c32 c33 c34
  go_wp2_with fail
  go_end0
  exact ⟨⟨_, rfl⟩, v10, HE.out.1, HJ10.out, HE.out.2⟩
set_option maxRecDepth 100000 in
set_option maxHeartbeats 4000000 in
theorem loop_24n  {t : ByteArray} {n : Int} {a : Int} {p : Option Addr} {c : Nat} {y0 y1 y2 y3 : MT}  {gl g2 g3 : PS → PS} (hl : Wf 135 pb base L (.node 24 t n a p c [y0, y1, y2, y3]) gl) (hs0 : (itemS y0).size ≤ 4000000000) (hk : y1.kind = 16) (h2 : Wf 134 pb base L y2 g2) (h3 : Wf 102 pb base L y3 g3) (hpb : pb < base) : Wf 105 pb base L (.node 24 t n a p c [y0, y1, y2, y3]) (fun s => (g3 (putS [⟨#[32]⟩] (g2 (putS [⟨#[32, 105, 110, 32]⟩] (putS [⟨#[32]⟩, itemS y0] (putS [⟨#[102, 111, 114]⟩] (gl s)))))))) := by
  intro s v w hi hP hB hin
  have hkk := hin.kidsL
  simp only [MT.kids_node, MT.ptr_node] at hkk
  rcases hkk with hkk | ⟨b, o, rfl, hbp, hL⟩
  · cases hkk
  have Hhl : Hid _ := hl
  clear hl
  have Hh2 : Hid _ := h2
  clear h2
  have Hh3 : Hid _ := h3
  clear h3
  have Hhk : Hid _ := hk
  clear hk
  have hb0 : Below w.heap.size w (w.alloc (.cells #[.int .i64 24, .string t, .int .i64 n, .int .i64 a, .slice (some ⟨b, o, none⟩) 4 c] 24)) := below1 _ _
  have hP0 := hP.below hb0
  have hK0 : PK pb base w _ := PK.of (pb := pb) hb0 hB
  have HI0 : Hid _ := In.pk hin hK0 hpb
  have nd0 := heap_alloc_new w (.cells #[.int .i64 24, .string t, .int .i64 n, .int .i64 a, .slice (some ⟨b, o, none⟩) 4 c] 24)
  have HL0 : Hid (MT.InL pb _ b o [y0, y1, y2, y3]) := MT.InL.below (hb0.mono (by omega)) b o hbp _ hL
  have hz0 := lt_of nd0
  have HD0 : Hid (_ ∧ _ ∧ _) := ⟨hP0, hK0, nd0⟩
  have hbz : b < w.heap.size := by omega
  clear hP hin hb0 hP0 hK0 nd0 hL
  rw [nv4]
  go_enter Tryz.func105, Tryz.ntmps105
  go_wp2_with fail
  have HIT0 : Hid _ := item_any y0
  have HIT1 : Hid _ := item_any y1
  refine (Hhl.out _ _ _ (Nat.le_trans (Nat.le_of_eq (Eq.refl s.ind)) hi) HD0.out.1 (Nat.le_trans hB HD0.out.2.1.size) HI0.out).mono ?_
  rintro e w1 ⟨⟨u1, rfl⟩, v1, hP1, hi1, hk1⟩
  have HJ1 : Hid ((gl s).ind = s.ind) := hi1.trans (Eq.refl s.ind)
  clear hi1
  have hK1 : PK pb base w w1 := HD0.out.2.1.trans hk1
  have nd1 := hk1.high (w.heap.size) _ _ _ (by omega) HD0.out.2.2 (by decide)
  have HI1 : Hid _ := In.pk HI0.out hk1 hpb
  have HL1 : Hid (MT.InL pb w1 b o [y0, y1, y2, y3]) := MT.InL.below (hk1.below (by omega) (Nat.le_refl _)) b o hbp _ HL0.out
  have hz1 := lt_of nd1
  have HD1 : Hid (_ ∧ _ ∧ _) := ⟨hP1, hK1, nd1⟩
  obtain ⟨k0, k1, k2, k3, k4⟩ := cells5 nd1
  have hbz1 : b < w1.heap.size := by omega
  clear hP1 hK1 nd1 hk1 HD0 HI0 HL0
  go_wp2_with fail
  refine (putc [⟨#[102, 111, 114]⟩] HD1.out.1 hpb (Nat.le_trans hB HD1.out.2.1.size) (al_cons (by decide) al_nil) (by simp) (by first | rfl | simp)).mono ?_
  rintro e w2 ⟨⟨u2, rfl⟩, v2, hP2, hk2⟩
  have HJ2 : Hid ((putS [⟨#[102, 111, 114]⟩] (gl s)).ind = s.ind) := (putS_ind _ _).trans HJ1.out
  have hK2 : PK pb base w w2 := HD1.out.2.1.trans hk2
  have nd2 := hk2.high (w.heap.size) _ _ _ (by omega) HD1.out.2.2 (by decide)
  have HI2 : Hid _ := In.pk HI1.out hk2 hpb
  have HL2 : Hid (MT.InL pb w2 b o [y0, y1, y2, y3]) := MT.InL.below (hk2.below (by omega) (Nat.le_refl _)) b o hbp _ HL1.out
  have hz2 := lt_of nd2
  have HD2 : Hid (_ ∧ _ ∧ _) := ⟨hP2, hK2, nd2⟩
  clear k0 k1 k2 k3 k4
  obtain ⟨k0, k1, k2, k3, k4⟩ := cells5 nd2
  obtain ⟨c00, c01, c02, c03, c04⟩ : MT.CellsAt w2 b o y0 := (HL2.out.get 0 (by simp)).1
  have hbz2 : b < w2.heap.size := by omega
  clear hP2 hK2 nd2 hk2 HD1 HI1 HJ1 HL1
  go_wp2_with fail
  refine (HIT0.out _).mono ?_
  rintro e w3 ⟨rfl, hm⟩
  have hP3 := HD2.out.1.below hm
  have hk3 : PK pb base _ w3 := PK.of (pb := pb) hm (by first | omega | (simp only [World.size_alloc, World.size_setCell]; omega))
  clear hm
  have HJ3 : Hid ((putS [⟨#[102, 111, 114]⟩] (gl s)).ind = s.ind) := HJ2.out
  have hK3 : PK pb base w w3 := HD2.out.2.1.trans hk3
  have nd3 := hk3.high (w.heap.size) _ _ _ (by omega) HD2.out.2.2 (by decide)
  have HI3 : Hid _ := In.pk HI2.out hk3 hpb
  have HL3 : Hid (MT.InL pb w3 b o [y0, y1, y2, y3]) := MT.InL.below (hk3.below (by omega) (Nat.le_refl _)) b o hbp _ HL2.out
  have hz3 := lt_of nd3
  have HD3 : Hid (_ ∧ _ ∧ _) := ⟨hP3, hK3, nd3⟩
  clear k0 k1 k2 k3 k4 c00 c01 c02 c03 c04
  obtain ⟨k0, k1, k2, k3, k4⟩ := cells5 nd3
  have hbz3 : b < w3.heap.size := by omega
  clear hP3 hK3 nd3 hk3 HD2 HI2 HJ2 HL2
  go_wp2_with fail
  refine (putc [⟨#[32]⟩, itemS y0] HD3.out.1 hpb (Nat.le_trans hB HD3.out.2.1.size) (al_cons (by decide) (al_cons hs0 al_nil)) (by simp) (by first | rfl | simp)).mono ?_
  rintro e w4 ⟨⟨u4, rfl⟩, v4, hP4, hk4⟩
  have HJ4 : Hid ((putS [⟨#[32]⟩, itemS y0] (putS [⟨#[102, 111, 114]⟩] (gl s))).ind = s.ind) := (putS_ind _ _).trans HJ3.out
  have hK4 : PK pb base w w4 := HD3.out.2.1.trans hk4
  have nd4 := hk4.high (w.heap.size) _ _ _ (by omega) HD3.out.2.2 (by decide)
  have HI4 : Hid _ := In.pk HI3.out hk4 hpb
  have HL4 : Hid (MT.InL pb w4 b o [y0, y1, y2, y3]) := MT.InL.below (hk4.below (by omega) (Nat.le_refl _)) b o hbp _ HL3.out
  have hz4 := lt_of nd4
  have HD4 : Hid (_ ∧ _ ∧ _) := ⟨hP4, hK4, nd4⟩
  clear k0 k1 k2 k3 k4
  obtain ⟨k0, k1, k2, k3, k4⟩ := cells5 nd4
  have hbz4 : b < w4.heap.size := by omega
  clear hP4 hK4 nd4 hk4 HD3 HI3 HJ3 HL3
  obtain ⟨c10, c11, c12, c13, c14⟩ : MT.CellsAt w4 b (o + 5) y1 := (HL4.out.get 1 (by simp)).1
  have hk := Hhk.out
  rw [hk] at c10
  clear hk
  go_wp2_with fail
  refine (putc [⟨#[32, 105, 110, 32]⟩] HD4.out.1 hpb (Nat.le_trans hB HD4.out.2.1.size) (al_cons (by decide) al_nil) (by simp) (by first | rfl | simp)).mono ?_
  rintro e w5 ⟨⟨u5, rfl⟩, v5, hP5, hk5⟩
  have HJ5 : Hid ((putS [⟨#[32, 105, 110, 32]⟩] (putS [⟨#[32]⟩, itemS y0] (putS [⟨#[102, 111, 114]⟩] (gl s)))).ind = s.ind) := (putS_ind _ _).trans HJ4.out
  have hK5 : PK pb base w w5 := HD4.out.2.1.trans hk5
  have nd5 := hk5.high (w.heap.size) _ _ _ (by omega) HD4.out.2.2 (by decide)
  have HI5 : Hid _ := In.pk HI4.out hk5 hpb
  have HL5 : Hid (MT.InL pb w5 b o [y0, y1, y2, y3]) := MT.InL.below (hk5.below (by omega) (Nat.le_refl _)) b o hbp _ HL4.out
  have hz5 := lt_of nd5
  have HD5 : Hid (_ ∧ _ ∧ _) := ⟨hP5, hK5, nd5⟩
  clear k0 k1 k2 k3 k4 c10 c11 c12 c13 c14
  obtain ⟨k0, k1, k2, k3, k4⟩ := cells5 nd5
  obtain ⟨c20, c21, c22, c23, c24⟩ : MT.CellsAt w5 b (o + 10) y2 := (HL5.out.get 2 (by simp)).1
  have hbz5 : b < w5.heap.size := by omega
  clear hP5 hK5 nd5 hk5 HD4 HI4 HJ4 HL4
  go_wp2_with fail
  refine (Hh2.out _ _ _ (Nat.le_trans (Nat.le_of_eq HJ5.out) hi) HD5.out.1 (Nat.le_trans hB HD5.out.2.1.size) (HL5.out.get 2 (by simp)).2).mono ?_
  rintro e w6 ⟨⟨u6, rfl⟩, v6, hP6, hi6, hk6⟩
  have HJ6 : Hid ((g2 (putS [⟨#[32, 105, 110, 32]⟩] (putS [⟨#[32]⟩, itemS y0] (putS [⟨#[102, 111, 114]⟩] (gl s))))).ind = s.ind) := hi6.trans HJ5.out
  clear hi6
  have hK6 : PK pb base w w6 := HD5.out.2.1.trans hk6
  have nd6 := hk6.high (w.heap.size) _ _ _ (by omega) HD5.out.2.2 (by decide)
  have HI6 : Hid _ := In.pk HI5.out hk6 hpb
  have HL6 : Hid (MT.InL pb w6 b o [y0, y1, y2, y3]) := MT.InL.below (hk6.below (by omega) (Nat.le_refl _)) b o hbp _ HL5.out
  have hz6 := lt_of nd6
  have HD6 : Hid (_ ∧ _ ∧ _) := ⟨hP6, hK6, nd6⟩
  clear k0 k1 k2 k3 k4 c20 c21 c22 c23 c24
  obtain ⟨k0, k1, k2, k3, k4⟩ := cells5 nd6
  have hbz6 : b < w6.heap.size := by omega
  clear hP6 hK6 nd6 hk6 HD5 HI5 HJ5 HL5
  go_wp2_with fail
  refine (putc [⟨#[32]⟩] HD6.out.1 hpb (Nat.le_trans hB HD6.out.2.1.size) (al_cons (by decide) al_nil) (by simp) (by first | rfl | simp)).mono ?_
  rintro e w7 ⟨⟨u7, rfl⟩, v7, hP7, hk7⟩
  have HJ7 : Hid ((putS [⟨#[32]⟩] (g2 (putS [⟨#[32, 105, 110, 32]⟩] (putS [⟨#[32]⟩, itemS y0] (putS [⟨#[102, 111, 114]⟩] (gl s)))))).ind = s.ind) := (putS_ind _ _).trans HJ6.out
  have hK7 : PK pb base w w7 := HD6.out.2.1.trans hk7
  have nd7 := hk7.high (w.heap.size) _ _ _ (by omega) HD6.out.2.2 (by decide)
  have HI7 : Hid _ := In.pk HI6.out hk7 hpb
  have HL7 : Hid (MT.InL pb w7 b o [y0, y1, y2, y3]) := MT.InL.below (hk7.below (by omega) (Nat.le_refl _)) b o hbp _ HL6.out
  have hz7 := lt_of nd7
  have HD7 : Hid (_ ∧ _ ∧ _) := ⟨hP7, hK7, nd7⟩
  clear k0 k1 k2 k3 k4
  obtain ⟨k0, k1, k2, k3, k4⟩ := cells5 nd7
  obtain ⟨c30, c31, c32, c33, c34⟩ : MT.CellsAt w7 b (o + 15) y3 := (HL7.out.get 3 (by simp)).1
  have hbz7 : b < w7.heap.size := by omega
  clear hP7 hK7 nd7 hk7 HD6 HI6 HJ6 HL6
  go_wp2_with fail
  refine (Hh3.out _ _ _ (Nat.le_trans (Nat.le_of_eq HJ7.out) hi) HD7.out.1 (Nat.le_trans hB HD7.out.2.1.size) (HL7.out.get 3 (by simp)).2).mono ?_
  rintro e w8 ⟨⟨u8, rfl⟩, v8, hP8, hi8, hk8⟩
  have HJ8 : Hid ((g3 (putS [⟨#[32]⟩] (g2 (putS [⟨#[32, 105, 110, 32]⟩] (putS [⟨#[32]⟩, itemS y0] (putS [⟨#[102, 111, 114]⟩] (gl s))))))).ind = s.ind) := hi8.trans HJ7.out
  clear hi8
  have HE : Hid (_ ∧ PK pb base w w8) := ⟨hP8, HD7.out.2.1.trans hk8⟩
  clear hP8 hk8 k0 k1 k2 k3 k4 c30 c31 c32 c33 c34
  go_wp2_with fail
  go_end0
  exact ⟨⟨_, rfl⟩, v8, HE.out.1, HJ8.out, HE.out.2⟩
end Go.Proofs.YthbnegggohegkaaGreatDoor
