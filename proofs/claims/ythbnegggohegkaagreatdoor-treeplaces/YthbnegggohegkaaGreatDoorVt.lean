/-
  Loops, declarations, cases.
-/
import Derived.Test.YthbnegggohegkaaGreatDoorWgJ
namespace Go.Proofs.YthbnegggohegkaaGreatDoor
open Go.RowKit
variable {pb base L : Nat} {s : PS} {v : Value} {w w' : World}
set_option maxRecDepth 100000 in
set_option maxHeartbeats 4000000 in
theorem choice_any  {t : ByteArray} {n : Int} {a : Int} {p : Option Addr} {c : Nat} {y0 y1 y2 : MT}  {g0 g1 g2 : PS → PS} (h0 : Wf 134 pb base L y0 g0) (h1 : Wf 102 pb base L y1 g1) (h2 : Wc 107 #[.pointer (some ⟨pb, 0, none⟩), .string ⟨#[32, 101, 108, 115, 101, 32]⟩, nodeV y2, .func (.func 73) #[.pointer (some ⟨pb, 0, none⟩)] #[]] pb base L (fun w => MT.In pb w y2) g2) (hpb : pb < base) : Wf 104 pb base L (.node 22 t n a p c [y0, y1, y2]) (fun s => (g2 (g1 (putS [⟨#[32]⟩] (g0 (putS [⟨#[105, 102, 32]⟩] s)))))) := by
  intro s v w hi hP hB hin
  have hkk := hin.kidsL
  simp only [MT.kids_node, MT.ptr_node] at hkk
  rcases hkk with hkk | ⟨b, o, rfl, hbp, hL⟩
  · cases hkk
  have Hh0 : Hid _ := h0
  clear h0
  have Hh1 : Hid _ := h1
  clear h1
  have Hh2 : Hid _ := h2
  clear h2
  have hb0 : Below w.heap.size w (w.alloc (.cells #[.int .i64 22, .string t, .int .i64 n, .int .i64 a, .slice (some ⟨b, o, none⟩) 3 c] 24)) := below1 _ _
  have hP0 := hP.below hb0
  have hK0 : PK pb base w _ := PK.of (pb := pb) hb0 hB
  have HI0 : Hid _ := In.pk hin hK0 hpb
  have nd0 := heap_alloc_new w (.cells #[.int .i64 22, .string t, .int .i64 n, .int .i64 a, .slice (some ⟨b, o, none⟩) 3 c] 24)
  have HL0 : Hid (MT.InL pb _ b o [y0, y1, y2]) := MT.InL.below (hb0.mono (by omega)) b o hbp _ hL
  have hz0 := lt_of nd0
  have HD0 : Hid (_ ∧ _ ∧ _) := ⟨hP0, hK0, nd0⟩
  have hbz : b < w.heap.size := by omega
  clear hP hin hb0 hP0 hK0 nd0 hL
  rw [nv3]
  go_enter Tryz.func104, Tryz.ntmps104
  go_wp2_with fail
  refine (putc [⟨#[105, 102, 32]⟩] HD0.out.1 hpb (Nat.le_trans hB HD0.out.2.1.size) (al_cons (by decide) al_nil) (by simp) (by first | rfl | simp)).mono ?_
  rintro e w1 ⟨⟨u1, rfl⟩, v1, hP1, hk1⟩
  have HJ1 : Hid ((putS [⟨#[105, 102, 32]⟩] s).ind = s.ind) := (putS_ind _ _).trans (Eq.refl s.ind)
  have hK1 : PK pb base w w1 := HD0.out.2.1.trans hk1
  have nd1 := hk1.high (w.heap.size) _ _ _ (by omega) HD0.out.2.2 (by decide)
  have HI1 : Hid _ := In.pk HI0.out hk1 hpb
  have HL1 : Hid (MT.InL pb w1 b o [y0, y1, y2]) := MT.InL.below (hk1.below (by omega) (Nat.le_refl _)) b o hbp _ HL0.out
  have hz1 := lt_of nd1
  have HD1 : Hid (_ ∧ _ ∧ _) := ⟨hP1, hK1, nd1⟩
  obtain ⟨k0, k1, k2, k3, k4⟩ := cells5 nd1
  obtain ⟨c00, c01, c02, c03, c04⟩ : MT.CellsAt w1 b o y0 := (HL1.out.get 0 (by simp)).1
  have hbz1 : b < w1.heap.size := by omega
  clear hP1 hK1 nd1 hk1 HD0 HI0 HL0
  go_wp2_with fail
  refine (Hh0.out _ _ _ (Nat.le_trans (Nat.le_of_eq HJ1.out) hi) HD1.out.1 (Nat.le_trans hB HD1.out.2.1.size) (HL1.out.get 0 (by simp)).2).mono ?_
  rintro e w2 ⟨⟨u2, rfl⟩, v2, hP2, hi2, hk2⟩
  have HJ2 : Hid ((g0 (putS [⟨#[105, 102, 32]⟩] s)).ind = s.ind) := hi2.trans HJ1.out
  clear hi2
  have hK2 : PK pb base w w2 := HD1.out.2.1.trans hk2
  have nd2 := hk2.high (w.heap.size) _ _ _ (by omega) HD1.out.2.2 (by decide)
  have HI2 : Hid _ := In.pk HI1.out hk2 hpb
  have HL2 : Hid (MT.InL pb w2 b o [y0, y1, y2]) := MT.InL.below (hk2.below (by omega) (Nat.le_refl _)) b o hbp _ HL1.out
  have hz2 := lt_of nd2
  have HD2 : Hid (_ ∧ _ ∧ _) := ⟨hP2, hK2, nd2⟩
  clear k0 k1 k2 k3 k4 c00 c01 c02 c03 c04
  obtain ⟨k0, k1, k2, k3, k4⟩ := cells5 nd2
  have hbz2 : b < w2.heap.size := by omega
  clear hP2 hK2 nd2 hk2 HD1 HI1 HJ1 HL1
  go_wp2_with fail
  refine (putc [⟨#[32]⟩] HD2.out.1 hpb (Nat.le_trans hB HD2.out.2.1.size) (al_cons (by decide) al_nil) (by simp) (by first | rfl | simp)).mono ?_
  rintro e w3 ⟨⟨u3, rfl⟩, v3, hP3, hk3⟩
  have HJ3 : Hid ((putS [⟨#[32]⟩] (g0 (putS [⟨#[105, 102, 32]⟩] s))).ind = s.ind) := (putS_ind _ _).trans HJ2.out
  have hK3 : PK pb base w w3 := HD2.out.2.1.trans hk3
  have nd3 := hk3.high (w.heap.size) _ _ _ (by omega) HD2.out.2.2 (by decide)
  have HI3 : Hid _ := In.pk HI2.out hk3 hpb
  have HL3 : Hid (MT.InL pb w3 b o [y0, y1, y2]) := MT.InL.below (hk3.below (by omega) (Nat.le_refl _)) b o hbp _ HL2.out
  have hz3 := lt_of nd3
  have HD3 : Hid (_ ∧ _ ∧ _) := ⟨hP3, hK3, nd3⟩
  clear k0 k1 k2 k3 k4
  obtain ⟨k0, k1, k2, k3, k4⟩ := cells5 nd3
  obtain ⟨c10, c11, c12, c13, c14⟩ : MT.CellsAt w3 b (o + 5) y1 := (HL3.out.get 1 (by simp)).1
  have hbz3 : b < w3.heap.size := by omega
  clear hP3 hK3 nd3 hk3 HD2 HI2 HJ2 HL2
  go_wp2_with fail
  refine (Hh1.out _ _ _ (Nat.le_trans (Nat.le_of_eq HJ3.out) hi) HD3.out.1 (Nat.le_trans hB HD3.out.2.1.size) (HL3.out.get 1 (by simp)).2).mono ?_
  rintro e w4 ⟨⟨u4, rfl⟩, v4, hP4, hi4, hk4⟩
  have HJ4 : Hid ((g1 (putS [⟨#[32]⟩] (g0 (putS [⟨#[105, 102, 32]⟩] s)))).ind = s.ind) := hi4.trans HJ3.out
  clear hi4
  have hK4 : PK pb base w w4 := HD3.out.2.1.trans hk4
  have nd4 := hk4.high (w.heap.size) _ _ _ (by omega) HD3.out.2.2 (by decide)
  have HI4 : Hid _ := In.pk HI3.out hk4 hpb
  have HL4 : Hid (MT.InL pb w4 b o [y0, y1, y2]) := MT.InL.below (hk4.below (by omega) (Nat.le_refl _)) b o hbp _ HL3.out
  have hz4 := lt_of nd4
  have HD4 : Hid (_ ∧ _ ∧ _) := ⟨hP4, hK4, nd4⟩
  clear k0 k1 k2 k3 k4 c10 c11 c12 c13 c14
  obtain ⟨k0, k1, k2, k3, k4⟩ := cells5 nd4
  obtain ⟨c20, c21, c22, c23, c24⟩ : MT.CellsAt w4 b (o + 10) y2 := (HL4.out.get 2 (by simp)).1
  have hbz4 : b < w4.heap.size := by omega
  clear hP4 hK4 nd4 hk4 HD3 HI3 HJ3 HL3
  go_wp2_with fail
  refine (Hh2.out _ _ _ (Nat.le_trans (Nat.le_of_eq HJ4.out) hi) HD4.out.1 (Nat.le_trans hB HD4.out.2.1.size) (HL4.out.get 2 (by simp)).2).mono ?_
  rintro e w5 ⟨⟨u5, rfl⟩, v5, hP5, hi5, hk5⟩
  have HJ5 : Hid ((g2 (g1 (putS [⟨#[32]⟩] (g0 (putS [⟨#[105, 102, 32]⟩] s))))).ind = s.ind) := hi5.trans HJ4.out
  clear hi5
  have HE : Hid (_ ∧ PK pb base w w5) := ⟨hP5, HD4.out.2.1.trans hk5⟩
  clear hP5 hk5 k0 k1 k2 k3 k4 c20 c21 c22 c23 c24
  go_wp2_with fail
  go_end0
  exact ⟨⟨_, rfl⟩, v5, HE.out.1, HJ5.out, HE.out.2⟩
set_option maxRecDepth 100000 in
set_option maxHeartbeats 4000000 in
theorem loop_23  {t : ByteArray} {n : Int} {a : Int} {p : Option Addr} {c : Nat} {y0 y1 : MT}  {gl g0 g1 : PS → PS} (hl : Wf 135 pb base L (.node 23 t n a p c [y0, y1]) gl) (h0 : Wc 107 #[.pointer (some ⟨pb, 0, none⟩), .string ⟨#[32]⟩, nodeV y0, .func (.func 134) #[.pointer (some ⟨pb, 0, none⟩)] #[]] pb base L (fun w => MT.In pb w y0) g0) (h1 : Wf 102 pb base L y1 g1) (hpb : pb < base) : Wf 105 pb base L (.node 23 t n a p c [y0, y1]) (fun s => (g1 (putS [⟨#[32]⟩] (g0 (putS [⟨#[102, 111, 114]⟩] (gl s)))))) := by
  intro s v w hi hP hB hin
  have hkk := hin.kidsL
  simp only [MT.kids_node, MT.ptr_node] at hkk
  rcases hkk with hkk | ⟨b, o, rfl, hbp, hL⟩
  · cases hkk
  have Hhl : Hid _ := hl
  clear hl
  have Hh0 : Hid _ := h0
  clear h0
  have Hh1 : Hid _ := h1
  clear h1
  have hb0 : Below w.heap.size w (w.alloc (.cells #[.int .i64 23, .string t, .int .i64 n, .int .i64 a, .slice (some ⟨b, o, none⟩) 2 c] 24)) := below1 _ _
  have hP0 := hP.below hb0
  have hK0 : PK pb base w _ := PK.of (pb := pb) hb0 hB
  have HI0 : Hid _ := In.pk hin hK0 hpb
  have nd0 := heap_alloc_new w (.cells #[.int .i64 23, .string t, .int .i64 n, .int .i64 a, .slice (some ⟨b, o, none⟩) 2 c] 24)
  have HL0 : Hid (MT.InL pb _ b o [y0, y1]) := MT.InL.below (hb0.mono (by omega)) b o hbp _ hL
  have hz0 := lt_of nd0
  have HD0 : Hid (_ ∧ _ ∧ _) := ⟨hP0, hK0, nd0⟩
  have hbz : b < w.heap.size := by omega
  clear hP hin hb0 hP0 hK0 nd0 hL
  rw [nv2]
  go_enter Tryz.func105, Tryz.ntmps105
  go_wp2_with fail
  refine (Hhl.out _ _ _ (Nat.le_trans (Nat.le_of_eq (Eq.refl s.ind)) hi) HD0.out.1 (Nat.le_trans hB HD0.out.2.1.size) HI0.out).mono ?_
  rintro e w1 ⟨⟨u1, rfl⟩, v1, hP1, hi1, hk1⟩
  have HJ1 : Hid ((gl s).ind = s.ind) := hi1.trans (Eq.refl s.ind)
  clear hi1
  have hK1 : PK pb base w w1 := HD0.out.2.1.trans hk1
  have nd1 := hk1.high (w.heap.size) _ _ _ (by omega) HD0.out.2.2 (by decide)
  have HI1 : Hid _ := In.pk HI0.out hk1 hpb
  have HL1 : Hid (MT.InL pb w1 b o [y0, y1]) := MT.InL.below (hk1.below (by omega) (Nat.le_refl _)) b o hbp _ HL0.out
  have hz1 := lt_of nd1
  have HD1 : Hid (_ ∧ _ ∧ _) := ⟨hP1, hK1, nd1⟩
  obtain ⟨k0, k1, k2, k3, k4⟩ := cells5 nd1
  have hbz1 : b < w1.heap.size := by omega
  clear hP1 hK1 nd1 hk1 HD0 HI0 HL0
  go_wp2_with fail
  refine (putc [⟨#[102, 111, 114]⟩] HD1.out.1 hpb (Nat.le_trans hB HD1.out.2.1.size) (al_cons (by decide) al_nil) (by simp) (by first | rfl | simp)).mono ?_
  rintro e w2 ⟨⟨u2, rfl⟩, v2, hP2, hk2⟩
  have HJ2 : Hid ((putS [⟨#[102, 111, 114]⟩] (gl s)).ind = s.ind) := (putS_ind _ _).trans HJ1.out
  have hK2 : PK pb base w w2 := HD1.out.2.1.trans hk2
  have nd2 := hk2.high (w.heap.size) _ _ _ (by omega) HD1.out.2.2 (by decide)
  have HI2 : Hid _ := In.pk HI1.out hk2 hpb
  have HL2 : Hid (MT.InL pb w2 b o [y0, y1]) := MT.InL.below (hk2.below (by omega) (Nat.le_refl _)) b o hbp _ HL1.out
  have hz2 := lt_of nd2
  have HD2 : Hid (_ ∧ _ ∧ _) := ⟨hP2, hK2, nd2⟩
  clear k0 k1 k2 k3 k4
  obtain ⟨k0, k1, k2, k3, k4⟩ := cells5 nd2
  obtain ⟨c00, c01, c02, c03, c04⟩ : MT.CellsAt w2 b o y0 := (HL2.out.get 0 (by simp)).1
  have hbz2 : b < w2.heap.size := by omega
  clear hP2 hK2 nd2 hk2 HD1 HI1 HJ1 HL1
  go_wp2_with fail
  refine (Hh0.out _ _ _ (Nat.le_trans (Nat.le_of_eq HJ2.out) hi) HD2.out.1 (Nat.le_trans hB HD2.out.2.1.size) (HL2.out.get 0 (by simp)).2).mono ?_
  rintro e w3 ⟨⟨u3, rfl⟩, v3, hP3, hi3, hk3⟩
  have HJ3 : Hid ((g0 (putS [⟨#[102, 111, 114]⟩] (gl s))).ind = s.ind) := hi3.trans HJ2.out
  clear hi3
  have hK3 : PK pb base w w3 := HD2.out.2.1.trans hk3
  have nd3 := hk3.high (w.heap.size) _ _ _ (by omega) HD2.out.2.2 (by decide)
  have HI3 : Hid _ := In.pk HI2.out hk3 hpb
  have HL3 : Hid (MT.InL pb w3 b o [y0, y1]) := MT.InL.below (hk3.below (by omega) (Nat.le_refl _)) b o hbp _ HL2.out
  have hz3 := lt_of nd3
  have HD3 : Hid (_ ∧ _ ∧ _) := ⟨hP3, hK3, nd3⟩
  clear k0 k1 k2 k3 k4 c00 c01 c02 c03 c04
  obtain ⟨k0, k1, k2, k3, k4⟩ := cells5 nd3
  have hbz3 : b < w3.heap.size := by omega
  clear hP3 hK3 nd3 hk3 HD2 HI2 HJ2 HL2
  go_wp2_with fail
  refine (putc [⟨#[32]⟩] HD3.out.1 hpb (Nat.le_trans hB HD3.out.2.1.size) (al_cons (by decide) al_nil) (by simp) (by first | rfl | simp)).mono ?_
  rintro e w4 ⟨⟨u4, rfl⟩, v4, hP4, hk4⟩
  have HJ4 : Hid ((putS [⟨#[32]⟩] (g0 (putS [⟨#[102, 111, 114]⟩] (gl s)))).ind = s.ind) := (putS_ind _ _).trans HJ3.out
  have hK4 : PK pb base w w4 := HD3.out.2.1.trans hk4
  have nd4 := hk4.high (w.heap.size) _ _ _ (by omega) HD3.out.2.2 (by decide)
  have HI4 : Hid _ := In.pk HI3.out hk4 hpb
  have HL4 : Hid (MT.InL pb w4 b o [y0, y1]) := MT.InL.below (hk4.below (by omega) (Nat.le_refl _)) b o hbp _ HL3.out
  have hz4 := lt_of nd4
  have HD4 : Hid (_ ∧ _ ∧ _) := ⟨hP4, hK4, nd4⟩
  clear k0 k1 k2 k3 k4
  obtain ⟨k0, k1, k2, k3, k4⟩ := cells5 nd4
  obtain ⟨c10, c11, c12, c13, c14⟩ : MT.CellsAt w4 b (o + 5) y1 := (HL4.out.get 1 (by simp)).1
  have hbz4 : b < w4.heap.size := by omega
  clear hP4 hK4 nd4 hk4 HD3 HI3 HJ3 HL3
  go_wp2_with fail
  refine (Hh1.out _ _ _ (Nat.le_trans (Nat.le_of_eq HJ4.out) hi) HD4.out.1 (Nat.le_trans hB HD4.out.2.1.size) (HL4.out.get 1 (by simp)).2).mono ?_
  rintro e w5 ⟨⟨u5, rfl⟩, v5, hP5, hi5, hk5⟩
  have HJ5 : Hid ((g1 (putS [⟨#[32]⟩] (g0 (putS [⟨#[102, 111, 114]⟩] (gl s))))).ind = s.ind) := hi5.trans HJ4.out
  clear hi5
  have HE : Hid (_ ∧ PK pb base w w5) := ⟨hP5, HD4.out.2.1.trans hk5⟩
  clear hP5 hk5 k0 k1 k2 k3 k4 c10 c11 c12 c13 c14
  go_wp2_with fail
  go_end0
  exact ⟨⟨_, rfl⟩, v5, HE.out.1, HJ5.out, HE.out.2⟩
set_option maxRecDepth 100000 in
set_option maxHeartbeats 4000000 in
theorem de_2  {t : ByteArray} {n : Int} {a : Int} {p : Option Addr} {c : Nat} {y0 : MT}  (ht : t.size ≤ 4000000000) (h0 : y0.text.size ≤ 4000000000) (hpb : pb < base) : Wf 65 pb base L (.node 2 t n a p c [y0]) (fun s => (putS [⟨#[116, 121, 112, 101, 32]⟩, t, ⟨#[32, 61, 32]⟩, y0.text] s)) := by
  intro s v w hi hP hB hin
  have hkk := hin.kidsL
  simp only [MT.kids_node, MT.ptr_node] at hkk
  rcases hkk with hkk | ⟨b, o, rfl, hbp, hL⟩
  · cases hkk
  have hb0 : Below w.heap.size w (w.alloc (.cells #[.int .i64 2, .string t, .int .i64 n, .int .i64 a, .slice (some ⟨b, o, none⟩) 1 c] 24)) := below1 _ _
  have hP0 := hP.below hb0
  have hK0 : PK pb base w _ := PK.of (pb := pb) hb0 hB
  have HI0 : Hid _ := In.pk hin hK0 hpb
  have nd0 := heap_alloc_new w (.cells #[.int .i64 2, .string t, .int .i64 n, .int .i64 a, .slice (some ⟨b, o, none⟩) 1 c] 24)
  have HL0 : Hid (MT.InL pb _ b o [y0]) := MT.InL.below (hb0.mono (by omega)) b o hbp _ hL
  have hz0 := lt_of nd0
  have HD0 : Hid (_ ∧ _ ∧ _) := ⟨hP0, hK0, nd0⟩
  have hbz : b < w.heap.size := by omega
  clear hP hin hb0 hP0 hK0 nd0 hL
  rw [nv1]
  go_enter Tryz.func65, Tryz.ntmps65
  go_wp2_with fail
  obtain ⟨w0, hw0⟩ : ∃ W, W = (w.alloc (.cells #[.int .i64 2, .string t, .int .i64 n, .int .i64 a, .slice (some ⟨b, o, none⟩) 1 c] 24)) := ⟨_, rfl⟩
  rw [← hw0] at HD0 HI0 hz0 HL0 ⊢
  clear hw0
  have hbz0 : b < w0.heap.size := by omega
  have HK : Hid (∀ W, PK pb base w0 W → (W.cell? ⟨w.heap.size, 0, none⟩ = some (.int .i64 2) ∧ W.cell? ⟨w.heap.size, 1, none⟩ = some (.string t) ∧ W.cell? ⟨w.heap.size, 2, none⟩ = some (.int .i64 n) ∧ W.cell? ⟨w.heap.size, 3, none⟩ = some (.int .i64 a) ∧ W.cell? ⟨w.heap.size, 4, none⟩ = some (.slice (some ⟨b, o, none⟩) 1 c) ∧ W.cell? ⟨b, o, none⟩ = some (.int .i64 y0.kind) ∧ W.cell? ⟨b, o + 1, none⟩ = some (.string y0.text) ∧ W.cell? ⟨b, o + 2, none⟩ = some (.int .i64 y0.num) ∧ W.cell? ⟨b, o + 3, none⟩ = some (.int .i64 y0.at_) ∧ W.cell? ⟨b, o + 4, none⟩ = some (.slice y0.ptr y0.kids.length y0.cap))) := fun W hW => by
    have nd := hW.high (w.heap.size) _ _ _ (by omega) HD0.out.2.2 (by decide)
    have hLW := MT.InL.below (hW.below (by omega) (Nat.le_refl _)) b o hbp _ HL0.out
    obtain ⟨c00, c01, c02, c03, c04⟩ : MT.CellsAt W b o y0 := (hLW.get 0 (by simp)).1
    obtain ⟨k0, k1, k2, k3, k4⟩ := cells5 nd
    exact ⟨k0, k1, k2, k3, k4, c00, c01, c02, c03, c04⟩
  have hBW : base ≤ w0.heap.size := by omega
  obtain ⟨k0, k1, k2, k3, k4, c00, c01, c02, c03, c04⟩ := HK.out w0 (PK.refl _ _ _)
  go_region_held3 (fun W => W.cell? ⟨w.heap.size, 0, none⟩ = some (.int .i64 2) ∧ W.cell? ⟨w.heap.size, 1, none⟩ = some (.string t) ∧ W.cell? ⟨w.heap.size, 2, none⟩ = some (.int .i64 n) ∧ W.cell? ⟨w.heap.size, 3, none⟩ = some (.int .i64 a) ∧ W.cell? ⟨w.heap.size, 4, none⟩ = some (.slice (some ⟨b, o, none⟩) 1 c) ∧ W.cell? ⟨b, o, none⟩ = some (.int .i64 y0.kind) ∧ W.cell? ⟨b, o + 1, none⟩ = some (.string y0.text) ∧ W.cell? ⟨b, o + 2, none⟩ = some (.int .i64 y0.num) ∧ W.cell? ⟨b, o + 3, none⟩ = some (.int .i64 y0.at_) ∧ W.cell? ⟨b, o + 4, none⟩ = some (.slice y0.ptr y0.kids.length y0.cap))
    (first | exact HK.out _ hk1 | exact HK.out _ (PK.of ((Below.refl _ _).drew.alloc (by simp) _) hBW) | exact HK.out _ (PK.drw _ _ _))
    (first | (go_at_call 96; refine (putc [⟨#[116, 121, 112, 101, 32]⟩, t, ⟨#[32, 61, 32]⟩, y0.text] (HD0.out.1.below (Below.refl _ _).drew) hpb hBW (al_cons (by decide) (al_cons ht (al_cons (by decide) (al_cons h0 al_nil)))) (by simp) (by first | rfl | simp)).mono ?_; rintro e w1 ⟨⟨u1, rfl⟩, v1, hP1, hq1⟩; have hk1 : PK pb base w0 w1 := (PK.drw _ _ _).trans hq1; clear hq1))
  have HJ1 : Hid ((putS [⟨#[116, 121, 112, 101, 32]⟩, t, ⟨#[32, 61, 32]⟩, y0.text] s).ind = s.ind) := (putS_ind _ _).trans (Eq.refl s.ind)
  have HE : Hid (_ ∧ PK pb base w w1) := ⟨hP1, HD0.out.2.1.trans hk1⟩
  clear hP1 hk1 k0 k1 k2 k3 k4 c00 c01 c02 c03 c04 hBW HK
  go_wp2_with fail
  go_end0
  exact ⟨⟨_, rfl⟩, v1, HE.out.1, HJ1.out, HE.out.2⟩
set_option maxRecDepth 100000 in
set_option maxHeartbeats 4000000 in
theorem de_3  {t : ByteArray} {n : Int} {a : Int} {p : Option Addr} {c : Nat} {ks : List MT}  {g : PS → PS} (ht : t.size ≤ 4000000000) (h : Wc 97 #[.pointer (some ⟨pb, 0, none⟩), .slice p ks.length c, .func (.func 67) #[.pointer (some ⟨pb, 0, none⟩)] #[]] pb base L (Kd pb p ks) g) (hpb : pb < base) : Wf 65 pb base L (.node 3 t n a p c ks) (fun s => (g (putS [⟨#[116, 121, 112, 101, 32]⟩, t, ⟨#[32, 115, 116, 114, 117, 99, 116, 32]⟩] s))) := by
  intro s v w hi hP hB hin
  have Hh : Hid _ := h
  clear h
  have hb0 : Below w.heap.size w (w.alloc (.cells #[.int .i64 3, .string t, .int .i64 n, .int .i64 a, .slice p ks.length c] 24)) := below1 _ _
  have hP0 := hP.below hb0
  have hK0 : PK pb base w _ := PK.of (pb := pb) hb0 hB
  have HI0 : Hid _ := In.pk hin hK0 hpb
  have nd0 := heap_alloc_new w (.cells #[.int .i64 3, .string t, .int .i64 n, .int .i64 a, .slice p ks.length c] 24)
  have hz0 := lt_of nd0
  have HD0 : Hid (_ ∧ _ ∧ _) := ⟨hP0, hK0, nd0⟩
  clear hP hin hb0 hP0 hK0 nd0
  rw [nvk]
  go_enter Tryz.func65, Tryz.ntmps65
  go_wp2_with fail
  refine (putc [⟨#[116, 121, 112, 101, 32]⟩, t, ⟨#[32, 115, 116, 114, 117, 99, 116, 32]⟩] HD0.out.1 hpb (Nat.le_trans hB HD0.out.2.1.size) (al_cons (by decide) (al_cons ht (al_cons (by decide) al_nil))) (by simp) (by first | rfl | simp)).mono ?_
  rintro e w1 ⟨⟨u1, rfl⟩, v1, hP1, hk1⟩
  have HJ1 : Hid ((putS [⟨#[116, 121, 112, 101, 32]⟩, t, ⟨#[32, 115, 116, 114, 117, 99, 116, 32]⟩] s).ind = s.ind) := (putS_ind _ _).trans (Eq.refl s.ind)
  have hK1 : PK pb base w w1 := HD0.out.2.1.trans hk1
  have nd1 := hk1.high (w.heap.size) _ _ _ (by omega) HD0.out.2.2 (by decide)
  have HI1 : Hid _ := In.pk HI0.out hk1 hpb
  have hz1 := lt_of nd1
  have HD1 : Hid (_ ∧ _ ∧ _) := ⟨hP1, hK1, nd1⟩
  obtain ⟨k0, k1, k2, k3, k4⟩ := cells5 nd1
  clear hP1 hK1 nd1 hk1 HD0 HI0
  go_wp2_with fail
  refine (Hh.out _ _ _ (Nat.le_trans (Nat.le_of_eq HJ1.out) hi) HD1.out.1 (Nat.le_trans hB HD1.out.2.1.size) (Kd.of HI1.out)).mono ?_
  rintro e w2 ⟨⟨u2, rfl⟩, v2, hP2, hi2, hk2⟩
  have HJ2 : Hid ((g (putS [⟨#[116, 121, 112, 101, 32]⟩, t, ⟨#[32, 115, 116, 114, 117, 99, 116, 32]⟩] s)).ind = s.ind) := hi2.trans HJ1.out
  clear hi2
  have HE : Hid (_ ∧ PK pb base w w2) := ⟨hP2, HD1.out.2.1.trans hk2⟩
  clear hP2 hk2 k0 k1 k2 k3 k4
  go_wp2_with fail
  go_end0
  exact ⟨⟨_, rfl⟩, v2, HE.out.1, HJ2.out, HE.out.2⟩
set_option maxRecDepth 100000 in
set_option maxHeartbeats 4000000 in
theorem de_4  {t : ByteArray} {n : Int} {a : Int} {p : Option Addr} {c : Nat} {ks : List MT}  {g : PS → PS} (ht : t.size ≤ 4000000000) (h : Wc 97 #[.pointer (some ⟨pb, 0, none⟩), .slice p ks.length c, .func (.func 68) #[.pointer (some ⟨pb, 0, none⟩)] #[]] pb base L (Kd pb p ks) g) (hpb : pb < base) : Wf 65 pb base L (.node 4 t n a p c ks) (fun s => (g (putS [⟨#[112, 114, 111, 116, 111, 99, 111, 108, 32]⟩, t, ⟨#[32]⟩] s))) := by
  intro s v w hi hP hB hin
  have Hh : Hid _ := h
  clear h
  have hb0 : Below w.heap.size w (w.alloc (.cells #[.int .i64 4, .string t, .int .i64 n, .int .i64 a, .slice p ks.length c] 24)) := below1 _ _
  have hP0 := hP.below hb0
  have hK0 : PK pb base w _ := PK.of (pb := pb) hb0 hB
  have HI0 : Hid _ := In.pk hin hK0 hpb
  have nd0 := heap_alloc_new w (.cells #[.int .i64 4, .string t, .int .i64 n, .int .i64 a, .slice p ks.length c] 24)
  have hz0 := lt_of nd0
  have HD0 : Hid (_ ∧ _ ∧ _) := ⟨hP0, hK0, nd0⟩
  clear hP hin hb0 hP0 hK0 nd0
  rw [nvk]
  go_enter Tryz.func65, Tryz.ntmps65
  go_wp2_with fail
  refine (putc [⟨#[112, 114, 111, 116, 111, 99, 111, 108, 32]⟩, t, ⟨#[32]⟩] HD0.out.1 hpb (Nat.le_trans hB HD0.out.2.1.size) (al_cons (by decide) (al_cons ht (al_cons (by decide) al_nil))) (by simp) (by first | rfl | simp)).mono ?_
  rintro e w1 ⟨⟨u1, rfl⟩, v1, hP1, hk1⟩
  have HJ1 : Hid ((putS [⟨#[112, 114, 111, 116, 111, 99, 111, 108, 32]⟩, t, ⟨#[32]⟩] s).ind = s.ind) := (putS_ind _ _).trans (Eq.refl s.ind)
  have hK1 : PK pb base w w1 := HD0.out.2.1.trans hk1
  have nd1 := hk1.high (w.heap.size) _ _ _ (by omega) HD0.out.2.2 (by decide)
  have HI1 : Hid _ := In.pk HI0.out hk1 hpb
  have hz1 := lt_of nd1
  have HD1 : Hid (_ ∧ _ ∧ _) := ⟨hP1, hK1, nd1⟩
  obtain ⟨k0, k1, k2, k3, k4⟩ := cells5 nd1
  clear hP1 hK1 nd1 hk1 HD0 HI0
  go_wp2_with fail
  refine (Hh.out _ _ _ (Nat.le_trans (Nat.le_of_eq HJ1.out) hi) HD1.out.1 (Nat.le_trans hB HD1.out.2.1.size) (Kd.of HI1.out)).mono ?_
  rintro e w2 ⟨⟨u2, rfl⟩, v2, hP2, hi2, hk2⟩
  have HJ2 : Hid ((g (putS [⟨#[112, 114, 111, 116, 111, 99, 111, 108, 32]⟩, t, ⟨#[32]⟩] s)).ind = s.ind) := hi2.trans HJ1.out
  clear hi2
  have HE : Hid (_ ∧ PK pb base w w2) := ⟨hP2, HD1.out.2.1.trans hk2⟩
  clear hP2 hk2 k0 k1 k2 k3 k4
  go_wp2_with fail
  go_end0
  exact ⟨⟨_, rfl⟩, v2, HE.out.1, HJ2.out, HE.out.2⟩
set_option maxRecDepth 100000 in
set_option maxHeartbeats 4000000 in
theorem de_5  {t : ByteArray} {n : Int} {a : Int} {p : Option Addr} {c : Nat} {y0 y1 : MT}  {g : PS → PS} (ht : t.size ≤ 4000000000) (h : Wc 98 #[.pointer (some ⟨pb, 0, none⟩), nodeV y0, nodeV y1] pb base L (fun w => MT.In pb w y0 ∧ MT.In pb w y1) g) (hpb : pb < base) : Wf 65 pb base L (.node 5 t n a p c [y0, y1]) (fun s => (g (putS [⟨#[102, 117, 110, 99, 32]⟩, t] s))) := by
  intro s v w hi hP hB hin
  have hkk := hin.kidsL
  simp only [MT.kids_node, MT.ptr_node] at hkk
  rcases hkk with hkk | ⟨b, o, rfl, hbp, hL⟩
  · cases hkk
  have Hh : Hid _ := h
  clear h
  have hb0 : Below w.heap.size w (w.alloc (.cells #[.int .i64 5, .string t, .int .i64 n, .int .i64 a, .slice (some ⟨b, o, none⟩) 2 c] 24)) := below1 _ _
  have hP0 := hP.below hb0
  have hK0 : PK pb base w _ := PK.of (pb := pb) hb0 hB
  have HI0 : Hid _ := In.pk hin hK0 hpb
  have nd0 := heap_alloc_new w (.cells #[.int .i64 5, .string t, .int .i64 n, .int .i64 a, .slice (some ⟨b, o, none⟩) 2 c] 24)
  have HL0 : Hid (MT.InL pb _ b o [y0, y1]) := MT.InL.below (hb0.mono (by omega)) b o hbp _ hL
  have hz0 := lt_of nd0
  have HD0 : Hid (_ ∧ _ ∧ _) := ⟨hP0, hK0, nd0⟩
  have hbz : b < w.heap.size := by omega
  clear hP hin hb0 hP0 hK0 nd0 hL
  rw [nv2]
  go_enter Tryz.func65, Tryz.ntmps65
  go_wp2_with fail
  refine (putc [⟨#[102, 117, 110, 99, 32]⟩, t] HD0.out.1 hpb (Nat.le_trans hB HD0.out.2.1.size) (al_cons (by decide) (al_cons ht al_nil)) (by simp) (by first | rfl | simp)).mono ?_
  rintro e w1 ⟨⟨u1, rfl⟩, v1, hP1, hk1⟩
  have HJ1 : Hid ((putS [⟨#[102, 117, 110, 99, 32]⟩, t] s).ind = s.ind) := (putS_ind _ _).trans (Eq.refl s.ind)
  have hK1 : PK pb base w w1 := HD0.out.2.1.trans hk1
  have nd1 := hk1.high (w.heap.size) _ _ _ (by omega) HD0.out.2.2 (by decide)
  have HI1 : Hid _ := In.pk HI0.out hk1 hpb
  have HL1 : Hid (MT.InL pb w1 b o [y0, y1]) := MT.InL.below (hk1.below (by omega) (Nat.le_refl _)) b o hbp _ HL0.out
  have hz1 := lt_of nd1
  have HD1 : Hid (_ ∧ _ ∧ _) := ⟨hP1, hK1, nd1⟩
  obtain ⟨k0, k1, k2, k3, k4⟩ := cells5 nd1
  have hbz1 : b < w1.heap.size := by omega
  clear hP1 hK1 nd1 hk1 HD0 HI0 HL0
  go_wp2_with fail
  clear k0 k1 k2 k3 k4
  have HK : Hid (∀ W, PK pb base w1 W → (W.cell? ⟨w.heap.size, 0, none⟩ = some (.int .i64 5) ∧ W.cell? ⟨w.heap.size, 1, none⟩ = some (.string t) ∧ W.cell? ⟨w.heap.size, 2, none⟩ = some (.int .i64 n) ∧ W.cell? ⟨w.heap.size, 3, none⟩ = some (.int .i64 a) ∧ W.cell? ⟨w.heap.size, 4, none⟩ = some (.slice (some ⟨b, o, none⟩) 2 c) ∧ W.cell? ⟨b, o, none⟩ = some (.int .i64 y0.kind) ∧ W.cell? ⟨b, o + 1, none⟩ = some (.string y0.text) ∧ W.cell? ⟨b, o + 2, none⟩ = some (.int .i64 y0.num) ∧ W.cell? ⟨b, o + 3, none⟩ = some (.int .i64 y0.at_) ∧ W.cell? ⟨b, o + 4, none⟩ = some (.slice y0.ptr y0.kids.length y0.cap) ∧ W.cell? ⟨b, o + 5, none⟩ = some (.int .i64 y1.kind) ∧ W.cell? ⟨b, o + 5 + 1, none⟩ = some (.string y1.text) ∧ W.cell? ⟨b, o + 5 + 2, none⟩ = some (.int .i64 y1.num) ∧ W.cell? ⟨b, o + 5 + 3, none⟩ = some (.int .i64 y1.at_) ∧ W.cell? ⟨b, o + 5 + 4, none⟩ = some (.slice y1.ptr y1.kids.length y1.cap))) := fun W hW => by
    have nd := hW.high (w.heap.size) _ _ _ (by omega) HD1.out.2.2 (by decide)
    have hLW := MT.InL.below (hW.below (by omega) (Nat.le_refl _)) b o hbp _ HL1.out
    obtain ⟨c00, c01, c02, c03, c04⟩ : MT.CellsAt W b o y0 := (hLW.get 0 (by simp)).1
    obtain ⟨c10, c11, c12, c13, c14⟩ : MT.CellsAt W b (o + 5) y1 := (hLW.get 1 (by simp)).1
    obtain ⟨k0, k1, k2, k3, k4⟩ := cells5 nd
    exact ⟨k0, k1, k2, k3, k4, c00, c01, c02, c03, c04, c10, c11, c12, c13, c14⟩
  have hBW : base ≤ w1.heap.size := by omega
  obtain ⟨k0, k1, k2, k3, k4, c00, c01, c02, c03, c04, c10, c11, c12, c13, c14⟩ := HK.out w1 (PK.refl _ _ _)
  go_region_held3 (fun W => W.cell? ⟨w.heap.size, 0, none⟩ = some (.int .i64 5) ∧ W.cell? ⟨w.heap.size, 1, none⟩ = some (.string t) ∧ W.cell? ⟨w.heap.size, 2, none⟩ = some (.int .i64 n) ∧ W.cell? ⟨w.heap.size, 3, none⟩ = some (.int .i64 a) ∧ W.cell? ⟨w.heap.size, 4, none⟩ = some (.slice (some ⟨b, o, none⟩) 2 c) ∧ W.cell? ⟨b, o, none⟩ = some (.int .i64 y0.kind) ∧ W.cell? ⟨b, o + 1, none⟩ = some (.string y0.text) ∧ W.cell? ⟨b, o + 2, none⟩ = some (.int .i64 y0.num) ∧ W.cell? ⟨b, o + 3, none⟩ = some (.int .i64 y0.at_) ∧ W.cell? ⟨b, o + 4, none⟩ = some (.slice y0.ptr y0.kids.length y0.cap) ∧ W.cell? ⟨b, o + 5, none⟩ = some (.int .i64 y1.kind) ∧ W.cell? ⟨b, o + 5 + 1, none⟩ = some (.string y1.text) ∧ W.cell? ⟨b, o + 5 + 2, none⟩ = some (.int .i64 y1.num) ∧ W.cell? ⟨b, o + 5 + 3, none⟩ = some (.int .i64 y1.at_) ∧ W.cell? ⟨b, o + 5 + 4, none⟩ = some (.slice y1.ptr y1.kids.length y1.cap))
    (first | exact HK.out _ hk2 | exact HK.out _ (PK.of ((Below.refl _ _).drew.alloc (by simp) _) hBW) | exact HK.out _ (PK.drw _ _ _))
    (first | (go_at_call 98; refine (Hh.out _ _ _ (Nat.le_trans (Nat.le_of_eq HJ1.out) hi) (HD1.out.1.below (Below.refl _ _).drew) hBW ⟨In.pk (HL1.out.get 0 (by simp)).2 (PK.drw _ _ _) hpb, In.pk (HL1.out.get 1 (by simp)).2 (PK.drw _ _ _) hpb⟩).mono ?_; rintro e w2 ⟨⟨u2, rfl⟩, v2, hP2, hi2, hq2⟩; have hk2 : PK pb base w1 w2 := (PK.drw _ _ _).trans hq2; clear hq2))
  have HJ2 : Hid ((g (putS [⟨#[102, 117, 110, 99, 32]⟩, t] s)).ind = s.ind) := hi2.trans HJ1.out
  have HE : Hid (_ ∧ PK pb base w w2) := ⟨hP2, HD1.out.2.1.trans hk2⟩
  clear hP2 hk2 k0 k1 k2 k3 k4 c00 c01 c02 c03 c04 c10 c11 c12 c13 c14 hBW HK
  go_wp2_with fail
  go_end0
  exact ⟨⟨_, rfl⟩, v2, HE.out.1, HJ2.out, HE.out.2⟩
set_option maxRecDepth 100000 in
set_option maxHeartbeats 4000000 in
theorem de_6  {t : ByteArray} {n : Int} {a : Int} {p : Option Addr} {c : Nat} {y0 y1 y2 : MT}  {g0 g : PS → PS} (ht : t.size ≤ 4000000000) (h0 : Wf 69 pb base L y0 g0) (h : Wc 98 #[.pointer (some ⟨pb, 0, none⟩), nodeV y1, nodeV y2] pb base L (fun w => MT.In pb w y1 ∧ MT.In pb w y2) g) (hpb : pb < base) : Wf 65 pb base L (.node 6 t n a p c [y0, y1, y2]) (fun s => (g (putS [⟨#[41, 32]⟩, t] (g0 (putS [⟨#[102, 117, 110, 99, 32, 40]⟩] s))))) := by
  intro s v w hi hP hB hin
  have hkk := hin.kidsL
  simp only [MT.kids_node, MT.ptr_node] at hkk
  rcases hkk with hkk | ⟨b, o, rfl, hbp, hL⟩
  · cases hkk
  have Hh0 : Hid _ := h0
  clear h0
  have Hh : Hid _ := h
  clear h
  have hb0 : Below w.heap.size w (w.alloc (.cells #[.int .i64 6, .string t, .int .i64 n, .int .i64 a, .slice (some ⟨b, o, none⟩) 3 c] 24)) := below1 _ _
  have hP0 := hP.below hb0
  have hK0 : PK pb base w _ := PK.of (pb := pb) hb0 hB
  have HI0 : Hid _ := In.pk hin hK0 hpb
  have nd0 := heap_alloc_new w (.cells #[.int .i64 6, .string t, .int .i64 n, .int .i64 a, .slice (some ⟨b, o, none⟩) 3 c] 24)
  have HL0 : Hid (MT.InL pb _ b o [y0, y1, y2]) := MT.InL.below (hb0.mono (by omega)) b o hbp _ hL
  have hz0 := lt_of nd0
  have HD0 : Hid (_ ∧ _ ∧ _) := ⟨hP0, hK0, nd0⟩
  have hbz : b < w.heap.size := by omega
  clear hP hin hb0 hP0 hK0 nd0 hL
  rw [nv3]
  go_enter Tryz.func65, Tryz.ntmps65
  go_wp2_with fail
  refine (putc [⟨#[102, 117, 110, 99, 32, 40]⟩] HD0.out.1 hpb (Nat.le_trans hB HD0.out.2.1.size) (al_cons (by decide) al_nil) (by simp) (by first | rfl | simp)).mono ?_
  rintro e w1 ⟨⟨u1, rfl⟩, v1, hP1, hk1⟩
  have HJ1 : Hid ((putS [⟨#[102, 117, 110, 99, 32, 40]⟩] s).ind = s.ind) := (putS_ind _ _).trans (Eq.refl s.ind)
  have hK1 : PK pb base w w1 := HD0.out.2.1.trans hk1
  have nd1 := hk1.high (w.heap.size) _ _ _ (by omega) HD0.out.2.2 (by decide)
  have HI1 : Hid _ := In.pk HI0.out hk1 hpb
  have HL1 : Hid (MT.InL pb w1 b o [y0, y1, y2]) := MT.InL.below (hk1.below (by omega) (Nat.le_refl _)) b o hbp _ HL0.out
  have hz1 := lt_of nd1
  have HD1 : Hid (_ ∧ _ ∧ _) := ⟨hP1, hK1, nd1⟩
  obtain ⟨k0, k1, k2, k3, k4⟩ := cells5 nd1
  obtain ⟨c00, c01, c02, c03, c04⟩ : MT.CellsAt w1 b o y0 := (HL1.out.get 0 (by simp)).1
  have hbz1 : b < w1.heap.size := by omega
  clear hP1 hK1 nd1 hk1 HD0 HI0 HL0
  go_wp2_with fail
  refine (Hh0.out _ _ _ (Nat.le_trans (Nat.le_of_eq HJ1.out) hi) HD1.out.1 (Nat.le_trans hB HD1.out.2.1.size) (HL1.out.get 0 (by simp)).2).mono ?_
  rintro e w2 ⟨⟨u2, rfl⟩, v2, hP2, hi2, hk2⟩
  have HJ2 : Hid ((g0 (putS [⟨#[102, 117, 110, 99, 32, 40]⟩] s)).ind = s.ind) := hi2.trans HJ1.out
  clear hi2
  have hK2 : PK pb base w w2 := HD1.out.2.1.trans hk2
  have nd2 := hk2.high (w.heap.size) _ _ _ (by omega) HD1.out.2.2 (by decide)
  have HI2 : Hid _ := In.pk HI1.out hk2 hpb
  have HL2 : Hid (MT.InL pb w2 b o [y0, y1, y2]) := MT.InL.below (hk2.below (by omega) (Nat.le_refl _)) b o hbp _ HL1.out
  have hz2 := lt_of nd2
  have HD2 : Hid (_ ∧ _ ∧ _) := ⟨hP2, hK2, nd2⟩
  clear k0 k1 k2 k3 k4 c00 c01 c02 c03 c04
  obtain ⟨k0, k1, k2, k3, k4⟩ := cells5 nd2
  have hbz2 : b < w2.heap.size := by omega
  clear hP2 hK2 nd2 hk2 HD1 HI1 HJ1 HL1
  go_wp2_with fail
  refine (putc [⟨#[41, 32]⟩, t] HD2.out.1 hpb (Nat.le_trans hB HD2.out.2.1.size) (al_cons (by decide) (al_cons ht al_nil)) (by simp) (by first | rfl | simp)).mono ?_
  rintro e w3 ⟨⟨u3, rfl⟩, v3, hP3, hk3⟩
  have HJ3 : Hid ((putS [⟨#[41, 32]⟩, t] (g0 (putS [⟨#[102, 117, 110, 99, 32, 40]⟩] s))).ind = s.ind) := (putS_ind _ _).trans HJ2.out
  have hK3 : PK pb base w w3 := HD2.out.2.1.trans hk3
  have nd3 := hk3.high (w.heap.size) _ _ _ (by omega) HD2.out.2.2 (by decide)
  have HI3 : Hid _ := In.pk HI2.out hk3 hpb
  have HL3 : Hid (MT.InL pb w3 b o [y0, y1, y2]) := MT.InL.below (hk3.below (by omega) (Nat.le_refl _)) b o hbp _ HL2.out
  have hz3 := lt_of nd3
  have HD3 : Hid (_ ∧ _ ∧ _) := ⟨hP3, hK3, nd3⟩
  clear k0 k1 k2 k3 k4
  obtain ⟨k0, k1, k2, k3, k4⟩ := cells5 nd3
  have hbz3 : b < w3.heap.size := by omega
  clear hP3 hK3 nd3 hk3 HD2 HI2 HJ2 HL2
  go_wp2_with fail
  clear k0 k1 k2 k3 k4
  have HK : Hid (∀ W, PK pb base w3 W → (W.cell? ⟨w.heap.size, 0, none⟩ = some (.int .i64 6) ∧ W.cell? ⟨w.heap.size, 1, none⟩ = some (.string t) ∧ W.cell? ⟨w.heap.size, 2, none⟩ = some (.int .i64 n) ∧ W.cell? ⟨w.heap.size, 3, none⟩ = some (.int .i64 a) ∧ W.cell? ⟨w.heap.size, 4, none⟩ = some (.slice (some ⟨b, o, none⟩) 3 c) ∧ W.cell? ⟨b, o + 5, none⟩ = some (.int .i64 y1.kind) ∧ W.cell? ⟨b, o + 5 + 1, none⟩ = some (.string y1.text) ∧ W.cell? ⟨b, o + 5 + 2, none⟩ = some (.int .i64 y1.num) ∧ W.cell? ⟨b, o + 5 + 3, none⟩ = some (.int .i64 y1.at_) ∧ W.cell? ⟨b, o + 5 + 4, none⟩ = some (.slice y1.ptr y1.kids.length y1.cap) ∧ W.cell? ⟨b, o + 10, none⟩ = some (.int .i64 y2.kind) ∧ W.cell? ⟨b, o + 10 + 1, none⟩ = some (.string y2.text) ∧ W.cell? ⟨b, o + 10 + 2, none⟩ = some (.int .i64 y2.num) ∧ W.cell? ⟨b, o + 10 + 3, none⟩ = some (.int .i64 y2.at_) ∧ W.cell? ⟨b, o + 10 + 4, none⟩ = some (.slice y2.ptr y2.kids.length y2.cap))) := fun W hW => by
    have nd := hW.high (w.heap.size) _ _ _ (by omega) HD3.out.2.2 (by decide)
    have hLW := MT.InL.below (hW.below (by omega) (Nat.le_refl _)) b o hbp _ HL3.out
    obtain ⟨c10, c11, c12, c13, c14⟩ : MT.CellsAt W b (o + 5) y1 := (hLW.get 1 (by simp)).1
    obtain ⟨c20, c21, c22, c23, c24⟩ : MT.CellsAt W b (o + 10) y2 := (hLW.get 2 (by simp)).1
    obtain ⟨k0, k1, k2, k3, k4⟩ := cells5 nd
    exact ⟨k0, k1, k2, k3, k4, c10, c11, c12, c13, c14, c20, c21, c22, c23, c24⟩
  have hBW : base ≤ w3.heap.size := by omega
  obtain ⟨k0, k1, k2, k3, k4, c10, c11, c12, c13, c14, c20, c21, c22, c23, c24⟩ := HK.out w3 (PK.refl _ _ _)
  go_region_held3 (fun W => W.cell? ⟨w.heap.size, 0, none⟩ = some (.int .i64 6) ∧ W.cell? ⟨w.heap.size, 1, none⟩ = some (.string t) ∧ W.cell? ⟨w.heap.size, 2, none⟩ = some (.int .i64 n) ∧ W.cell? ⟨w.heap.size, 3, none⟩ = some (.int .i64 a) ∧ W.cell? ⟨w.heap.size, 4, none⟩ = some (.slice (some ⟨b, o, none⟩) 3 c) ∧ W.cell? ⟨b, o + 5, none⟩ = some (.int .i64 y1.kind) ∧ W.cell? ⟨b, o + 5 + 1, none⟩ = some (.string y1.text) ∧ W.cell? ⟨b, o + 5 + 2, none⟩ = some (.int .i64 y1.num) ∧ W.cell? ⟨b, o + 5 + 3, none⟩ = some (.int .i64 y1.at_) ∧ W.cell? ⟨b, o + 5 + 4, none⟩ = some (.slice y1.ptr y1.kids.length y1.cap) ∧ W.cell? ⟨b, o + 10, none⟩ = some (.int .i64 y2.kind) ∧ W.cell? ⟨b, o + 10 + 1, none⟩ = some (.string y2.text) ∧ W.cell? ⟨b, o + 10 + 2, none⟩ = some (.int .i64 y2.num) ∧ W.cell? ⟨b, o + 10 + 3, none⟩ = some (.int .i64 y2.at_) ∧ W.cell? ⟨b, o + 10 + 4, none⟩ = some (.slice y2.ptr y2.kids.length y2.cap))
    (first | exact HK.out _ hk4 | exact HK.out _ (PK.of ((Below.refl _ _).drew.alloc (by simp) _) hBW) | exact HK.out _ (PK.drw _ _ _))
    (first | (go_at_call 98; refine (Hh.out _ _ _ (Nat.le_trans (Nat.le_of_eq HJ3.out) hi) (HD3.out.1.below (Below.refl _ _).drew) hBW ⟨In.pk (HL3.out.get 1 (by simp)).2 (PK.drw _ _ _) hpb, In.pk (HL3.out.get 2 (by simp)).2 (PK.drw _ _ _) hpb⟩).mono ?_; rintro e w4 ⟨⟨u4, rfl⟩, v4, hP4, hi4, hq4⟩; have hk4 : PK pb base w3 w4 := (PK.drw _ _ _).trans hq4; clear hq4))
  have HJ4 : Hid ((g (putS [⟨#[41, 32]⟩, t] (g0 (putS [⟨#[102, 117, 110, 99, 32, 40]⟩] s)))).ind = s.ind) := hi4.trans HJ3.out
  have HE : Hid (_ ∧ PK pb base w w4) := ⟨hP4, HD3.out.2.1.trans hk4⟩
  clear hP4 hk4 k0 k1 k2 k3 k4 c10 c11 c12 c13 c14 c20 c21 c22 c23 c24 hBW HK
  go_wp2_with fail
  go_end0
  exact ⟨⟨_, rfl⟩, v4, HE.out.1, HJ4.out, HE.out.2⟩
set_option maxRecDepth 100000 in
set_option maxHeartbeats 4000000 in
theorem de_7  {t : ByteArray} {n : Int} {a : Int} {p : Option Addr} {c : Nat} {y0 : MT}  {g0 : PS → PS} (ht : t.size ≤ 4000000000) (h0 : Wf 71 pb base L y0 g0) (hpb : pb < base) : Wf 65 pb base L (.node 7 t n a p c [y0]) (fun s => (g0 (putS [⟨#[118, 97, 114, 32]⟩, t, ⟨#[32, 61, 32]⟩] s))) := by
  intro s v w hi hP hB hin
  have hkk := hin.kidsL
  simp only [MT.kids_node, MT.ptr_node] at hkk
  rcases hkk with hkk | ⟨b, o, rfl, hbp, hL⟩
  · cases hkk
  have Hh0 : Hid _ := h0
  clear h0
  have hb0 : Below w.heap.size w (w.alloc (.cells #[.int .i64 7, .string t, .int .i64 n, .int .i64 a, .slice (some ⟨b, o, none⟩) 1 c] 24)) := below1 _ _
  have hP0 := hP.below hb0
  have hK0 : PK pb base w _ := PK.of (pb := pb) hb0 hB
  have HI0 : Hid _ := In.pk hin hK0 hpb
  have nd0 := heap_alloc_new w (.cells #[.int .i64 7, .string t, .int .i64 n, .int .i64 a, .slice (some ⟨b, o, none⟩) 1 c] 24)
  have HL0 : Hid (MT.InL pb _ b o [y0]) := MT.InL.below (hb0.mono (by omega)) b o hbp _ hL
  have hz0 := lt_of nd0
  have HD0 : Hid (_ ∧ _ ∧ _) := ⟨hP0, hK0, nd0⟩
  have hbz : b < w.heap.size := by omega
  clear hP hin hb0 hP0 hK0 nd0 hL
  rw [nv1]
  go_enter Tryz.func65, Tryz.ntmps65
  go_wp2_with fail
  refine (putc [⟨#[118, 97, 114, 32]⟩, t, ⟨#[32, 61, 32]⟩] HD0.out.1 hpb (Nat.le_trans hB HD0.out.2.1.size) (al_cons (by decide) (al_cons ht (al_cons (by decide) al_nil))) (by simp) (by first | rfl | simp)).mono ?_
  rintro e w1 ⟨⟨u1, rfl⟩, v1, hP1, hk1⟩
  have HJ1 : Hid ((putS [⟨#[118, 97, 114, 32]⟩, t, ⟨#[32, 61, 32]⟩] s).ind = s.ind) := (putS_ind _ _).trans (Eq.refl s.ind)
  have hK1 : PK pb base w w1 := HD0.out.2.1.trans hk1
  have nd1 := hk1.high (w.heap.size) _ _ _ (by omega) HD0.out.2.2 (by decide)
  have HI1 : Hid _ := In.pk HI0.out hk1 hpb
  have HL1 : Hid (MT.InL pb w1 b o [y0]) := MT.InL.below (hk1.below (by omega) (Nat.le_refl _)) b o hbp _ HL0.out
  have hz1 := lt_of nd1
  have HD1 : Hid (_ ∧ _ ∧ _) := ⟨hP1, hK1, nd1⟩
  obtain ⟨k0, k1, k2, k3, k4⟩ := cells5 nd1
  obtain ⟨c00, c01, c02, c03, c04⟩ : MT.CellsAt w1 b o y0 := (HL1.out.get 0 (by simp)).1
  have hbz1 : b < w1.heap.size := by omega
  clear hP1 hK1 nd1 hk1 HD0 HI0 HL0
  go_wp2_with fail
  refine (Hh0.out _ _ _ (Nat.le_trans (Nat.le_of_eq HJ1.out) hi) HD1.out.1 (Nat.le_trans hB HD1.out.2.1.size) (HL1.out.get 0 (by simp)).2).mono ?_
  rintro e w2 ⟨⟨u2, rfl⟩, v2, hP2, hi2, hk2⟩
  have HJ2 : Hid ((g0 (putS [⟨#[118, 97, 114, 32]⟩, t, ⟨#[32, 61, 32]⟩] s)).ind = s.ind) := hi2.trans HJ1.out
  clear hi2
  have HE : Hid (_ ∧ PK pb base w w2) := ⟨hP2, HD1.out.2.1.trans hk2⟩
  clear hP2 hk2 k0 k1 k2 k3 k4 c00 c01 c02 c03 c04
  go_wp2_with fail
  go_end0
  exact ⟨⟨_, rfl⟩, v2, HE.out.1, HJ2.out, HE.out.2⟩
set_option maxRecDepth 100000 in
set_option maxHeartbeats 4000000 in
theorem caseItem_15  {t : ByteArray} {n : Int} {a : Int} {p : Option Addr} {c : Nat} {ks : List MT}  {g : PS → PS} (h : Wf 72 pb base L (.node 15 t n a p c ks) g) (hpb : pb < base) : Wf 138 pb base L (.node 15 t n a p c ks) (fun s => (g s)) := by
  intro s v w hi hP hB hin
  have Hh : Hid _ := h
  clear h
  have hb0 : Below w.heap.size w (w.alloc (.cells #[.int .i64 15, .string t, .int .i64 n, .int .i64 a, .slice p ks.length c] 24)) := below1 _ _
  have hP0 := hP.below hb0
  have hK0 : PK pb base w _ := PK.of (pb := pb) hb0 hB
  have HI0 : Hid _ := In.pk hin hK0 hpb
  have nd0 := heap_alloc_new w (.cells #[.int .i64 15, .string t, .int .i64 n, .int .i64 a, .slice p ks.length c] 24)
  have hz0 := lt_of nd0
  have HD0 : Hid (_ ∧ _ ∧ _) := ⟨hP0, hK0, nd0⟩
  clear hP hin hb0 hP0 hK0 nd0
  rw [nvk]
  go_enter Tryz.func138, Tryz.ntmps138
  go_wp2_with fail
  refine (Hh.out _ _ _ (Nat.le_trans (Nat.le_of_eq (Eq.refl s.ind)) hi) HD0.out.1 (Nat.le_trans hB HD0.out.2.1.size) HI0.out).mono ?_
  rintro e w1 ⟨⟨u1, rfl⟩, v1, hP1, hi1, hk1⟩
  have HJ1 : Hid ((g s).ind = s.ind) := hi1.trans (Eq.refl s.ind)
  clear hi1
  have HE : Hid (_ ∧ PK pb base w w1) := ⟨hP1, HD0.out.2.1.trans hk1⟩
  clear hP1 hk1 
  go_wp2_with fail
  refine bodyPost_ret (results_none rfl _ _ _) rfl ?_
  exact ⟨⟨_, rfl⟩, v1, HE.out.1, HJ1.out, HE.out.2⟩
set_option maxRecDepth 100000 in
set_option maxHeartbeats 4000000 in
theorem caseItem_e {y : MT}  {g : PS → PS} (hk : (y.kind == 15) = false) (h : Wf 71 pb base L y g) (hpb : pb < base) : Wf 138 pb base L y (fun s => (g s)) := by
  intro s v w hi hP hB hin
  have Hh : Hid _ := h
  clear h
  have hb0 : Below w.heap.size w (w.alloc (.cells #[.int .i64 y.kind, .string y.text, .int .i64 y.num, .int .i64 y.at_, .slice y.ptr y.kids.length y.cap] 24)) := below1 _ _
  have hP0 := hP.below hb0
  have hK0 : PK pb base w _ := PK.of (pb := pb) hb0 hB
  have HI0 : Hid _ := In.pk hin hK0 hpb
  have nd0 := heap_alloc_new w (.cells #[.int .i64 y.kind, .string y.text, .int .i64 y.num, .int .i64 y.at_, .slice y.ptr y.kids.length y.cap] 24)
  have hz0 := lt_of nd0
  have HD0 : Hid (_ ∧ _ ∧ _) := ⟨hP0, hK0, nd0⟩
  clear hP hin hb0 hP0 hK0 nd0
  go_enter Tryz.func138, Tryz.ntmps138
  go_wp2_with fail
  refine (Hh.out _ _ _ (Nat.le_trans (Nat.le_of_eq (Eq.refl s.ind)) hi) HD0.out.1 (Nat.le_trans hB HD0.out.2.1.size) HI0.out).mono ?_
  rintro e w1 ⟨⟨u1, rfl⟩, v1, hP1, hi1, hk1⟩
  have HJ1 : Hid ((g s).ind = s.ind) := hi1.trans (Eq.refl s.ind)
  clear hi1
  have HE : Hid (_ ∧ PK pb base w w1) := ⟨hP1, HD0.out.2.1.trans hk1⟩
  clear hP1 hk1 
  go_wp2_with fail
  go_end0
  exact ⟨⟨_, rfl⟩, v1, HE.out.1, HJ1.out, HE.out.2⟩
set_option maxRecDepth 100000 in
set_option maxHeartbeats 4000000 in
theorem caseHead_16  {t : ByteArray} {n : Int} {a : Int} {p : Option Addr} {c : Nat} {ks : List MT}   (hpb : pb < base) : Wf 110 pb base L (.node 16 t n a p c ks) (fun s => (putS [⟨#[100, 101, 102, 97, 117, 108, 116, 58]⟩] s)) := by
  intro s v w hi hP hB hin
  have hb0 : Below w.heap.size w (w.alloc (.cells #[.int .i64 16, .string t, .int .i64 n, .int .i64 a, .slice p ks.length c] 24)) := below1 _ _
  have hP0 := hP.below hb0
  have hK0 : PK pb base w _ := PK.of (pb := pb) hb0 hB
  have HI0 : Hid _ := In.pk hin hK0 hpb
  have nd0 := heap_alloc_new w (.cells #[.int .i64 16, .string t, .int .i64 n, .int .i64 a, .slice p ks.length c] 24)
  have hz0 := lt_of nd0
  have HD0 : Hid (_ ∧ _ ∧ _) := ⟨hP0, hK0, nd0⟩
  clear hP hin hb0 hP0 hK0 nd0
  rw [nvk]
  go_enter Tryz.func110, Tryz.ntmps110
  go_wp2_with fail
  refine (putc [⟨#[100, 101, 102, 97, 117, 108, 116, 58]⟩] HD0.out.1 hpb (Nat.le_trans hB HD0.out.2.1.size) (al_cons (by decide) al_nil) (by simp) (by first | rfl | simp)).mono ?_
  rintro e w1 ⟨⟨u1, rfl⟩, v1, hP1, hk1⟩
  have HJ1 : Hid ((putS [⟨#[100, 101, 102, 97, 117, 108, 116, 58]⟩] s).ind = s.ind) := (putS_ind _ _).trans (Eq.refl s.ind)
  have HE : Hid (_ ∧ PK pb base w w1) := ⟨hP1, HD0.out.2.1.trans hk1⟩
  clear hP1 hk1 
  go_wp2_with fail
  refine bodyPost_ret (results_none rfl _ _ _) rfl ?_
  exact ⟨⟨_, rfl⟩, v1, HE.out.1, HJ1.out, HE.out.2⟩
set_option maxRecDepth 100000 in
set_option maxHeartbeats 4000000 in
theorem caseHead_38  {t : ByteArray} {n : Int} {a : Int} {p : Option Addr} {c : Nat} {ks : List MT}  {g : PS → PS} (h : Wc 70 #[.pointer (some ⟨pb, 0, none⟩), .slice p ks.length c, .func (.func 138) #[.pointer (some ⟨pb, 0, none⟩)] #[]] pb base L (Kd pb p ks) g) (hpb : pb < base) : Wf 110 pb base L (.node 38 t n a p c ks) (fun s => (putS [⟨#[58]⟩] (g (putS [⟨#[99, 97, 115, 101, 32]⟩] s)))) := by
  intro s v w hi hP hB hin
  have Hh : Hid _ := h
  clear h
  have hb0 : Below w.heap.size w (w.alloc (.cells #[.int .i64 38, .string t, .int .i64 n, .int .i64 a, .slice p ks.length c] 24)) := below1 _ _
  have hP0 := hP.below hb0
  have hK0 : PK pb base w _ := PK.of (pb := pb) hb0 hB
  have HI0 : Hid _ := In.pk hin hK0 hpb
  have nd0 := heap_alloc_new w (.cells #[.int .i64 38, .string t, .int .i64 n, .int .i64 a, .slice p ks.length c] 24)
  have hz0 := lt_of nd0
  have HD0 : Hid (_ ∧ _ ∧ _) := ⟨hP0, hK0, nd0⟩
  clear hP hin hb0 hP0 hK0 nd0
  rw [nvk]
  go_enter Tryz.func110, Tryz.ntmps110
  go_wp2_with fail
  refine (putc [⟨#[99, 97, 115, 101, 32]⟩] HD0.out.1 hpb (Nat.le_trans hB HD0.out.2.1.size) (al_cons (by decide) al_nil) (by simp) (by first | rfl | simp)).mono ?_
  rintro e w1 ⟨⟨u1, rfl⟩, v1, hP1, hk1⟩
  have HJ1 : Hid ((putS [⟨#[99, 97, 115, 101, 32]⟩] s).ind = s.ind) := (putS_ind _ _).trans (Eq.refl s.ind)
  have hK1 : PK pb base w w1 := HD0.out.2.1.trans hk1
  have nd1 := hk1.high (w.heap.size) _ _ _ (by omega) HD0.out.2.2 (by decide)
  have HI1 : Hid _ := In.pk HI0.out hk1 hpb
  have hz1 := lt_of nd1
  have HD1 : Hid (_ ∧ _ ∧ _) := ⟨hP1, hK1, nd1⟩
  obtain ⟨k0, k1, k2, k3, k4⟩ := cells5 nd1
  clear hP1 hK1 nd1 hk1 HD0 HI0
  go_wp2_with fail
  refine (Hh.out _ _ _ (Nat.le_trans (Nat.le_of_eq HJ1.out) hi) HD1.out.1 (Nat.le_trans hB HD1.out.2.1.size) (Kd.of HI1.out)).mono ?_
  rintro e w2 ⟨⟨u2, rfl⟩, v2, hP2, hi2, hk2⟩
  have HJ2 : Hid ((g (putS [⟨#[99, 97, 115, 101, 32]⟩] s)).ind = s.ind) := hi2.trans HJ1.out
  clear hi2
  have hK2 : PK pb base w w2 := HD1.out.2.1.trans hk2
  have nd2 := hk2.high (w.heap.size) _ _ _ (by omega) HD1.out.2.2 (by decide)
  have HI2 : Hid _ := In.pk HI1.out hk2 hpb
  have hz2 := lt_of nd2
  have HD2 : Hid (_ ∧ _ ∧ _) := ⟨hP2, hK2, nd2⟩
  clear k0 k1 k2 k3 k4
  obtain ⟨k0, k1, k2, k3, k4⟩ := cells5 nd2
  clear hP2 hK2 nd2 hk2 HD1 HI1 HJ1
  go_wp2_with fail
  refine (putc [⟨#[58]⟩] HD2.out.1 hpb (Nat.le_trans hB HD2.out.2.1.size) (al_cons (by decide) al_nil) (by simp) (by first | rfl | simp)).mono ?_
  rintro e w3 ⟨⟨u3, rfl⟩, v3, hP3, hk3⟩
  have HJ3 : Hid ((putS [⟨#[58]⟩] (g (putS [⟨#[99, 97, 115, 101, 32]⟩] s))).ind = s.ind) := (putS_ind _ _).trans HJ2.out
  have HE : Hid (_ ∧ PK pb base w w3) := ⟨hP3, HD2.out.2.1.trans hk3⟩
  clear hP3 hk3 k0 k1 k2 k3 k4
  go_wp2_with fail
  go_end0
  exact ⟨⟨_, rfl⟩, v3, HE.out.1, HJ3.out, HE.out.2⟩
end Go.Proofs.YthbnegggohegkaaGreatDoor
