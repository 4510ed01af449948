/-
  The small writers.
-/
import Derived.Test.YthbnegggohegkaaGreatDoorGmJ
namespace Go.Proofs.YthbnegggohegkaaGreatDoor
open Go.RowKit
variable {pb base L : Nat} {s : PS} {v : Value} {w w' : World}
set_option maxRecDepth 100000 in
set_option maxHeartbeats 4000000 in
theorem typeName_14  {t : ByteArray} {n : Int} {a : Int} {p : Option Addr} {c : Nat}  (ht : t.size ≤ 4000000000) (hpb : pb < base) : Wf 72 pb base L (.node 14 t n a p c []) (fun s => (putS [t] s)) := by
  intro s v w hi hP hB hin
  have hb0 : Below w.heap.size w (w.alloc (.cells #[.int .i64 14, .string t, .int .i64 n, .int .i64 a, .slice p 0 c] 24)) := below1 _ _
  have hP0 := hP.below hb0
  have hK0 : PK pb base w _ := PK.of (pb := pb) hb0 hB
  have HI0 : Hid _ := In.pk hin hK0 hpb
  have nd0 := heap_alloc_new w (.cells #[.int .i64 14, .string t, .int .i64 n, .int .i64 a, .slice p 0 c] 24)
  have hz0 := lt_of nd0
  have HD0 : Hid (_ ∧ _ ∧ _) := ⟨hP0, hK0, nd0⟩
  clear hP hin hb0 hP0 hK0 nd0
  rw [nv0]
  go_enter Tryz.func72, Tryz.ntmps72
  go_wp2_with fail
  refine (putc [t] HD0.out.1 hpb (Nat.le_trans hB HD0.out.2.1.size) (al_cons ht al_nil) (by simp) (by first | rfl | simp)).mono ?_
  rintro e w1 ⟨⟨u1, rfl⟩, v1, hP1, hk1⟩
  have HJ1 : Hid ((putS [t] s).ind = s.ind) := (putS_ind _ _).trans (Eq.refl s.ind)
  have HE : Hid (_ ∧ PK pb base w w1) := ⟨hP1, HD0.out.2.1.trans hk1⟩
  clear hP1 hk1 
  go_wp2_with fail
  go_end0
  exact ⟨⟨_, rfl⟩, v1, HE.out.1, HJ1.out, HE.out.2⟩
set_option maxRecDepth 100000 in
set_option maxHeartbeats 4000000 in
theorem typeName_15  {t : ByteArray} {n : Int} {a : Int} {p : Option Addr} {c : Nat} {y0 : MT}  (ht : y0.text.size ≤ 4000000000) (hpb : pb < base) : Wf 72 pb base L (.node 15 t n a p c [y0]) (fun s => (putS [⟨#[42]⟩, y0.text] s)) := by
  intro s v w hi hP hB hin
  have hkk := hin.kidsL
  simp only [MT.kids_node, MT.ptr_node] at hkk
  rcases hkk with hkk | ⟨b, o, rfl, hbp, hL⟩
  · cases hkk
  have hb0 : Below w.heap.size w (w.alloc (.cells #[.int .i64 15, .string t, .int .i64 n, .int .i64 a, .slice (some ⟨b, o, none⟩) 1 c] 24)) := below1 _ _
  have hP0 := hP.below hb0
  have hK0 : PK pb base w _ := PK.of (pb := pb) hb0 hB
  have HI0 : Hid _ := In.pk hin hK0 hpb
  have nd0 := heap_alloc_new w (.cells #[.int .i64 15, .string t, .int .i64 n, .int .i64 a, .slice (some ⟨b, o, none⟩) 1 c] 24)
  have HL0 : Hid (MT.InL pb _ b o [y0]) := MT.InL.below (hb0.mono (by omega)) b o hbp _ hL
  have hz0 := lt_of nd0
  have HD0 : Hid (_ ∧ _ ∧ _) := ⟨hP0, hK0, nd0⟩
  have hbz : b < w.heap.size := by omega
  obtain ⟨c00, c01, c02, c03, c04⟩ : MT.CellsAt w b o y0 := (hL.get 0 (by simp)).1
  clear hP hin hb0 hP0 hK0 nd0 hL
  rw [nv1]
  go_enter Tryz.func72, Tryz.ntmps72
  go_wp2_with fail
  refine (putc [⟨#[42]⟩, y0.text] HD0.out.1 hpb (Nat.le_trans hB HD0.out.2.1.size) (al_cons (by decide) (al_cons ht al_nil)) (by simp) (by first | rfl | simp)).mono ?_
  rintro e w1 ⟨⟨u1, rfl⟩, v1, hP1, hk1⟩
  have HJ1 : Hid ((putS [⟨#[42]⟩, y0.text] s).ind = s.ind) := (putS_ind _ _).trans (Eq.refl s.ind)
  have HE : Hid (_ ∧ PK pb base w w1) := ⟨hP1, HD0.out.2.1.trans hk1⟩
  clear hP1 hk1 c00 c01 c02 c03 c04
  go_wp2_with fail
  refine bodyPost_ret (results_none rfl _ _ _) rfl ?_
  exact ⟨⟨_, rfl⟩, v1, HE.out.1, HJ1.out, HE.out.2⟩
set_option maxRecDepth 100000 in
set_option maxHeartbeats 4000000 in
theorem structPart_8  {t : ByteArray} {n : Int} {a : Int} {p : Option Addr} {c : Nat}  (ht : t.size ≤ 4000000000) (hpb : pb < base) : Wf 67 pb base L (.node 8 t n a p c []) (fun s => (putS [t] s)) := by
  intro s v w hi hP hB hin
  have hb0 : Below w.heap.size w (w.alloc (.cells #[.int .i64 8, .string t, .int .i64 n, .int .i64 a, .slice p 0 c] 24)) := below1 _ _
  have hP0 := hP.below hb0
  have hK0 : PK pb base w _ := PK.of (pb := pb) hb0 hB
  have HI0 : Hid _ := In.pk hin hK0 hpb
  have nd0 := heap_alloc_new w (.cells #[.int .i64 8, .string t, .int .i64 n, .int .i64 a, .slice p 0 c] 24)
  have hz0 := lt_of nd0
  have HD0 : Hid (_ ∧ _ ∧ _) := ⟨hP0, hK0, nd0⟩
  clear hP hin hb0 hP0 hK0 nd0
  rw [nv0]
  go_enter Tryz.func67, Tryz.ntmps67
  go_wp2_with fail
  refine (putc [t] HD0.out.1 hpb (Nat.le_trans hB HD0.out.2.1.size) (al_cons ht al_nil) (by simp) (by first | rfl | simp)).mono ?_
  rintro e w1 ⟨⟨u1, rfl⟩, v1, hP1, hk1⟩
  have HJ1 : Hid ((putS [t] s).ind = s.ind) := (putS_ind _ _).trans (Eq.refl s.ind)
  have HE : Hid (_ ∧ PK pb base w w1) := ⟨hP1, HD0.out.2.1.trans hk1⟩
  clear hP1 hk1 
  go_wp2_with fail
  go_end0
  exact ⟨⟨_, rfl⟩, v1, HE.out.1, HJ1.out, HE.out.2⟩
set_option maxRecDepth 100000 in
set_option maxHeartbeats 4000000 in
theorem structPart_9  {t : ByteArray} {n : Int} {a : Int} {p : Option Addr} {c : Nat}  (ht : t.size ≤ 4000000000) (hpb : pb < base) : Wf 67 pb base L (.node 9 t n a p c []) (fun s => (putS [t] (putS [⟨#[46]⟩] s))) := by
  intro s v w hi hP hB hin
  have hb0 : Below w.heap.size w (w.alloc (.cells #[.int .i64 9, .string t, .int .i64 n, .int .i64 a, .slice p 0 c] 24)) := below1 _ _
  have hP0 := hP.below hb0
  have hK0 : PK pb base w _ := PK.of (pb := pb) hb0 hB
  have HI0 : Hid _ := In.pk hin hK0 hpb
  have nd0 := heap_alloc_new w (.cells #[.int .i64 9, .string t, .int .i64 n, .int .i64 a, .slice p 0 c] 24)
  have hz0 := lt_of nd0
  have HD0 : Hid (_ ∧ _ ∧ _) := ⟨hP0, hK0, nd0⟩
  clear hP hin hb0 hP0 hK0 nd0
  rw [nv0]
  go_enter Tryz.func67, Tryz.ntmps67
  go_wp2_with fail
  refine (putc [⟨#[46]⟩] HD0.out.1 hpb (Nat.le_trans hB HD0.out.2.1.size) (al_cons (by decide) al_nil) (by simp) (by first | rfl | simp)).mono ?_
  rintro e w1 ⟨⟨u1, rfl⟩, v1, hP1, hk1⟩
  have HJ1 : Hid ((putS [⟨#[46]⟩] s).ind = s.ind) := (putS_ind _ _).trans (Eq.refl s.ind)
  have hK1 : PK pb base w w1 := HD0.out.2.1.trans hk1
  have nd1 := hk1.high (w.heap.size) _ _ _ (by omega) HD0.out.2.2 (by decide)
  have HI1 : Hid _ := In.pk HI0.out hk1 hpb
  have hz1 := lt_of nd1
  have HD1 : Hid (_ ∧ _ ∧ _) := ⟨hP1, hK1, nd1⟩
  obtain ⟨k0, k1, k2, k3, k4⟩ := cells5 nd1
  clear hP1 hK1 nd1 hk1 HD0 HI0
  go_wp2_with fail
  refine (putc [t] HD1.out.1 hpb (Nat.le_trans hB HD1.out.2.1.size) (al_cons ht al_nil) (by simp) (by first | rfl | simp)).mono ?_
  rintro e w2 ⟨⟨u2, rfl⟩, v2, hP2, hk2⟩
  have HJ2 : Hid ((putS [t] (putS [⟨#[46]⟩] s)).ind = s.ind) := (putS_ind _ _).trans HJ1.out
  have HE : Hid (_ ∧ PK pb base w w2) := ⟨hP2, HD1.out.2.1.trans hk2⟩
  clear hP2 hk2 k0 k1 k2 k3 k4
  go_wp2_with fail
  go_end0
  exact ⟨⟨_, rfl⟩, v2, HE.out.1, HJ2.out, HE.out.2⟩
set_option maxRecDepth 100000 in
set_option maxHeartbeats 4000000 in
theorem structPart_10  {t : ByteArray} {n : Int} {a : Int} {p : Option Addr} {c : Nat}  (ht : t.size ≤ 4000000000) (hpb : pb < base) : Wf 67 pb base L (.node 10 t n a p c []) (fun s => (putS [t] (putS [⟨#[46, 42]⟩] s))) := by
  intro s v w hi hP hB hin
  have hb0 : Below w.heap.size w (w.alloc (.cells #[.int .i64 10, .string t, .int .i64 n, .int .i64 a, .slice p 0 c] 24)) := below1 _ _
  have hP0 := hP.below hb0
  have hK0 : PK pb base w _ := PK.of (pb := pb) hb0 hB
  have HI0 : Hid _ := In.pk hin hK0 hpb
  have nd0 := heap_alloc_new w (.cells #[.int .i64 10, .string t, .int .i64 n, .int .i64 a, .slice p 0 c] 24)
  have hz0 := lt_of nd0
  have HD0 : Hid (_ ∧ _ ∧ _) := ⟨hP0, hK0, nd0⟩
  clear hP hin hb0 hP0 hK0 nd0
  rw [nv0]
  go_enter Tryz.func67, Tryz.ntmps67
  go_wp2_with fail
  refine (putc [⟨#[46, 42]⟩] HD0.out.1 hpb (Nat.le_trans hB HD0.out.2.1.size) (al_cons (by decide) al_nil) (by simp) (by first | rfl | simp)).mono ?_
  rintro e w1 ⟨⟨u1, rfl⟩, v1, hP1, hk1⟩
  have HJ1 : Hid ((putS [⟨#[46, 42]⟩] s).ind = s.ind) := (putS_ind _ _).trans (Eq.refl s.ind)
  have hK1 : PK pb base w w1 := HD0.out.2.1.trans hk1
  have nd1 := hk1.high (w.heap.size) _ _ _ (by omega) HD0.out.2.2 (by decide)
  have HI1 : Hid _ := In.pk HI0.out hk1 hpb
  have hz1 := lt_of nd1
  have HD1 : Hid (_ ∧ _ ∧ _) := ⟨hP1, hK1, nd1⟩
  obtain ⟨k0, k1, k2, k3, k4⟩ := cells5 nd1
  clear hP1 hK1 nd1 hk1 HD0 HI0
  go_wp2_with fail
  refine (putc [t] HD1.out.1 hpb (Nat.le_trans hB HD1.out.2.1.size) (al_cons ht al_nil) (by simp) (by first | rfl | simp)).mono ?_
  rintro e w2 ⟨⟨u2, rfl⟩, v2, hP2, hk2⟩
  have HJ2 : Hid ((putS [t] (putS [⟨#[46, 42]⟩] s)).ind = s.ind) := (putS_ind _ _).trans HJ1.out
  have HE : Hid (_ ∧ PK pb base w w2) := ⟨hP2, HD1.out.2.1.trans hk2⟩
  clear hP2 hk2 k0 k1 k2 k3 k4
  go_wp2_with fail
  go_end0
  exact ⟨⟨_, rfl⟩, v2, HE.out.1, HJ2.out, HE.out.2⟩
set_option maxRecDepth 100000 in
set_option maxHeartbeats 4000000 in
theorem protocolPart_9  {t : ByteArray} {n : Int} {a : Int} {p : Option Addr} {c : Nat}  (ht : t.size ≤ 4000000000) (hpb : pb < base) : Wf 68 pb base L (.node 9 t n a p c []) (fun s => (putS [t] s)) := by
  intro s v w hi hP hB hin
  have hb0 : Below w.heap.size w (w.alloc (.cells #[.int .i64 9, .string t, .int .i64 n, .int .i64 a, .slice p 0 c] 24)) := below1 _ _
  have hP0 := hP.below hb0
  have hK0 : PK pb base w _ := PK.of (pb := pb) hb0 hB
  have HI0 : Hid _ := In.pk hin hK0 hpb
  have nd0 := heap_alloc_new w (.cells #[.int .i64 9, .string t, .int .i64 n, .int .i64 a, .slice p 0 c] 24)
  have hz0 := lt_of nd0
  have HD0 : Hid (_ ∧ _ ∧ _) := ⟨hP0, hK0, nd0⟩
  clear hP hin hb0 hP0 hK0 nd0
  rw [nv0]
  go_enter Tryz.func68, Tryz.ntmps68
  go_wp2_with fail
  refine (putc [t] HD0.out.1 hpb (Nat.le_trans hB HD0.out.2.1.size) (al_cons ht al_nil) (by simp) (by first | rfl | simp)).mono ?_
  rintro e w1 ⟨⟨u1, rfl⟩, v1, hP1, hk1⟩
  have HJ1 : Hid ((putS [t] s).ind = s.ind) := (putS_ind _ _).trans (Eq.refl s.ind)
  have hK1 : PK pb base w w1 := HD0.out.2.1.trans hk1
  have nd1 := hk1.high (w.heap.size) _ _ _ (by omega) HD0.out.2.2 (by decide)
  have HI1 : Hid _ := In.pk HI0.out hk1 hpb
  have hz1 := lt_of nd1
  have HD1 : Hid (_ ∧ _ ∧ _) := ⟨hP1, hK1, nd1⟩
  obtain ⟨k0, k1, k2, k3, k4⟩ := cells5 nd1
  clear hP1 hK1 nd1 hk1 HD0 HI0
  go_wp2_with fail
  go_end0
  exact ⟨⟨_, rfl⟩, v1, HD1.out.1, HJ1.out, HD1.out.2.1⟩
set_option maxRecDepth 100000 in
set_option maxHeartbeats 4000000 in
theorem pair_name  {t : ByteArray} {n : Int} {a : Int} {p : Option Addr} {c : Nat} {y0 : MT}  {g0 : PS → PS} (ht : t.size ≤ 4000000000) (hne : t.toList.isEmpty = false) (h0 : Wf 71 pb base L y0 g0) (hpb : pb < base) : Wf 75 pb base L (.node 40 t n a p c [y0]) (fun s => (g0 (putS [⟨#[58, 32]⟩] (putS [t] s)))) := by
  intro s v w hi hP hB hin
  have hkk := hin.kidsL
  simp only [MT.kids_node, MT.ptr_node] at hkk
  rcases hkk with hkk | ⟨b, o, rfl, hbp, hL⟩
  · cases hkk
  have Hh0 : Hid _ := h0
  clear h0
  have hb0 : Below w.heap.size w (w.alloc (.cells #[.int .i64 40, .string t, .int .i64 n, .int .i64 a, .slice (some ⟨b, o, none⟩) 1 c] 24)) := below1 _ _
  have hP0 := hP.below hb0
  have hK0 : PK pb base w _ := PK.of (pb := pb) hb0 hB
  have HI0 : Hid _ := In.pk hin hK0 hpb
  have nd0 := heap_alloc_new w (.cells #[.int .i64 40, .string t, .int .i64 n, .int .i64 a, .slice (some ⟨b, o, none⟩) 1 c] 24)
  have HL0 : Hid (MT.InL pb _ b o [y0]) := MT.InL.below (hb0.mono (by omega)) b o hbp _ hL
  have hz0 := lt_of nd0
  have HD0 : Hid (_ ∧ _ ∧ _) := ⟨hP0, hK0, nd0⟩
  have hbz : b < w.heap.size := by omega
  clear hP hin hb0 hP0 hK0 nd0 hL
  rw [nv1]
  go_enter Tryz.func75, Tryz.ntmps75
  go_wp2_with fail
  refine (putc [t] HD0.out.1 hpb (Nat.le_trans hB HD0.out.2.1.size) (al_cons ht al_nil) (by simp) (by first | rfl | simp)).mono ?_
  rintro e w1 ⟨⟨u1, rfl⟩, v1, hP1, hk1⟩
  have HJ1 : Hid ((putS [t] s).ind = s.ind) := (putS_ind _ _).trans (Eq.refl s.ind)
  have hK1 : PK pb base w w1 := HD0.out.2.1.trans hk1
  have nd1 := hk1.high (w.heap.size) _ _ _ (by omega) HD0.out.2.2 (by decide)
  have HI1 : Hid _ := In.pk HI0.out hk1 hpb
  have HL1 : Hid (MT.InL pb w1 b o [y0]) := MT.InL.below (hk1.below (by omega) (Nat.le_refl _)) b o hbp _ HL0.out
  have hz1 := lt_of nd1
  have HD1 : Hid (_ ∧ _ ∧ _) := ⟨hP1, hK1, nd1⟩
  obtain ⟨k0, k1, k2, k3, k4⟩ := cells5 nd1
  have hbz1 : b < w1.heap.size := by omega
  clear hP1 hK1 nd1 hk1 HD0 HI0 HL0
  go_wp2_with fail
  refine (putc [⟨#[58, 32]⟩] HD1.out.1 hpb (Nat.le_trans hB HD1.out.2.1.size) (al_cons (by decide) al_nil) (by simp) (by first | rfl | simp)).mono ?_
  rintro e w2 ⟨⟨u2, rfl⟩, v2, hP2, hk2⟩
  have HJ2 : Hid ((putS [⟨#[58, 32]⟩] (putS [t] s)).ind = s.ind) := (putS_ind _ _).trans HJ1.out
  have hK2 : PK pb base w w2 := HD1.out.2.1.trans hk2
  have nd2 := hk2.high (w.heap.size) _ _ _ (by omega) HD1.out.2.2 (by decide)
  have HI2 : Hid _ := In.pk HI1.out hk2 hpb
  have HL2 : Hid (MT.InL pb w2 b o [y0]) := MT.InL.below (hk2.below (by omega) (Nat.le_refl _)) b o hbp _ HL1.out
  have hz2 := lt_of nd2
  have HD2 : Hid (_ ∧ _ ∧ _) := ⟨hP2, hK2, nd2⟩
  clear k0 k1 k2 k3 k4
  obtain ⟨k0, k1, k2, k3, k4⟩ := cells5 nd2
  obtain ⟨c00, c01, c02, c03, c04⟩ : MT.CellsAt w2 b o y0 := (HL2.out.get 0 (by simp)).1
  have hbz2 : b < w2.heap.size := by omega
  clear hP2 hK2 nd2 hk2 HD1 HI1 HJ1 HL1
  go_wp2_with fail
  refine (Hh0.out _ _ _ (Nat.le_trans (Nat.le_of_eq HJ2.out) hi) HD2.out.1 (Nat.le_trans hB HD2.out.2.1.size) (HL2.out.get 0 (by simp)).2).mono ?_
  rintro e w3 ⟨⟨u3, rfl⟩, v3, hP3, hi3, hk3⟩
  have HJ3 : Hid ((g0 (putS [⟨#[58, 32]⟩] (putS [t] s))).ind = s.ind) := hi3.trans HJ2.out
  clear hi3
  have HE : Hid (_ ∧ PK pb base w w3) := ⟨hP3, HD2.out.2.1.trans hk3⟩
  clear hP3 hk3 k0 k1 k2 k3 k4 c00 c01 c02 c03 c04
  go_wp2_with fail
  go_end0
  exact ⟨⟨_, rfl⟩, v3, HE.out.1, HJ3.out, HE.out.2⟩
set_option maxRecDepth 100000 in
set_option maxHeartbeats 4000000 in
theorem two_any  {t : ByteArray} {n : Int} {a : Int} {p : Option Addr} {c : Nat} {y0 y1 y2 : MT}  {k : Int} {sg : ByteArray} {g2 : PS → PS} (h0 : y0.text.size ≤ 4000000000) (h1 : y1.text.size ≤ 4000000000) (hs : sg.size ≤ 4000000000) (h2 : Wf 71 pb base L y2 g2) (hpb : pb < base) : Wc 103 #[.pointer (some ⟨pb, 0, none⟩), nodeV (.node k t n a p c [y0, y1, y2]), .string sg] pb base L (fun w => MT.In pb w (.node k t n a p c [y0, y1, y2])) (fun s => (g2 (putS [y0.text, ⟨#[44, 32]⟩, y1.text, sg] s))) := by
  intro s v w hi hP hB hin
  have hkk := hin.kidsL
  simp only [MT.kids_node, MT.ptr_node] at hkk
  rcases hkk with hkk | ⟨b, o, rfl, hbp, hL⟩
  · cases hkk
  have Hh2 : Hid _ := h2
  clear h2
  have hb0 : Below w.heap.size w (w.alloc (.cells #[.int .i64 k, .string t, .int .i64 n, .int .i64 a, .slice (some ⟨b, o, none⟩) 3 c] 24)) := below1 _ _
  have hP0 := hP.below hb0
  have hK0 : PK pb base w _ := PK.of (pb := pb) hb0 hB
  have HI0 : Hid _ := In.pk hin hK0 hpb
  have nd0 := heap_alloc_new w (.cells #[.int .i64 k, .string t, .int .i64 n, .int .i64 a, .slice (some ⟨b, o, none⟩) 3 c] 24)
  have HL0 : Hid (MT.InL pb _ b o [y0, y1, y2]) := MT.InL.below (hb0.mono (by omega)) b o hbp _ hL
  have hz0 := lt_of nd0
  have HD0 : Hid (_ ∧ _ ∧ _) := ⟨hP0, hK0, nd0⟩
  have hbz : b < w.heap.size := by omega
  clear hP hin hb0 hP0 hK0 nd0 hL
  rw [nv3]
  go_enter Tryz.func103, Tryz.ntmps103
  go_wp2_with fail
  obtain ⟨w0, hw0⟩ : ∃ W, W = (w.alloc (.cells #[.int .i64 k, .string t, .int .i64 n, .int .i64 a, .slice (some ⟨b, o, none⟩) 3 c] 24)) := ⟨_, rfl⟩
  rw [← hw0] at HD0 HI0 hz0 HL0 ⊢
  clear hw0
  have hbz0 : b < w0.heap.size := by omega
  have HK : Hid (∀ W, PK pb base w0 W → (W.cell? ⟨w.heap.size, 0, none⟩ = some (.int .i64 k) ∧ W.cell? ⟨w.heap.size, 1, none⟩ = some (.string t) ∧ W.cell? ⟨w.heap.size, 2, none⟩ = some (.int .i64 n) ∧ W.cell? ⟨w.heap.size, 3, none⟩ = some (.int .i64 a) ∧ W.cell? ⟨w.heap.size, 4, none⟩ = some (.slice (some ⟨b, o, none⟩) 3 c) ∧ W.cell? ⟨b, o, none⟩ = some (.int .i64 y0.kind) ∧ W.cell? ⟨b, o + 1, none⟩ = some (.string y0.text) ∧ W.cell? ⟨b, o + 2, none⟩ = some (.int .i64 y0.num) ∧ W.cell? ⟨b, o + 3, none⟩ = some (.int .i64 y0.at_) ∧ W.cell? ⟨b, o + 4, none⟩ = some (.slice y0.ptr y0.kids.length y0.cap) ∧ W.cell? ⟨b, o + 5, none⟩ = some (.int .i64 y1.kind) ∧ W.cell? ⟨b, o + 5 + 1, none⟩ = some (.string y1.text) ∧ W.cell? ⟨b, o + 5 + 2, none⟩ = some (.int .i64 y1.num) ∧ W.cell? ⟨b, o + 5 + 3, none⟩ = some (.int .i64 y1.at_) ∧ W.cell? ⟨b, o + 5 + 4, none⟩ = some (.slice y1.ptr y1.kids.length y1.cap))) := fun W hW => by
    have nd := hW.high (w.heap.size) _ _ _ (by omega) HD0.out.2.2 (by decide)
    have hLW := MT.InL.below (hW.below (by omega) (Nat.le_refl _)) b o hbp _ HL0.out
    obtain ⟨c00, c01, c02, c03, c04⟩ : MT.CellsAt W b o y0 := (hLW.get 0 (by simp)).1
    obtain ⟨c10, c11, c12, c13, c14⟩ : MT.CellsAt W b (o + 5) y1 := (hLW.get 1 (by simp)).1
    obtain ⟨k0, k1, k2, k3, k4⟩ := cells5 nd
    exact ⟨k0, k1, k2, k3, k4, c00, c01, c02, c03, c04, c10, c11, c12, c13, c14⟩
  have hBW : base ≤ w0.heap.size := by omega
  obtain ⟨k0, k1, k2, k3, k4, c00, c01, c02, c03, c04, c10, c11, c12, c13, c14⟩ := HK.out w0 (PK.refl _ _ _)
  go_region_held3 (fun W => W.cell? ⟨w.heap.size, 0, none⟩ = some (.int .i64 k) ∧ W.cell? ⟨w.heap.size, 1, none⟩ = some (.string t) ∧ W.cell? ⟨w.heap.size, 2, none⟩ = some (.int .i64 n) ∧ W.cell? ⟨w.heap.size, 3, none⟩ = some (.int .i64 a) ∧ W.cell? ⟨w.heap.size, 4, none⟩ = some (.slice (some ⟨b, o, none⟩) 3 c) ∧ W.cell? ⟨b, o, none⟩ = some (.int .i64 y0.kind) ∧ W.cell? ⟨b, o + 1, none⟩ = some (.string y0.text) ∧ W.cell? ⟨b, o + 2, none⟩ = some (.int .i64 y0.num) ∧ W.cell? ⟨b, o + 3, none⟩ = some (.int .i64 y0.at_) ∧ W.cell? ⟨b, o + 4, none⟩ = some (.slice y0.ptr y0.kids.length y0.cap) ∧ W.cell? ⟨b, o + 5, none⟩ = some (.int .i64 y1.kind) ∧ W.cell? ⟨b, o + 5 + 1, none⟩ = some (.string y1.text) ∧ W.cell? ⟨b, o + 5 + 2, none⟩ = some (.int .i64 y1.num) ∧ W.cell? ⟨b, o + 5 + 3, none⟩ = some (.int .i64 y1.at_) ∧ W.cell? ⟨b, o + 5 + 4, none⟩ = some (.slice y1.ptr y1.kids.length y1.cap))
    (first | exact HK.out _ hk1 | exact HK.out _ (PK.of ((Below.refl _ _).drew.alloc (by simp) _) hBW) | exact HK.out _ (PK.drw _ _ _))
    (first | (go_at_call 96; refine (putc [y0.text, ⟨#[44, 32]⟩, y1.text, sg] (HD0.out.1.below (Below.refl _ _).drew) hpb hBW (al_cons h0 (al_cons (by decide) (al_cons h1 (al_cons hs al_nil)))) (by simp) (by first | rfl | simp)).mono ?_; rintro e w1 ⟨⟨u1, rfl⟩, v1, hP1, hq1⟩; have hk1 : PK pb base w0 w1 := (PK.drw _ _ _).trans hq1; clear hq1))
  have HJ1 : Hid ((putS [y0.text, ⟨#[44, 32]⟩, y1.text, sg] s).ind = s.ind) := (putS_ind _ _).trans (Eq.refl s.ind)
  have hK1 : PK pb base w w1 := HD0.out.2.1.trans hk1
  have nd1 := hk1.high (w.heap.size) _ _ _ (by omega) HD0.out.2.2 (by decide)
  have HI1 : Hid _ := In.pk HI0.out hk1 hpb
  have HL1 : Hid (MT.InL pb w1 b o [y0, y1, y2]) := MT.InL.below (hk1.below (by omega) (Nat.le_refl _)) b o hbp _ HL0.out
  have hz1 := lt_of nd1
  have HD1 : Hid (_ ∧ _ ∧ _) := ⟨hP1, hK1, nd1⟩
  clear k0 k1 k2 k3 k4 c00 c01 c02 c03 c04 c10 c11 c12 c13 c14 hBW HK
  obtain ⟨k0, k1, k2, k3, k4⟩ := cells5 nd1
  obtain ⟨c20, c21, c22, c23, c24⟩ : MT.CellsAt w1 b (o + 10) y2 := (HL1.out.get 2 (by simp)).1
  have hbz1 : b < w1.heap.size := by omega
  clear hP1 hK1 nd1 hk1 HD0 HI0 HL0
  go_wp2_with fail
  refine (Hh2.out _ _ _ (Nat.le_trans (Nat.le_of_eq HJ1.out) hi) HD1.out.1 (Nat.le_trans hB HD1.out.2.1.size) (HL1.out.get 2 (by simp)).2).mono ?_
  rintro e w2 ⟨⟨u2, rfl⟩, v2, hP2, hi2, hk2⟩
  have HJ2 : Hid ((g2 (putS [y0.text, ⟨#[44, 32]⟩, y1.text, sg] s)).ind = s.ind) := hi2.trans HJ1.out
  clear hi2
  have HE : Hid (_ ∧ PK pb base w w2) := ⟨hP2, HD1.out.2.1.trans hk2⟩
  clear hP2 hk2 k0 k1 k2 k3 k4 c20 c21 c22 c23 c24
  go_wp2_with fail
  go_end0
  exact ⟨⟨_, rfl⟩, v2, HE.out.1, HJ2.out, HE.out.2⟩
set_option maxRecDepth 100000 in
set_option maxHeartbeats 4000000 in
theorem jump_none  {n : Int} {a : Int} {p : Option Addr} {c : Nat} {ks : List MT}  {k : Int} {wd : ByteArray} (hs : wd.size ≤ 4000000000) (hpb : pb < base) : Wc 108 #[.pointer (some ⟨pb, 0, none⟩), .string wd, nodeV (.node k ⟨#[]⟩ n a p c ks)] pb base L (fun w => MT.In pb w (.node k ⟨#[]⟩ n a p c ks)) (fun s => (putS [wd] s)) := by
  intro s v w hi hP hB hin
  have hb0 : Below w.heap.size w (w.alloc (.cells #[.int .i64 k, .string ⟨#[]⟩, .int .i64 n, .int .i64 a, .slice p ks.length c] 24)) := below1 _ _
  have hP0 := hP.below hb0
  have hK0 : PK pb base w _ := PK.of (pb := pb) hb0 hB
  have HI0 : Hid _ := In.pk hin hK0 hpb
  have nd0 := heap_alloc_new w (.cells #[.int .i64 k, .string ⟨#[]⟩, .int .i64 n, .int .i64 a, .slice p ks.length c] 24)
  have hz0 := lt_of nd0
  have HD0 : Hid (_ ∧ _ ∧ _) := ⟨hP0, hK0, nd0⟩
  clear hP hin hb0 hP0 hK0 nd0
  rw [nvk]
  go_enter Tryz.func108, Tryz.ntmps108
  go_wp2_with fail
  refine (putc [wd] HD0.out.1 hpb (Nat.le_trans hB HD0.out.2.1.size) (al_cons hs al_nil) (by simp) (by first | rfl | simp)).mono ?_
  rintro e w1 ⟨⟨u1, rfl⟩, v1, hP1, hk1⟩
  have HJ1 : Hid ((putS [wd] s).ind = s.ind) := (putS_ind _ _).trans (Eq.refl s.ind)
  have hK1 : PK pb base w w1 := HD0.out.2.1.trans hk1
  have nd1 := hk1.high (w.heap.size) _ _ _ (by omega) HD0.out.2.2 (by decide)
  have HI1 : Hid _ := In.pk HI0.out hk1 hpb
  have hz1 := lt_of nd1
  have HD1 : Hid (_ ∧ _ ∧ _) := ⟨hP1, hK1, nd1⟩
  obtain ⟨k0, k1, k2, k3, k4⟩ := cells5 nd1
  clear hP1 hK1 nd1 hk1 HD0 HI0
  go_wp2_with fail
  go_end0
  exact ⟨⟨_, rfl⟩, v1, HD1.out.1, HJ1.out, HD1.out.2.1⟩
set_option maxRecDepth 100000 in
set_option maxHeartbeats 4000000 in
theorem jump_some  {t : ByteArray} {n : Int} {a : Int} {p : Option Addr} {c : Nat} {ks : List MT}  {k : Int} {wd : ByteArray} (hs : wd.size ≤ 4000000000) (ht : t.size ≤ 4000000000) (hne : t.toList.isEmpty = false) (hpb : pb < base) : Wc 108 #[.pointer (some ⟨pb, 0, none⟩), .string wd, nodeV (.node k t n a p c ks)] pb base L (fun w => MT.In pb w (.node k t n a p c ks)) (fun s => (putS [⟨#[32]⟩, t] (putS [wd] s))) := by
  intro s v w hi hP hB hin
  have hb0 : Below w.heap.size w (w.alloc (.cells #[.int .i64 k, .string t, .int .i64 n, .int .i64 a, .slice p ks.length c] 24)) := below1 _ _
  have hP0 := hP.below hb0
  have hK0 : PK pb base w _ := PK.of (pb := pb) hb0 hB
  have HI0 : Hid _ := In.pk hin hK0 hpb
  have nd0 := heap_alloc_new w (.cells #[.int .i64 k, .string t, .int .i64 n, .int .i64 a, .slice p ks.length c] 24)
  have hz0 := lt_of nd0
  have HD0 : Hid (_ ∧ _ ∧ _) := ⟨hP0, hK0, nd0⟩
  clear hP hin hb0 hP0 hK0 nd0
  rw [nvk]
  go_enter Tryz.func108, Tryz.ntmps108
  go_wp2_with fail
  refine (putc [wd] HD0.out.1 hpb (Nat.le_trans hB HD0.out.2.1.size) (al_cons hs al_nil) (by simp) (by first | rfl | simp)).mono ?_
  rintro e w1 ⟨⟨u1, rfl⟩, v1, hP1, hk1⟩
  have HJ1 : Hid ((putS [wd] s).ind = s.ind) := (putS_ind _ _).trans (Eq.refl s.ind)
  have hK1 : PK pb base w w1 := HD0.out.2.1.trans hk1
  have nd1 := hk1.high (w.heap.size) _ _ _ (by omega) HD0.out.2.2 (by decide)
  have HI1 : Hid _ := In.pk HI0.out hk1 hpb
  have hz1 := lt_of nd1
  have HD1 : Hid (_ ∧ _ ∧ _) := ⟨hP1, hK1, nd1⟩
  obtain ⟨k0, k1, k2, k3, k4⟩ := cells5 nd1
  clear hP1 hK1 nd1 hk1 HD0 HI0
  go_wp2_with fail
  refine (putc [⟨#[32]⟩, t] HD1.out.1 hpb (Nat.le_trans hB HD1.out.2.1.size) (al_cons (by decide) (al_cons ht al_nil)) (by simp) (by first | rfl | simp)).mono ?_
  rintro e w2 ⟨⟨u2, rfl⟩, v2, hP2, hk2⟩
  have HJ2 : Hid ((putS [⟨#[32]⟩, t] (putS [wd] s)).ind = s.ind) := (putS_ind _ _).trans HJ1.out
  have HE : Hid (_ ∧ PK pb base w w2) := ⟨hP2, HD1.out.2.1.trans hk2⟩
  clear hP2 hk2 k0 k1 k2 k3 k4
  go_wp2_with fail
  go_end0
  exact ⟨⟨_, rfl⟩, v2, HE.out.1, HJ2.out, HE.out.2⟩
set_option maxRecDepth 100000 in
set_option maxHeartbeats 4000000 in
theorem label_none  {n : Int} {a : Int} {p : Option Addr} {c : Nat} {ks : List MT}  {k : Int} (hpb : pb < base) : Wf 135 pb base L (.node k ⟨#[]⟩ n a p c ks) (fun s => s) := by
  intro s v w hi hP hB hin
  have hb0 : Below w.heap.size w (w.alloc (.cells #[.int .i64 k, .string ⟨#[]⟩, .int .i64 n, .int .i64 a, .slice p ks.length c] 24)) := below1 _ _
  have hP0 := hP.below hb0
  have hK0 : PK pb base w _ := PK.of (pb := pb) hb0 hB
  have HI0 : Hid _ := In.pk hin hK0 hpb
  have nd0 := heap_alloc_new w (.cells #[.int .i64 k, .string ⟨#[]⟩, .int .i64 n, .int .i64 a, .slice p ks.length c] 24)
  have hz0 := lt_of nd0
  have HD0 : Hid (_ ∧ _ ∧ _) := ⟨hP0, hK0, nd0⟩
  clear hP hin hb0 hP0 hK0 nd0
  rw [nvk]
  go_enter Tryz.func135, Tryz.ntmps135
  go_wp2_with fail
  go_end0
  exact ⟨⟨_, rfl⟩, v, HD0.out.1, by first | rfl | trivial, HD0.out.2.1⟩
set_option maxRecDepth 100000 in
set_option maxHeartbeats 4000000 in
theorem label_some  {t : ByteArray} {n : Int} {a : Int} {p : Option Addr} {c : Nat} {ks : List MT}  {k : Int} (ht : t.size ≤ 4000000000) (hne : t.toList.isEmpty = false) (hpb : pb < base) : Wf 135 pb base L (.node k t n a p c ks) (fun s => (putS [t, ⟨#[58, 32]⟩] s)) := by
  intro s v w hi hP hB hin
  have hb0 : Below w.heap.size w (w.alloc (.cells #[.int .i64 k, .string t, .int .i64 n, .int .i64 a, .slice p ks.length c] 24)) := below1 _ _
  have hP0 := hP.below hb0
  have hK0 : PK pb base w _ := PK.of (pb := pb) hb0 hB
  have HI0 : Hid _ := In.pk hin hK0 hpb
  have nd0 := heap_alloc_new w (.cells #[.int .i64 k, .string t, .int .i64 n, .int .i64 a, .slice p ks.length c] 24)
  have hz0 := lt_of nd0
  have HD0 : Hid (_ ∧ _ ∧ _) := ⟨hP0, hK0, nd0⟩
  clear hP hin hb0 hP0 hK0 nd0
  rw [nvk]
  go_enter Tryz.func135, Tryz.ntmps135
  go_wp2_with fail
  refine (putc [t, ⟨#[58, 32]⟩] HD0.out.1 hpb (Nat.le_trans hB HD0.out.2.1.size) (al_cons ht (al_cons (by decide) al_nil)) (by simp) (by first | rfl | simp)).mono ?_
  rintro e w1 ⟨⟨u1, rfl⟩, v1, hP1, hk1⟩
  have HJ1 : Hid ((putS [t, ⟨#[58, 32]⟩] s).ind = s.ind) := (putS_ind _ _).trans (Eq.refl s.ind)
  have HE : Hid (_ ∧ PK pb base w w1) := ⟨hP1, HD0.out.2.1.trans hk1⟩
  clear hP1 hk1 
  go_wp2_with fail
  go_end0
  exact ⟨⟨_, rfl⟩, v1, HE.out.1, HJ1.out, HE.out.2⟩
set_option maxRecDepth 100000 in
set_option maxHeartbeats 4000000 in
theorem unless_none {y : MT}  {fn : Nat} {ah : ByteArray} (hk : y.kind = 16) (hpb : pb < base) : Wc 107 #[.pointer (some ⟨pb, 0, none⟩), .string ah, nodeV y, .func (.func fn) #[.pointer (some ⟨pb, 0, none⟩)] #[]] pb base L (fun w => MT.In pb w y) (fun s => s) := by
  intro s v w hi hP hB hin
  have hb0 : Below w.heap.size w (w.alloc (.cells #[.int .i64 y.kind, .string y.text, .int .i64 y.num, .int .i64 y.at_, .slice y.ptr y.kids.length y.cap] 24)) := below1 _ _
  have hP0 := hP.below hb0
  have hK0 : PK pb base w _ := PK.of (pb := pb) hb0 hB
  have HI0 : Hid _ := In.pk hin hK0 hpb
  have nd0 := heap_alloc_new w (.cells #[.int .i64 y.kind, .string y.text, .int .i64 y.num, .int .i64 y.at_, .slice y.ptr y.kids.length y.cap] 24)
  have hz0 := lt_of nd0
  have HD0 : Hid (_ ∧ _ ∧ _) := ⟨hP0, hK0, nd0⟩
  clear hP hin hb0 hP0 hK0 nd0
  go_enter Tryz.func107, Tryz.ntmps107
  go_wp2_with fail
  have h9 := HD0.out
  rw [hk] at h9
  go_end0
  exact ⟨⟨_, rfl⟩, v, h9.1, trivial, h9.2.1⟩
set_option maxRecDepth 100000 in
set_option maxHeartbeats 4000000 in
theorem unless_some {y : MT}  {fn : Nat} {ah : ByteArray} {g : PS → PS} (hk : y.kind ≠ 16) (hs : ah.size ≤ 4000000000) (h : Wf fn pb base L y g) (hE : Ent fn) (hpb : pb < base) : Wc 107 #[.pointer (some ⟨pb, 0, none⟩), .string ah, nodeV y, .func (.func fn) #[.pointer (some ⟨pb, 0, none⟩)] #[]] pb base L (fun w => MT.In pb w y) (fun s => (g (putS [ah] s))) := by
  intro s v w hi hP hB hin
  have Hh : Hid _ := h
  clear h
  have hb0 : Below w.heap.size w (w.alloc (.cells #[.int .i64 y.kind, .string y.text, .int .i64 y.num, .int .i64 y.at_, .slice y.ptr y.kids.length y.cap] 24)) := below1 _ _
  have hP0 := hP.below hb0
  have hK0 : PK pb base w _ := PK.of (pb := pb) hb0 hB
  have HI0 : Hid _ := In.pk hin hK0 hpb
  have nd0 := heap_alloc_new w (.cells #[.int .i64 y.kind, .string y.text, .int .i64 y.num, .int .i64 y.at_, .slice y.ptr y.kids.length y.cap] 24)
  have hz0 := lt_of nd0
  have HD0 : Hid (_ ∧ _ ∧ _) := ⟨hP0, hK0, nd0⟩
  clear hP hin hb0 hP0 hK0 nd0
  go_enter Tryz.func107, Tryz.ntmps107
  go_wp2_with fail
  refine (putc [ah] HD0.out.1 hpb (Nat.le_trans hB HD0.out.2.1.size) (al_cons hs al_nil) (by simp) (by first | rfl | simp)).mono ?_
  rintro e w1 ⟨⟨u1, rfl⟩, v1, hP1, hk1⟩
  have HJ1 : Hid ((putS [ah] s).ind = s.ind) := (putS_ind _ _).trans (Eq.refl s.ind)
  have hK1 : PK pb base w w1 := HD0.out.2.1.trans hk1
  have nd1 := hk1.high (w.heap.size) _ _ _ (by omega) HD0.out.2.2 (by decide)
  have HI1 : Hid _ := In.pk HI0.out hk1 hpb
  have hz1 := lt_of nd1
  have HD1 : Hid (_ ∧ _ ∧ _) := ⟨hP1, hK1, nd1⟩
  obtain ⟨k0, k1, k2, k3, k4⟩ := cells5 nd1
  clear hP1 hK1 nd1 hk1 HD0 HI0
  go_wp2_with fail
  refine upon_ent hE (Hh.out _ _ _ (Nat.le_trans (Nat.le_of_eq HJ1.out) hi) HD1.out.1 (Nat.le_trans hB HD1.out.2.1.size) HI1.out) ?_
  rintro e w2 ⟨⟨u2, rfl⟩, v2, hP2, hi2, hk2⟩
  refine ⟨u2, rfl, ?_⟩
  simp only [Act.put, List.setIfInBounds_toArray, List.set_cons_succ, List.set_cons_zero]
  have HJ2 : Hid ((g (putS [ah] s)).ind = s.ind) := hi2.trans HJ1.out
  clear hi2
  have HE : Hid (_ ∧ PK pb base w w2) := ⟨hP2, HD1.out.2.1.trans hk2⟩
  clear hP2 hk2 k0 k1 k2 k3 k4
  go_wp2_with fail
  go_end0
  exact ⟨⟨_, rfl⟩, v2, HE.out.1, HJ2.out, HE.out.2⟩
end Go.Proofs.YthbnegggohegkaaGreatDoor
