/-
  Statements.
-/
import Derived.Test.YthbnegggohegkaaGreatDoorWgJ
namespace Go.Proofs.YthbnegggohegkaaGreatDoor
open Go.RowKit
variable {pb base L : Nat} {s : PS} {v : Value} {w w' : World}
set_option maxRecDepth 100000 in
set_option maxHeartbeats 4000000 in
theorem st_17  {t : ByteArray} {n : Int} {a : Int} {p : Option Addr} {c : Nat} {ks : List MT}  {g : PS → PS} (h : Wf 102 pb base L (.node 17 t n a p c ks) g) (hpb : pb < base) : Wf 73 pb base L (.node 17 t n a p c ks) (fun s => (g s)) := by
  intro s v w hi hP hB hin
  have Hh : Hid _ := h
  clear h
  have hb0 : Below w.heap.size w (w.alloc (.cells #[.int .i64 17, .string t, .int .i64 n, .int .i64 a, .slice p ks.length c] 24)) := below1 _ _
  have hP0 := hP.below hb0
  have hK0 : PK pb base w _ := PK.of (pb := pb) hb0 hB
  have HI0 : Hid _ := In.pk hin hK0 hpb
  have nd0 := heap_alloc_new w (.cells #[.int .i64 17, .string t, .int .i64 n, .int .i64 a, .slice p ks.length c] 24)
  have hz0 := lt_of nd0
  have HD0 : Hid (_ ∧ _ ∧ _) := ⟨hP0, hK0, nd0⟩
  clear hP hin hb0 hP0 hK0 nd0
  rw [nvk]
  go_enter Tryz.func73, Tryz.ntmps73
  go_wp2_with fail
  refine (Hh.out _ _ _ (Nat.le_trans (Nat.le_of_eq (Eq.refl s.ind)) hi) HD0.out.1 (Nat.le_trans hB HD0.out.2.1.size) HI0.out).mono ?_
  rintro e w1 ⟨⟨u1, rfl⟩, v1, hP1, hi1, hk1⟩
  have HJ1 : Hid ((g s).ind = s.ind) := hi1.trans (Eq.refl s.ind)
  clear hi1
  have HE : Hid (_ ∧ PK pb base w w1) := ⟨hP1, HD0.out.2.1.trans hk1⟩
  clear hP1 hk1 
  go_wp2_with fail
  go_end0
  exact ⟨⟨_, rfl⟩, v1, HE.out.1, HJ1.out, HE.out.2⟩
set_option maxRecDepth 100000 in
set_option maxHeartbeats 4000000 in
theorem st_18  {t : ByteArray} {n : Int} {a : Int} {p : Option Addr} {c : Nat} {y0 : MT}  {g0 : PS → PS} (ht : t.size ≤ 4000000000) (h0 : Wf 71 pb base L y0 g0) (hpb : pb < base) : Wf 73 pb base L (.node 18 t n a p c [y0]) (fun s => (g0 (putS [t, ⟨#[32, 58, 61, 32]⟩] s))) := by
  intro s v w hi hP hB hin
  have hkk := hin.kidsL
  simp only [MT.kids_node, MT.ptr_node] at hkk
  rcases hkk with hkk | ⟨b, o, rfl, hbp, hL⟩
  · cases hkk
  have Hh0 : Hid _ := h0
  clear h0
  have hb0 : Below w.heap.size w (w.alloc (.cells #[.int .i64 18, .string t, .int .i64 n, .int .i64 a, .slice (some ⟨b, o, none⟩) 1 c] 24)) := below1 _ _
  have hP0 := hP.below hb0
  have hK0 : PK pb base w _ := PK.of (pb := pb) hb0 hB
  have HI0 : Hid _ := In.pk hin hK0 hpb
  have nd0 := heap_alloc_new w (.cells #[.int .i64 18, .string t, .int .i64 n, .int .i64 a, .slice (some ⟨b, o, none⟩) 1 c] 24)
  have HL0 : Hid (MT.InL pb _ b o [y0]) := MT.InL.below (hb0.mono (by omega)) b o hbp _ hL
  have hz0 := lt_of nd0
  have HD0 : Hid (_ ∧ _ ∧ _) := ⟨hP0, hK0, nd0⟩
  have hbz : b < w.heap.size := by omega
  clear hP hin hb0 hP0 hK0 nd0 hL
  rw [nv1]
  go_enter Tryz.func73, Tryz.ntmps73
  go_wp2_with fail
  refine (putc [t, ⟨#[32, 58, 61, 32]⟩] HD0.out.1 hpb (Nat.le_trans hB HD0.out.2.1.size) (al_cons ht (al_cons (by decide) al_nil)) (by simp) (by first | rfl | simp)).mono ?_
  rintro e w1 ⟨⟨u1, rfl⟩, v1, hP1, hk1⟩
  have HJ1 : Hid ((putS [t, ⟨#[32, 58, 61, 32]⟩] s).ind = s.ind) := (putS_ind _ _).trans (Eq.refl s.ind)
  have hK1 : PK pb base w w1 := HD0.out.2.1.trans hk1
  have nd1 := hk1.high (w.heap.size) _ _ _ (by omega) HD0.out.2.2 (by decide)
  have HI1 : Hid _ := In.pk HI0.out hk1 hpb
  have HL1 : Hid (MT.InL pb w1 b o [y0]) := MT.InL.below (hk1.below (by omega) (Nat.le_refl _)) b o hbp _ HL0.out
  have hz1 := lt_of nd1
  have HD1 : Hid (_ ∧ _ ∧ _) := ⟨hP1, hK1, nd1⟩
  obtain ⟨k0, k1, k2, k3, k4⟩ := cells5 nd1
  obtain ⟨c00, c01, c02, c03, c04⟩ : MT.CellsAt w1 b o y0 := (HL1.out.get 0 (by simp)).1
  have hbz1 : b < w1.heap.size := by omega
  clear hP1 hK1 nd1 hk1 HD0 HI0 HL0
  go_wp2_with fail
  refine (Hh0.out _ _ _ (Nat.le_trans (Nat.le_of_eq HJ1.out) hi) HD1.out.1 (Nat.le_trans hB HD1.out.2.1.size) (HL1.out.get 0 (by simp)).2).mono ?_
  rintro e w2 ⟨⟨u2, rfl⟩, v2, hP2, hi2, hk2⟩
  have HJ2 : Hid ((g0 (putS [t, ⟨#[32, 58, 61, 32]⟩] s)).ind = s.ind) := hi2.trans HJ1.out
  clear hi2
  have HE : Hid (_ ∧ PK pb base w w2) := ⟨hP2, HD1.out.2.1.trans hk2⟩
  clear hP2 hk2 k0 k1 k2 k3 k4 c00 c01 c02 c03 c04
  go_wp2_with fail
  go_end0
  exact ⟨⟨_, rfl⟩, v2, HE.out.1, HJ2.out, HE.out.2⟩
set_option maxRecDepth 100000 in
set_option maxHeartbeats 4000000 in
theorem st_19  {t : ByteArray} {n : Int} {a : Int} {p : Option Addr} {c : Nat} {ks : List MT}  {g : PS → PS} (h : Wc 103 #[.pointer (some ⟨pb, 0, none⟩), nodeV (.node 19 t n a p c ks), .string ⟨#[32, 58, 61, 32]⟩] pb base L (fun w => MT.In pb w (.node 19 t n a p c ks)) g) (hpb : pb < base) : Wf 73 pb base L (.node 19 t n a p c ks) (fun s => (g s)) := by
  intro s v w hi hP hB hin
  have Hh : Hid _ := h
  clear h
  have hb0 : Below w.heap.size w (w.alloc (.cells #[.int .i64 19, .string t, .int .i64 n, .int .i64 a, .slice p ks.length c] 24)) := below1 _ _
  have hP0 := hP.below hb0
  have hK0 : PK pb base w _ := PK.of (pb := pb) hb0 hB
  have HI0 : Hid _ := In.pk hin hK0 hpb
  have nd0 := heap_alloc_new w (.cells #[.int .i64 19, .string t, .int .i64 n, .int .i64 a, .slice p ks.length c] 24)
  have hz0 := lt_of nd0
  have HD0 : Hid (_ ∧ _ ∧ _) := ⟨hP0, hK0, nd0⟩
  clear hP hin hb0 hP0 hK0 nd0
  rw [nvk]
  go_enter Tryz.func73, Tryz.ntmps73
  go_wp2_with fail
  refine (Hh.out _ _ _ (Nat.le_trans (Nat.le_of_eq (Eq.refl s.ind)) hi) HD0.out.1 (Nat.le_trans hB HD0.out.2.1.size) HI0.out).mono ?_
  rintro e w1 ⟨⟨u1, rfl⟩, v1, hP1, hi1, hk1⟩
  have HJ1 : Hid ((g s).ind = s.ind) := hi1.trans (Eq.refl s.ind)
  clear hi1
  have HE : Hid (_ ∧ PK pb base w w1) := ⟨hP1, HD0.out.2.1.trans hk1⟩
  clear hP1 hk1 
  go_wp2_with fail
  go_end0
  exact ⟨⟨_, rfl⟩, v1, HE.out.1, HJ1.out, HE.out.2⟩
set_option maxRecDepth 100000 in
set_option maxHeartbeats 4000000 in
theorem st_21  {t : ByteArray} {n : Int} {a : Int} {p : Option Addr} {c : Nat} {ks : List MT}  {g : PS → PS} (h : Wc 103 #[.pointer (some ⟨pb, 0, none⟩), nodeV (.node 21 t n a p c ks), .string ⟨#[32, 61, 32]⟩] pb base L (fun w => MT.In pb w (.node 21 t n a p c ks)) g) (hpb : pb < base) : Wf 73 pb base L (.node 21 t n a p c ks) (fun s => (g s)) := by
  intro s v w hi hP hB hin
  have Hh : Hid _ := h
  clear h
  have hb0 : Below w.heap.size w (w.alloc (.cells #[.int .i64 21, .string t, .int .i64 n, .int .i64 a, .slice p ks.length c] 24)) := below1 _ _
  have hP0 := hP.below hb0
  have hK0 : PK pb base w _ := PK.of (pb := pb) hb0 hB
  have HI0 : Hid _ := In.pk hin hK0 hpb
  have nd0 := heap_alloc_new w (.cells #[.int .i64 21, .string t, .int .i64 n, .int .i64 a, .slice p ks.length c] 24)
  have hz0 := lt_of nd0
  have HD0 : Hid (_ ∧ _ ∧ _) := ⟨hP0, hK0, nd0⟩
  clear hP hin hb0 hP0 hK0 nd0
  rw [nvk]
  go_enter Tryz.func73, Tryz.ntmps73
  go_wp2_with fail
  refine (Hh.out _ _ _ (Nat.le_trans (Nat.le_of_eq (Eq.refl s.ind)) hi) HD0.out.1 (Nat.le_trans hB HD0.out.2.1.size) HI0.out).mono ?_
  rintro e w1 ⟨⟨u1, rfl⟩, v1, hP1, hi1, hk1⟩
  have HJ1 : Hid ((g s).ind = s.ind) := hi1.trans (Eq.refl s.ind)
  clear hi1
  have HE : Hid (_ ∧ PK pb base w w1) := ⟨hP1, HD0.out.2.1.trans hk1⟩
  clear hP1 hk1 
  go_wp2_with fail
  go_end0
  exact ⟨⟨_, rfl⟩, v1, HE.out.1, HJ1.out, HE.out.2⟩
set_option maxRecDepth 100000 in
set_option maxHeartbeats 4000000 in
theorem st_20  {t : ByteArray} {n : Int} {a : Int} {p : Option Addr} {c : Nat} {y0 y1 : MT}  {g0 g1 : PS → PS} (ht : t.size ≤ 4000000000) (h0 : Wf 71 pb base L y0 g0) (h1 : Wf 71 pb base L y1 g1) (hpb : pb < base) : Wf 73 pb base L (.node 20 t n a p c [y0, y1]) (fun s => (g1 (putS [⟨#[32]⟩, t, ⟨#[32]⟩] (g0 s)))) := by
  intro s v w hi hP hB hin
  have hkk := hin.kidsL
  simp only [MT.kids_node, MT.ptr_node] at hkk
  rcases hkk with hkk | ⟨b, o, rfl, hbp, hL⟩
  · cases hkk
  have Hh0 : Hid _ := h0
  clear h0
  have Hh1 : Hid _ := h1
  clear h1
  have hb0 : Below w.heap.size w (w.alloc (.cells #[.int .i64 20, .string t, .int .i64 n, .int .i64 a, .slice (some ⟨b, o, none⟩) 2 c] 24)) := below1 _ _
  have hP0 := hP.below hb0
  have hK0 : PK pb base w _ := PK.of (pb := pb) hb0 hB
  have HI0 : Hid _ := In.pk hin hK0 hpb
  have nd0 := heap_alloc_new w (.cells #[.int .i64 20, .string t, .int .i64 n, .int .i64 a, .slice (some ⟨b, o, none⟩) 2 c] 24)
  have HL0 : Hid (MT.InL pb _ b o [y0, y1]) := MT.InL.below (hb0.mono (by omega)) b o hbp _ hL
  have hz0 := lt_of nd0
  have HD0 : Hid (_ ∧ _ ∧ _) := ⟨hP0, hK0, nd0⟩
  have hbz : b < w.heap.size := by omega
  obtain ⟨c00, c01, c02, c03, c04⟩ : MT.CellsAt w b o y0 := (hL.get 0 (by simp)).1
  clear hP hin hb0 hP0 hK0 nd0 hL
  rw [nv2]
  go_enter Tryz.func73, Tryz.ntmps73
  go_wp2_with fail
  refine (Hh0.out _ _ _ (Nat.le_trans (Nat.le_of_eq (Eq.refl s.ind)) hi) HD0.out.1 (Nat.le_trans hB HD0.out.2.1.size) (HL0.out.get 0 (by simp)).2).mono ?_
  rintro e w1 ⟨⟨u1, rfl⟩, v1, hP1, hi1, hk1⟩
  have HJ1 : Hid ((g0 s).ind = s.ind) := hi1.trans (Eq.refl s.ind)
  clear hi1
  have hK1 : PK pb base w w1 := HD0.out.2.1.trans hk1
  have nd1 := hk1.high (w.heap.size) _ _ _ (by omega) HD0.out.2.2 (by decide)
  have HI1 : Hid _ := In.pk HI0.out hk1 hpb
  have HL1 : Hid (MT.InL pb w1 b o [y0, y1]) := MT.InL.below (hk1.below (by omega) (Nat.le_refl _)) b o hbp _ HL0.out
  have hz1 := lt_of nd1
  have HD1 : Hid (_ ∧ _ ∧ _) := ⟨hP1, hK1, nd1⟩
  clear c00 c01 c02 c03 c04
  obtain ⟨k0, k1, k2, k3, k4⟩ := cells5 nd1
  have hbz1 : b < w1.heap.size := by omega
  clear hP1 hK1 nd1 hk1 HD0 HI0 HL0
  go_wp2_with fail
  refine (putc [⟨#[32]⟩, t, ⟨#[32]⟩] HD1.out.1 hpb (Nat.le_trans hB HD1.out.2.1.size) (al_cons (by decide) (al_cons ht (al_cons (by decide) al_nil))) (by simp) (by first | rfl | simp)).mono ?_
  rintro e w2 ⟨⟨u2, rfl⟩, v2, hP2, hk2⟩
  have HJ2 : Hid ((putS [⟨#[32]⟩, t, ⟨#[32]⟩] (g0 s)).ind = s.ind) := (putS_ind _ _).trans HJ1.out
  have hK2 : PK pb base w w2 := HD1.out.2.1.trans hk2
  have nd2 := hk2.high (w.heap.size) _ _ _ (by omega) HD1.out.2.2 (by decide)
  have HI2 : Hid _ := In.pk HI1.out hk2 hpb
  have HL2 : Hid (MT.InL pb w2 b o [y0, y1]) := MT.InL.below (hk2.below (by omega) (Nat.le_refl _)) b o hbp _ HL1.out
  have hz2 := lt_of nd2
  have HD2 : Hid (_ ∧ _ ∧ _) := ⟨hP2, hK2, nd2⟩
  clear k0 k1 k2 k3 k4
  obtain ⟨k0, k1, k2, k3, k4⟩ := cells5 nd2
  obtain ⟨c10, c11, c12, c13, c14⟩ : MT.CellsAt w2 b (o + 5) y1 := (HL2.out.get 1 (by simp)).1
  have hbz2 : b < w2.heap.size := by omega
  clear hP2 hK2 nd2 hk2 HD1 HI1 HJ1 HL1
  go_wp2_with fail
  refine (Hh1.out _ _ _ (Nat.le_trans (Nat.le_of_eq HJ2.out) hi) HD2.out.1 (Nat.le_trans hB HD2.out.2.1.size) (HL2.out.get 1 (by simp)).2).mono ?_
  rintro e w3 ⟨⟨u3, rfl⟩, v3, hP3, hi3, hk3⟩
  have HJ3 : Hid ((g1 (putS [⟨#[32]⟩, t, ⟨#[32]⟩] (g0 s))).ind = s.ind) := hi3.trans HJ2.out
  clear hi3
  have HE : Hid (_ ∧ PK pb base w w3) := ⟨hP3, HD2.out.2.1.trans hk3⟩
  clear hP3 hk3 k0 k1 k2 k3 k4 c10 c11 c12 c13 c14
  go_wp2_with fail
  go_end0
  exact ⟨⟨_, rfl⟩, v3, HE.out.1, HJ3.out, HE.out.2⟩
set_option maxRecDepth 100000 in
set_option maxHeartbeats 4000000 in
theorem st_22  {t : ByteArray} {n : Int} {a : Int} {p : Option Addr} {c : Nat} {ks : List MT}  {g : PS → PS} (h : Wf 104 pb base L (.node 22 t n a p c ks) g) (hpb : pb < base) : Wf 73 pb base L (.node 22 t n a p c ks) (fun s => (g s)) := by
  intro s v w hi hP hB hin
  have Hh : Hid _ := h
  clear h
  have hb0 : Below w.heap.size w (w.alloc (.cells #[.int .i64 22, .string t, .int .i64 n, .int .i64 a, .slice p ks.length c] 24)) := below1 _ _
  have hP0 := hP.below hb0
  have hK0 : PK pb base w _ := PK.of (pb := pb) hb0 hB
  have HI0 : Hid _ := In.pk hin hK0 hpb
  have nd0 := heap_alloc_new w (.cells #[.int .i64 22, .string t, .int .i64 n, .int .i64 a, .slice p ks.length c] 24)
  have hz0 := lt_of nd0
  have HD0 : Hid (_ ∧ _ ∧ _) := ⟨hP0, hK0, nd0⟩
  clear hP hin hb0 hP0 hK0 nd0
  rw [nvk]
  go_enter Tryz.func73, Tryz.ntmps73
  go_wp2_with fail
  refine (Hh.out _ _ _ (Nat.le_trans (Nat.le_of_eq (Eq.refl s.ind)) hi) HD0.out.1 (Nat.le_trans hB HD0.out.2.1.size) HI0.out).mono ?_
  rintro e w1 ⟨⟨u1, rfl⟩, v1, hP1, hi1, hk1⟩
  have HJ1 : Hid ((g s).ind = s.ind) := hi1.trans (Eq.refl s.ind)
  clear hi1
  have HE : Hid (_ ∧ PK pb base w w1) := ⟨hP1, HD0.out.2.1.trans hk1⟩
  clear hP1 hk1 
  go_wp2_with fail
  go_end0
  exact ⟨⟨_, rfl⟩, v1, HE.out.1, HJ1.out, HE.out.2⟩
set_option maxRecDepth 100000 in
set_option maxHeartbeats 4000000 in
theorem st_23  {t : ByteArray} {n : Int} {a : Int} {p : Option Addr} {c : Nat} {ks : List MT}  {g : PS → PS} (h : Wf 105 pb base L (.node 23 t n a p c ks) g) (hpb : pb < base) : Wf 73 pb base L (.node 23 t n a p c ks) (fun s => (g s)) := by
  intro s v w hi hP hB hin
  have Hh : Hid _ := h
  clear h
  have hb0 : Below w.heap.size w (w.alloc (.cells #[.int .i64 23, .string t, .int .i64 n, .int .i64 a, .slice p ks.length c] 24)) := below1 _ _
  have hP0 := hP.below hb0
  have hK0 : PK pb base w _ := PK.of (pb := pb) hb0 hB
  have HI0 : Hid _ := In.pk hin hK0 hpb
  have nd0 := heap_alloc_new w (.cells #[.int .i64 23, .string t, .int .i64 n, .int .i64 a, .slice p ks.length c] 24)
  have hz0 := lt_of nd0
  have HD0 : Hid (_ ∧ _ ∧ _) := ⟨hP0, hK0, nd0⟩
  clear hP hin hb0 hP0 hK0 nd0
  rw [nvk]
  go_enter Tryz.func73, Tryz.ntmps73
  go_wp2_with fail
  refine (Hh.out _ _ _ (Nat.le_trans (Nat.le_of_eq (Eq.refl s.ind)) hi) HD0.out.1 (Nat.le_trans hB HD0.out.2.1.size) HI0.out).mono ?_
  rintro e w1 ⟨⟨u1, rfl⟩, v1, hP1, hi1, hk1⟩
  have HJ1 : Hid ((g s).ind = s.ind) := hi1.trans (Eq.refl s.ind)
  clear hi1
  have HE : Hid (_ ∧ PK pb base w w1) := ⟨hP1, HD0.out.2.1.trans hk1⟩
  clear hP1 hk1 
  go_wp2_with fail
  go_end0
  exact ⟨⟨_, rfl⟩, v1, HE.out.1, HJ1.out, HE.out.2⟩
set_option maxRecDepth 100000 in
set_option maxHeartbeats 4000000 in
theorem st_24  {t : ByteArray} {n : Int} {a : Int} {p : Option Addr} {c : Nat} {ks : List MT}  {g : PS → PS} (h : Wf 105 pb base L (.node 24 t n a p c ks) g) (hpb : pb < base) : Wf 73 pb base L (.node 24 t n a p c ks) (fun s => (g s)) := by
  intro s v w hi hP hB hin
  have Hh : Hid _ := h
  clear h
  have hb0 : Below w.heap.size w (w.alloc (.cells #[.int .i64 24, .string t, .int .i64 n, .int .i64 a, .slice p ks.length c] 24)) := below1 _ _
  have hP0 := hP.below hb0
  have hK0 : PK pb base w _ := PK.of (pb := pb) hb0 hB
  have HI0 : Hid _ := In.pk hin hK0 hpb
  have nd0 := heap_alloc_new w (.cells #[.int .i64 24, .string t, .int .i64 n, .int .i64 a, .slice p ks.length c] 24)
  have hz0 := lt_of nd0
  have HD0 : Hid (_ ∧ _ ∧ _) := ⟨hP0, hK0, nd0⟩
  clear hP hin hb0 hP0 hK0 nd0
  rw [nvk]
  go_enter Tryz.func73, Tryz.ntmps73
  go_wp2_with fail
  refine (Hh.out _ _ _ (Nat.le_trans (Nat.le_of_eq (Eq.refl s.ind)) hi) HD0.out.1 (Nat.le_trans hB HD0.out.2.1.size) HI0.out).mono ?_
  rintro e w1 ⟨⟨u1, rfl⟩, v1, hP1, hi1, hk1⟩
  have HJ1 : Hid ((g s).ind = s.ind) := hi1.trans (Eq.refl s.ind)
  clear hi1
  have HE : Hid (_ ∧ PK pb base w w1) := ⟨hP1, HD0.out.2.1.trans hk1⟩
  clear hP1 hk1 
  go_wp2_with fail
  go_end0
  exact ⟨⟨_, rfl⟩, v1, HE.out.1, HJ1.out, HE.out.2⟩
set_option maxRecDepth 100000 in
set_option maxHeartbeats 4000000 in
theorem st_25  {t : ByteArray} {n : Int} {a : Int} {p : Option Addr} {c : Nat} {ks : List MT}  {g : PS → PS} (h : Wf 106 pb base L (.node 25 t n a p c ks) g) (hpb : pb < base) : Wf 73 pb base L (.node 25 t n a p c ks) (fun s => (g s)) := by
  intro s v w hi hP hB hin
  have Hh : Hid _ := h
  clear h
  have hb0 : Below w.heap.size w (w.alloc (.cells #[.int .i64 25, .string t, .int .i64 n, .int .i64 a, .slice p ks.length c] 24)) := below1 _ _
  have hP0 := hP.below hb0
  have hK0 : PK pb base w _ := PK.of (pb := pb) hb0 hB
  have HI0 : Hid _ := In.pk hin hK0 hpb
  have nd0 := heap_alloc_new w (.cells #[.int .i64 25, .string t, .int .i64 n, .int .i64 a, .slice p ks.length c] 24)
  have hz0 := lt_of nd0
  have HD0 : Hid (_ ∧ _ ∧ _) := ⟨hP0, hK0, nd0⟩
  clear hP hin hb0 hP0 hK0 nd0
  rw [nvk]
  go_enter Tryz.func73, Tryz.ntmps73
  go_wp2_with fail
  refine (Hh.out _ _ _ (Nat.le_trans (Nat.le_of_eq (Eq.refl s.ind)) hi) HD0.out.1 (Nat.le_trans hB HD0.out.2.1.size) HI0.out).mono ?_
  rintro e w1 ⟨⟨u1, rfl⟩, v1, hP1, hi1, hk1⟩
  have HJ1 : Hid ((g s).ind = s.ind) := hi1.trans (Eq.refl s.ind)
  clear hi1
  have HE : Hid (_ ∧ PK pb base w w1) := ⟨hP1, HD0.out.2.1.trans hk1⟩
  clear hP1 hk1 
  go_wp2_with fail
  go_end0
  exact ⟨⟨_, rfl⟩, v1, HE.out.1, HJ1.out, HE.out.2⟩
set_option maxRecDepth 100000 in
set_option maxHeartbeats 4000000 in
theorem st_26  {t : ByteArray} {n : Int} {a : Int} {p : Option Addr} {c : Nat} {ks : List MT}  {g : PS → PS} (h : Wf 106 pb base L (.node 26 t n a p c ks) g) (hpb : pb < base) : Wf 73 pb base L (.node 26 t n a p c ks) (fun s => (g s)) := by
  intro s v w hi hP hB hin
  have Hh : Hid _ := h
  clear h
  have hb0 : Below w.heap.size w (w.alloc (.cells #[.int .i64 26, .string t, .int .i64 n, .int .i64 a, .slice p ks.length c] 24)) := below1 _ _
  have hP0 := hP.below hb0
  have hK0 : PK pb base w _ := PK.of (pb := pb) hb0 hB
  have HI0 : Hid _ := In.pk hin hK0 hpb
  have nd0 := heap_alloc_new w (.cells #[.int .i64 26, .string t, .int .i64 n, .int .i64 a, .slice p ks.length c] 24)
  have hz0 := lt_of nd0
  have HD0 : Hid (_ ∧ _ ∧ _) := ⟨hP0, hK0, nd0⟩
  clear hP hin hb0 hP0 hK0 nd0
  rw [nvk]
  go_enter Tryz.func73, Tryz.ntmps73
  go_wp2_with fail
  refine (Hh.out _ _ _ (Nat.le_trans (Nat.le_of_eq (Eq.refl s.ind)) hi) HD0.out.1 (Nat.le_trans hB HD0.out.2.1.size) HI0.out).mono ?_
  rintro e w1 ⟨⟨u1, rfl⟩, v1, hP1, hi1, hk1⟩
  have HJ1 : Hid ((g s).ind = s.ind) := hi1.trans (Eq.refl s.ind)
  clear hi1
  have HE : Hid (_ ∧ PK pb base w w1) := ⟨hP1, HD0.out.2.1.trans hk1⟩
  clear hP1 hk1 
  go_wp2_with fail
  go_end0
  exact ⟨⟨_, rfl⟩, v1, HE.out.1, HJ1.out, HE.out.2⟩
set_option maxRecDepth 100000 in
set_option maxHeartbeats 4000000 in
theorem st_28  {t : ByteArray} {n : Int} {a : Int} {p : Option Addr} {c : Nat} {y0 : MT}  {g0 : PS → PS} (h0 : Wc 107 #[.pointer (some ⟨pb, 0, none⟩), .string ⟨#[32]⟩, nodeV y0, .func (.func 71) #[.pointer (some ⟨pb, 0, none⟩)] #[]] pb base L (fun w => MT.In pb w y0) g0) (hpb : pb < base) : Wf 73 pb base L (.node 28 t n a p c [y0]) (fun s => (g0 (putS [⟨#[114, 101, 116, 117, 114, 110]⟩] s))) := by
  intro s v w hi hP hB hin
  have hkk := hin.kidsL
  simp only [MT.kids_node, MT.ptr_node] at hkk
  rcases hkk with hkk | ⟨b, o, rfl, hbp, hL⟩
  · cases hkk
  have Hh0 : Hid _ := h0
  clear h0
  have hb0 : Below w.heap.size w (w.alloc (.cells #[.int .i64 28, .string t, .int .i64 n, .int .i64 a, .slice (some ⟨b, o, none⟩) 1 c] 24)) := below1 _ _
  have hP0 := hP.below hb0
  have hK0 : PK pb base w _ := PK.of (pb := pb) hb0 hB
  have HI0 : Hid _ := In.pk hin hK0 hpb
  have nd0 := heap_alloc_new w (.cells #[.int .i64 28, .string t, .int .i64 n, .int .i64 a, .slice (some ⟨b, o, none⟩) 1 c] 24)
  have HL0 : Hid (MT.InL pb _ b o [y0]) := MT.InL.below (hb0.mono (by omega)) b o hbp _ hL
  have hz0 := lt_of nd0
  have HD0 : Hid (_ ∧ _ ∧ _) := ⟨hP0, hK0, nd0⟩
  have hbz : b < w.heap.size := by omega
  clear hP hin hb0 hP0 hK0 nd0 hL
  rw [nv1]
  go_enter Tryz.func73, Tryz.ntmps73
  go_wp2_with fail
  refine (putc [⟨#[114, 101, 116, 117, 114, 110]⟩] HD0.out.1 hpb (Nat.le_trans hB HD0.out.2.1.size) (al_cons (by decide) al_nil) (by simp) (by first | rfl | simp)).mono ?_
  rintro e w1 ⟨⟨u1, rfl⟩, v1, hP1, hk1⟩
  have HJ1 : Hid ((putS [⟨#[114, 101, 116, 117, 114, 110]⟩] s).ind = s.ind) := (putS_ind _ _).trans (Eq.refl s.ind)
  have hK1 : PK pb base w w1 := HD0.out.2.1.trans hk1
  have nd1 := hk1.high (w.heap.size) _ _ _ (by omega) HD0.out.2.2 (by decide)
  have HI1 : Hid _ := In.pk HI0.out hk1 hpb
  have HL1 : Hid (MT.InL pb w1 b o [y0]) := MT.InL.below (hk1.below (by omega) (Nat.le_refl _)) b o hbp _ HL0.out
  have hz1 := lt_of nd1
  have HD1 : Hid (_ ∧ _ ∧ _) := ⟨hP1, hK1, nd1⟩
  obtain ⟨k0, k1, k2, k3, k4⟩ := cells5 nd1
  obtain ⟨c00, c01, c02, c03, c04⟩ : MT.CellsAt w1 b o y0 := (HL1.out.get 0 (by simp)).1
  have hbz1 : b < w1.heap.size := by omega
  clear hP1 hK1 nd1 hk1 HD0 HI0 HL0
  go_wp2_with fail
  refine (Hh0.out _ _ _ (Nat.le_trans (Nat.le_of_eq HJ1.out) hi) HD1.out.1 (Nat.le_trans hB HD1.out.2.1.size) (HL1.out.get 0 (by simp)).2).mono ?_
  rintro e w2 ⟨⟨u2, rfl⟩, v2, hP2, hi2, hk2⟩
  have HJ2 : Hid ((g0 (putS [⟨#[114, 101, 116, 117, 114, 110]⟩] s)).ind = s.ind) := hi2.trans HJ1.out
  clear hi2
  have HE : Hid (_ ∧ PK pb base w w2) := ⟨hP2, HD1.out.2.1.trans hk2⟩
  clear hP2 hk2 k0 k1 k2 k3 k4 c00 c01 c02 c03 c04
  go_wp2_with fail
  go_end0
  exact ⟨⟨_, rfl⟩, v2, HE.out.1, HJ2.out, HE.out.2⟩
set_option maxRecDepth 100000 in
set_option maxHeartbeats 4000000 in
theorem st_29  {t : ByteArray} {n : Int} {a : Int} {p : Option Addr} {c : Nat} {y0 : MT}  {g0 : PS → PS} (h0 : Wf 71 pb base L y0 g0) (hpb : pb < base) : Wf 73 pb base L (.node 29 t n a p c [y0]) (fun s => (g0 (putS [⟨#[100, 101, 102, 101, 114, 32]⟩] s))) := by
  intro s v w hi hP hB hin
  have hkk := hin.kidsL
  simp only [MT.kids_node, MT.ptr_node] at hkk
  rcases hkk with hkk | ⟨b, o, rfl, hbp, hL⟩
  · cases hkk
  have Hh0 : Hid _ := h0
  clear h0
  have hb0 : Below w.heap.size w (w.alloc (.cells #[.int .i64 29, .string t, .int .i64 n, .int .i64 a, .slice (some ⟨b, o, none⟩) 1 c] 24)) := below1 _ _
  have hP0 := hP.below hb0
  have hK0 : PK pb base w _ := PK.of (pb := pb) hb0 hB
  have HI0 : Hid _ := In.pk hin hK0 hpb
  have nd0 := heap_alloc_new w (.cells #[.int .i64 29, .string t, .int .i64 n, .int .i64 a, .slice (some ⟨b, o, none⟩) 1 c] 24)
  have HL0 : Hid (MT.InL pb _ b o [y0]) := MT.InL.below (hb0.mono (by omega)) b o hbp _ hL
  have hz0 := lt_of nd0
  have HD0 : Hid (_ ∧ _ ∧ _) := ⟨hP0, hK0, nd0⟩
  have hbz : b < w.heap.size := by omega
  clear hP hin hb0 hP0 hK0 nd0 hL
  rw [nv1]
  go_enter Tryz.func73, Tryz.ntmps73
  go_wp2_with fail
  refine (putc [⟨#[100, 101, 102, 101, 114, 32]⟩] HD0.out.1 hpb (Nat.le_trans hB HD0.out.2.1.size) (al_cons (by decide) al_nil) (by simp) (by first | rfl | simp)).mono ?_
  rintro e w1 ⟨⟨u1, rfl⟩, v1, hP1, hk1⟩
  have HJ1 : Hid ((putS [⟨#[100, 101, 102, 101, 114, 32]⟩] s).ind = s.ind) := (putS_ind _ _).trans (Eq.refl s.ind)
  have hK1 : PK pb base w w1 := HD0.out.2.1.trans hk1
  have nd1 := hk1.high (w.heap.size) _ _ _ (by omega) HD0.out.2.2 (by decide)
  have HI1 : Hid _ := In.pk HI0.out hk1 hpb
  have HL1 : Hid (MT.InL pb w1 b o [y0]) := MT.InL.below (hk1.below (by omega) (Nat.le_refl _)) b o hbp _ HL0.out
  have hz1 := lt_of nd1
  have HD1 : Hid (_ ∧ _ ∧ _) := ⟨hP1, hK1, nd1⟩
  obtain ⟨k0, k1, k2, k3, k4⟩ := cells5 nd1
  obtain ⟨c00, c01, c02, c03, c04⟩ : MT.CellsAt w1 b o y0 := (HL1.out.get 0 (by simp)).1
  have hbz1 : b < w1.heap.size := by omega
  clear hP1 hK1 nd1 hk1 HD0 HI0 HL0
  go_wp2_with fail
  refine (Hh0.out _ _ _ (Nat.le_trans (Nat.le_of_eq HJ1.out) hi) HD1.out.1 (Nat.le_trans hB HD1.out.2.1.size) (HL1.out.get 0 (by simp)).2).mono ?_
  rintro e w2 ⟨⟨u2, rfl⟩, v2, hP2, hi2, hk2⟩
  have HJ2 : Hid ((g0 (putS [⟨#[100, 101, 102, 101, 114, 32]⟩] s)).ind = s.ind) := hi2.trans HJ1.out
  clear hi2
  have HE : Hid (_ ∧ PK pb base w w2) := ⟨hP2, HD1.out.2.1.trans hk2⟩
  clear hP2 hk2 k0 k1 k2 k3 k4 c00 c01 c02 c03 c04
  go_wp2_with fail
  go_end0
  exact ⟨⟨_, rfl⟩, v2, HE.out.1, HJ2.out, HE.out.2⟩
set_option maxRecDepth 100000 in
set_option maxHeartbeats 4000000 in
theorem st_30  {t : ByteArray} {n : Int} {a : Int} {p : Option Addr} {c : Nat} {y0 : MT}  {g0 : PS → PS} (h0 : Wf 71 pb base L y0 g0) (hpb : pb < base) : Wf 73 pb base L (.node 30 t n a p c [y0]) (fun s => (g0 s)) := by
  intro s v w hi hP hB hin
  have hkk := hin.kidsL
  simp only [MT.kids_node, MT.ptr_node] at hkk
  rcases hkk with hkk | ⟨b, o, rfl, hbp, hL⟩
  · cases hkk
  have Hh0 : Hid _ := h0
  clear h0
  have hb0 : Below w.heap.size w (w.alloc (.cells #[.int .i64 30, .string t, .int .i64 n, .int .i64 a, .slice (some ⟨b, o, none⟩) 1 c] 24)) := below1 _ _
  have hP0 := hP.below hb0
  have hK0 : PK pb base w _ := PK.of (pb := pb) hb0 hB
  have HI0 : Hid _ := In.pk hin hK0 hpb
  have nd0 := heap_alloc_new w (.cells #[.int .i64 30, .string t, .int .i64 n, .int .i64 a, .slice (some ⟨b, o, none⟩) 1 c] 24)
  have HL0 : Hid (MT.InL pb _ b o [y0]) := MT.InL.below (hb0.mono (by omega)) b o hbp _ hL
  have hz0 := lt_of nd0
  have HD0 : Hid (_ ∧ _ ∧ _) := ⟨hP0, hK0, nd0⟩
  have hbz : b < w.heap.size := by omega
  obtain ⟨c00, c01, c02, c03, c04⟩ : MT.CellsAt w b o y0 := (hL.get 0 (by simp)).1
  clear hP hin hb0 hP0 hK0 nd0 hL
  rw [nv1]
  go_enter Tryz.func73, Tryz.ntmps73
  go_wp2_with fail
  refine (Hh0.out _ _ _ (Nat.le_trans (Nat.le_of_eq (Eq.refl s.ind)) hi) HD0.out.1 (Nat.le_trans hB HD0.out.2.1.size) (HL0.out.get 0 (by simp)).2).mono ?_
  rintro e w1 ⟨⟨u1, rfl⟩, v1, hP1, hi1, hk1⟩
  have HJ1 : Hid ((g0 s).ind = s.ind) := hi1.trans (Eq.refl s.ind)
  clear hi1
  have HE : Hid (_ ∧ PK pb base w w1) := ⟨hP1, HD0.out.2.1.trans hk1⟩
  clear hP1 hk1 c00 c01 c02 c03 c04
  go_wp2_with fail
  go_end0
  exact ⟨⟨_, rfl⟩, v1, HE.out.1, HJ1.out, HE.out.2⟩
set_option maxRecDepth 100000 in
set_option maxHeartbeats 4000000 in
theorem st_31  {t : ByteArray} {n : Int} {a : Int} {p : Option Addr} {c : Nat} {ks : List MT}  {g : PS → PS} (h : Wc 108 #[.pointer (some ⟨pb, 0, none⟩), .string ⟨#[98, 114, 101, 97, 107]⟩, nodeV (.node 31 t n a p c ks)] pb base L (fun w => MT.In pb w (.node 31 t n a p c ks)) g) (hpb : pb < base) : Wf 73 pb base L (.node 31 t n a p c ks) (fun s => (g s)) := by
  intro s v w hi hP hB hin
  have Hh : Hid _ := h
  clear h
  have hb0 : Below w.heap.size w (w.alloc (.cells #[.int .i64 31, .string t, .int .i64 n, .int .i64 a, .slice p ks.length c] 24)) := below1 _ _
  have hP0 := hP.below hb0
  have hK0 : PK pb base w _ := PK.of (pb := pb) hb0 hB
  have HI0 : Hid _ := In.pk hin hK0 hpb
  have nd0 := heap_alloc_new w (.cells #[.int .i64 31, .string t, .int .i64 n, .int .i64 a, .slice p ks.length c] 24)
  have hz0 := lt_of nd0
  have HD0 : Hid (_ ∧ _ ∧ _) := ⟨hP0, hK0, nd0⟩
  clear hP hin hb0 hP0 hK0 nd0
  rw [nvk]
  go_enter Tryz.func73, Tryz.ntmps73
  go_wp2_with fail
  refine (Hh.out _ _ _ (Nat.le_trans (Nat.le_of_eq (Eq.refl s.ind)) hi) HD0.out.1 (Nat.le_trans hB HD0.out.2.1.size) HI0.out).mono ?_
  rintro e w1 ⟨⟨u1, rfl⟩, v1, hP1, hi1, hk1⟩
  have HJ1 : Hid ((g s).ind = s.ind) := hi1.trans (Eq.refl s.ind)
  clear hi1
  have HE : Hid (_ ∧ PK pb base w w1) := ⟨hP1, HD0.out.2.1.trans hk1⟩
  clear hP1 hk1 
  go_wp2_with fail
  go_end0
  exact ⟨⟨_, rfl⟩, v1, HE.out.1, HJ1.out, HE.out.2⟩
set_option maxRecDepth 100000 in
set_option maxHeartbeats 4000000 in
theorem st_32  {t : ByteArray} {n : Int} {a : Int} {p : Option Addr} {c : Nat} {ks : List MT}  {g : PS → PS} (h : Wc 108 #[.pointer (some ⟨pb, 0, none⟩), .string ⟨#[99, 111, 110, 116, 105, 110, 117, 101]⟩, nodeV (.node 32 t n a p c ks)] pb base L (fun w => MT.In pb w (.node 32 t n a p c ks)) g) (hpb : pb < base) : Wf 73 pb base L (.node 32 t n a p c ks) (fun s => (g s)) := by
  intro s v w hi hP hB hin
  have Hh : Hid _ := h
  clear h
  have hb0 : Below w.heap.size w (w.alloc (.cells #[.int .i64 32, .string t, .int .i64 n, .int .i64 a, .slice p ks.length c] 24)) := below1 _ _
  have hP0 := hP.below hb0
  have hK0 : PK pb base w _ := PK.of (pb := pb) hb0 hB
  have HI0 : Hid _ := In.pk hin hK0 hpb
  have nd0 := heap_alloc_new w (.cells #[.int .i64 32, .string t, .int .i64 n, .int .i64 a, .slice p ks.length c] 24)
  have hz0 := lt_of nd0
  have HD0 : Hid (_ ∧ _ ∧ _) := ⟨hP0, hK0, nd0⟩
  clear hP hin hb0 hP0 hK0 nd0
  rw [nvk]
  go_enter Tryz.func73, Tryz.ntmps73
  go_wp2_with fail
  refine (Hh.out _ _ _ (Nat.le_trans (Nat.le_of_eq (Eq.refl s.ind)) hi) HD0.out.1 (Nat.le_trans hB HD0.out.2.1.size) HI0.out).mono ?_
  rintro e w1 ⟨⟨u1, rfl⟩, v1, hP1, hi1, hk1⟩
  have HJ1 : Hid ((g s).ind = s.ind) := hi1.trans (Eq.refl s.ind)
  clear hi1
  have HE : Hid (_ ∧ PK pb base w w1) := ⟨hP1, HD0.out.2.1.trans hk1⟩
  clear hP1 hk1 
  go_wp2_with fail
  go_end0
  exact ⟨⟨_, rfl⟩, v1, HE.out.1, HJ1.out, HE.out.2⟩
set_option maxRecDepth 100000 in
set_option maxHeartbeats 4000000 in
theorem st_33  {t : ByteArray} {n : Int} {a : Int} {p : Option Addr} {c : Nat} {ks : List MT}   (hpb : pb < base) : Wf 73 pb base L (.node 33 t n a p c ks) (fun s => (putS [⟨#[102, 97, 108, 108, 116, 104, 114, 111, 117, 103, 104]⟩] s)) := by
  intro s v w hi hP hB hin
  have hb0 : Below w.heap.size w (w.alloc (.cells #[.int .i64 33, .string t, .int .i64 n, .int .i64 a, .slice p ks.length c] 24)) := below1 _ _
  have hP0 := hP.below hb0
  have hK0 : PK pb base w _ := PK.of (pb := pb) hb0 hB
  have HI0 : Hid _ := In.pk hin hK0 hpb
  have nd0 := heap_alloc_new w (.cells #[.int .i64 33, .string t, .int .i64 n, .int .i64 a, .slice p ks.length c] 24)
  have hz0 := lt_of nd0
  have HD0 : Hid (_ ∧ _ ∧ _) := ⟨hP0, hK0, nd0⟩
  clear hP hin hb0 hP0 hK0 nd0
  rw [nvk]
  go_enter Tryz.func73, Tryz.ntmps73
  go_wp2_with fail
  refine (putc [⟨#[102, 97, 108, 108, 116, 104, 114, 111, 117, 103, 104]⟩] HD0.out.1 hpb (Nat.le_trans hB HD0.out.2.1.size) (al_cons (by decide) al_nil) (by simp) (by first | rfl | simp)).mono ?_
  rintro e w1 ⟨⟨u1, rfl⟩, v1, hP1, hk1⟩
  have HJ1 : Hid ((putS [⟨#[102, 97, 108, 108, 116, 104, 114, 111, 117, 103, 104]⟩] s).ind = s.ind) := (putS_ind _ _).trans (Eq.refl s.ind)
  have HE : Hid (_ ∧ PK pb base w w1) := ⟨hP1, HD0.out.2.1.trans hk1⟩
  clear hP1 hk1 
  go_wp2_with fail
  go_end0
  exact ⟨⟨_, rfl⟩, v1, HE.out.1, HJ1.out, HE.out.2⟩
set_option maxRecDepth 100000 in
set_option maxHeartbeats 4000000 in
theorem st_34  {t : ByteArray} {n : Int} {a : Int} {p : Option Addr} {c : Nat} {y0 : MT}  {g0 : PS → PS} (ht : t.size ≤ 4000000000) (h0 : Wf 71 pb base L y0 g0) (hpb : pb < base) : Wf 73 pb base L (.node 34 t n a p c [y0]) (fun s => (putS [t] (g0 s))) := by
  intro s v w hi hP hB hin
  have hkk := hin.kidsL
  simp only [MT.kids_node, MT.ptr_node] at hkk
  rcases hkk with hkk | ⟨b, o, rfl, hbp, hL⟩
  · cases hkk
  have Hh0 : Hid _ := h0
  clear h0
  have hb0 : Below w.heap.size w (w.alloc (.cells #[.int .i64 34, .string t, .int .i64 n, .int .i64 a, .slice (some ⟨b, o, none⟩) 1 c] 24)) := below1 _ _
  have hP0 := hP.below hb0
  have hK0 : PK pb base w _ := PK.of (pb := pb) hb0 hB
  have HI0 : Hid _ := In.pk hin hK0 hpb
  have nd0 := heap_alloc_new w (.cells #[.int .i64 34, .string t, .int .i64 n, .int .i64 a, .slice (some ⟨b, o, none⟩) 1 c] 24)
  have HL0 : Hid (MT.InL pb _ b o [y0]) := MT.InL.below (hb0.mono (by omega)) b o hbp _ hL
  have hz0 := lt_of nd0
  have HD0 : Hid (_ ∧ _ ∧ _) := ⟨hP0, hK0, nd0⟩
  have hbz : b < w.heap.size := by omega
  obtain ⟨c00, c01, c02, c03, c04⟩ : MT.CellsAt w b o y0 := (hL.get 0 (by simp)).1
  clear hP hin hb0 hP0 hK0 nd0 hL
  rw [nv1]
  go_enter Tryz.func73, Tryz.ntmps73
  go_wp2_with fail
  refine (Hh0.out _ _ _ (Nat.le_trans (Nat.le_of_eq (Eq.refl s.ind)) hi) HD0.out.1 (Nat.le_trans hB HD0.out.2.1.size) (HL0.out.get 0 (by simp)).2).mono ?_
  rintro e w1 ⟨⟨u1, rfl⟩, v1, hP1, hi1, hk1⟩
  have HJ1 : Hid ((g0 s).ind = s.ind) := hi1.trans (Eq.refl s.ind)
  clear hi1
  have hK1 : PK pb base w w1 := HD0.out.2.1.trans hk1
  have nd1 := hk1.high (w.heap.size) _ _ _ (by omega) HD0.out.2.2 (by decide)
  have HI1 : Hid _ := In.pk HI0.out hk1 hpb
  have HL1 : Hid (MT.InL pb w1 b o [y0]) := MT.InL.below (hk1.below (by omega) (Nat.le_refl _)) b o hbp _ HL0.out
  have hz1 := lt_of nd1
  have HD1 : Hid (_ ∧ _ ∧ _) := ⟨hP1, hK1, nd1⟩
  clear c00 c01 c02 c03 c04
  obtain ⟨k0, k1, k2, k3, k4⟩ := cells5 nd1
  have hbz1 : b < w1.heap.size := by omega
  clear hP1 hK1 nd1 hk1 HD0 HI0 HL0
  go_wp2_with fail
  refine (putc [t] HD1.out.1 hpb (Nat.le_trans hB HD1.out.2.1.size) (al_cons ht al_nil) (by simp) (by first | rfl | simp)).mono ?_
  rintro e w2 ⟨⟨u2, rfl⟩, v2, hP2, hk2⟩
  have HJ2 : Hid ((putS [t] (g0 s)).ind = s.ind) := (putS_ind _ _).trans HJ1.out
  have HE : Hid (_ ∧ PK pb base w w2) := ⟨hP2, HD1.out.2.1.trans hk2⟩
  clear hP2 hk2 k0 k1 k2 k3 k4
  go_wp2_with fail
  go_end0
  exact ⟨⟨_, rfl⟩, v2, HE.out.1, HJ2.out, HE.out.2⟩
end Go.Proofs.YthbnegggohegkaaGreatDoor
