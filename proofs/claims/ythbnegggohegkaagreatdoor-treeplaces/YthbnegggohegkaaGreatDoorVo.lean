/-
  What stands behind its first part.
-/
import Derived.Test.YthbnegggohegkaaGreatDoorVn
namespace Go.Proofs.YthbnegggohegkaaGreatDoor
open Go.RowKit
variable {pb base L : Nat} {s : PS} {v : Value} {w w' : World}
set_option maxRecDepth 100000 in
set_option maxHeartbeats 4000000 in
theorem post_45  {t : ByteArray} {n : Int} {a : Int} {p : Option Addr} {c : Nat} {y0 : MT}  {g0 : PS → PS} (ht : t.size ≤ 4000000000) (h0 : Wf 149 pb base L y0 g0) (hpb : pb < base) : Wf 148 pb base L (.node 45 t n a p c [y0]) (fun s => (putS [⟨#[46]⟩, t] (g0 s))) := by
  intro s v w hi hP hB hin
  have hkk := hin.kidsL
  simp only [MT.kids_node, MT.ptr_node] at hkk
  rcases hkk with hkk | ⟨b, o, rfl, hbp, hL⟩
  · cases hkk
  have Hh0 : Hid _ := h0
  clear h0
  have hb0 : Below w.heap.size w (((w.alloc (.cells #[.pointer (some ⟨pb, 0, none⟩)] 114)).alloc (.cells #[.int .i64 45, .string t, .int .i64 n, .int .i64 a, .slice (some ⟨b, o, none⟩) 1 c] 24)).alloc (.cells #[.int .i64 y0.kind, .string y0.text, .int .i64 y0.num, .int .i64 y0.at_, .slice y0.ptr y0.kids.length y0.cap] 24)) := (below2 _ _ _).alloc (by simp only [World.size_alloc]; omega) _
  have hP0 := hP.below hb0
  have hK0 : PK pb base w _ := PK.of (pb := pb) hb0 hB
  have HI0 : Hid _ := In.pk hin hK0 hpb
  have pd0 := (hb0x_ w (.cells #[.pointer (some ⟨pb, 0, none⟩)] 114) (.cells #[.int .i64 45, .string t, .int .i64 n, .int .i64 a, .slice (some ⟨b, o, none⟩) 1 c] 24) (.cells #[.int .i64 y0.kind, .string y0.text, .int .i64 y0.num, .int .i64 y0.at_, .slice y0.ptr y0.kids.length y0.cap] 24))
  have nd0 := (nb0x_ w (.cells #[.pointer (some ⟨pb, 0, none⟩)] 114) (.cells #[.int .i64 45, .string t, .int .i64 n, .int .i64 a, .slice (some ⟨b, o, none⟩) 1 c] 24) (.cells #[.int .i64 y0.kind, .string y0.text, .int .i64 y0.num, .int .i64 y0.at_, .slice y0.ptr y0.kids.length y0.cap] 24))
  have HL0 : Hid (MT.InL pb _ b o [y0]) := MT.InL.below (hb0.mono (by omega)) b o hbp _ hL
  have hz0 := lt_of nd0
  have HD0 : Hid (_ ∧ _ ∧ _ ∧ _) := ⟨hP0, hK0, nd0, pd0⟩
  have hbz : b < w.heap.size := by omega
  obtain ⟨c00, c01, c02, c03, c04⟩ : MT.CellsAt w b o y0 := (hL.get 0 (by simp)).1
  clear hP hin hb0 hP0 hK0 nd0 pd0 hL
  rw [nv1]
  go_enter Tryz.func148, Tryz.ntmps148
  go_wp2_with fail
  refine (Hh0.out _ _ _ (Nat.le_trans (Nat.le_of_eq (Eq.refl s.ind)) hi) HD0.out.1 (Nat.le_trans hB HD0.out.2.1.size) (HL0.out.get 0 (by simp)).2).mono ?_
  rintro e w1 ⟨⟨u1, rfl⟩, v1, hP1, hi1, hk1⟩
  have HJ1 : Hid ((g0 s).ind = s.ind) := hi1.trans (Eq.refl s.ind)
  clear hi1
  have hK1 : PK pb base w w1 := HD0.out.2.1.trans hk1
  have nd1 := hk1.high (w.heap.size + 1) _ _ _ (by omega) HD0.out.2.2.1 (by decide)
  have pd1 := hk1.high w.heap.size _ _ _ (by omega) HD0.out.2.2.2 (by decide)
  have HI1 : Hid _ := In.pk HI0.out hk1 hpb
  have HL1 : Hid (MT.InL pb w1 b o [y0]) := MT.InL.below (hk1.below (by omega) (Nat.le_refl _)) b o hbp _ HL0.out
  have hz1 := lt_of nd1
  have HD1 : Hid (_ ∧ _ ∧ _ ∧ _) := ⟨hP1, hK1, nd1, pd1⟩
  clear c00 c01 c02 c03 c04
  obtain ⟨k0, k1, k2, k3, k4⟩ := cells5 nd1
  have kp := cells1 pd1
  have hbz1 : b < w1.heap.size := by omega
  clear hP1 hK1 nd1 hk1 HD0 HI0 pd1 HL0
  go_wp2_with fail
  refine (putc [⟨#[46]⟩, t] HD1.out.1 hpb (Nat.le_trans hB HD1.out.2.1.size) (al_cons (by decide) (al_cons ht al_nil)) (by simp) (by first | rfl | simp)).mono ?_
  rintro e w2 ⟨⟨u2, rfl⟩, v2, hP2, hk2⟩
  have HJ2 : Hid ((putS [⟨#[46]⟩, t] (g0 s)).ind = s.ind) := (putS_ind _ _).trans HJ1.out
  have HE : Hid (_ ∧ PK pb base w w2) := ⟨hP2, HD1.out.2.1.trans hk2⟩
  clear hP2 hk2 k0 k1 k2 k3 k4 kp
  go_wp2_with fail
  go_end0
  exact ⟨⟨_, rfl⟩, v2, HE.out.1, HJ2.out, HE.out.2⟩
set_option maxRecDepth 100000 in
set_option maxHeartbeats 4000000 in
theorem post_49  {t : ByteArray} {n : Int} {a : Int} {p : Option Addr} {c : Nat} {y0 y1 : MT}  {g0 g1 : PS → PS} (h0 : Wf 149 pb base L y0 g0) (h1 : Wf 72 pb base L y1 g1) (hpb : pb < base) : Wf 148 pb base L (.node 49 t n a p c [y0, y1]) (fun s => (putS [⟨#[41]⟩] (g1 (putS [⟨#[46, 40]⟩] (g0 s))))) := by
  intro s v w hi hP hB hin
  have hkk := hin.kidsL
  simp only [MT.kids_node, MT.ptr_node] at hkk
  rcases hkk with hkk | ⟨b, o, rfl, hbp, hL⟩
  · cases hkk
  have Hh0 : Hid _ := h0
  clear h0
  have Hh1 : Hid _ := h1
  clear h1
  have hb0 : Below w.heap.size w (((w.alloc (.cells #[.pointer (some ⟨pb, 0, none⟩)] 114)).alloc (.cells #[.int .i64 49, .string t, .int .i64 n, .int .i64 a, .slice (some ⟨b, o, none⟩) 2 c] 24)).alloc (.cells #[.int .i64 y0.kind, .string y0.text, .int .i64 y0.num, .int .i64 y0.at_, .slice y0.ptr y0.kids.length y0.cap] 24)) := (below2 _ _ _).alloc (by simp only [World.size_alloc]; omega) _
  have hP0 := hP.below hb0
  have hK0 : PK pb base w _ := PK.of (pb := pb) hb0 hB
  have HI0 : Hid _ := In.pk hin hK0 hpb
  have pd0 := (hb0x_ w (.cells #[.pointer (some ⟨pb, 0, none⟩)] 114) (.cells #[.int .i64 49, .string t, .int .i64 n, .int .i64 a, .slice (some ⟨b, o, none⟩) 2 c] 24) (.cells #[.int .i64 y0.kind, .string y0.text, .int .i64 y0.num, .int .i64 y0.at_, .slice y0.ptr y0.kids.length y0.cap] 24))
  have nd0 := (nb0x_ w (.cells #[.pointer (some ⟨pb, 0, none⟩)] 114) (.cells #[.int .i64 49, .string t, .int .i64 n, .int .i64 a, .slice (some ⟨b, o, none⟩) 2 c] 24) (.cells #[.int .i64 y0.kind, .string y0.text, .int .i64 y0.num, .int .i64 y0.at_, .slice y0.ptr y0.kids.length y0.cap] 24))
  have HL0 : Hid (MT.InL pb _ b o [y0, y1]) := MT.InL.below (hb0.mono (by omega)) b o hbp _ hL
  have hz0 := lt_of nd0
  have HD0 : Hid (_ ∧ _ ∧ _ ∧ _) := ⟨hP0, hK0, nd0, pd0⟩
  have hbz : b < w.heap.size := by omega
  obtain ⟨c00, c01, c02, c03, c04⟩ : MT.CellsAt w b o y0 := (hL.get 0 (by simp)).1
  clear hP hin hb0 hP0 hK0 nd0 pd0 hL
  rw [nv2]
  go_enter Tryz.func148, Tryz.ntmps148
  go_wp2_with fail
  refine (Hh0.out _ _ _ (Nat.le_trans (Nat.le_of_eq (Eq.refl s.ind)) hi) HD0.out.1 (Nat.le_trans hB HD0.out.2.1.size) (HL0.out.get 0 (by simp)).2).mono ?_
  rintro e w1 ⟨⟨u1, rfl⟩, v1, hP1, hi1, hk1⟩
  have HJ1 : Hid ((g0 s).ind = s.ind) := hi1.trans (Eq.refl s.ind)
  clear hi1
  have hK1 : PK pb base w w1 := HD0.out.2.1.trans hk1
  have nd1 := hk1.high (w.heap.size + 1) _ _ _ (by omega) HD0.out.2.2.1 (by decide)
  have pd1 := hk1.high w.heap.size _ _ _ (by omega) HD0.out.2.2.2 (by decide)
  have HI1 : Hid _ := In.pk HI0.out hk1 hpb
  have HL1 : Hid (MT.InL pb w1 b o [y0, y1]) := MT.InL.below (hk1.below (by omega) (Nat.le_refl _)) b o hbp _ HL0.out
  have hz1 := lt_of nd1
  have HD1 : Hid (_ ∧ _ ∧ _ ∧ _) := ⟨hP1, hK1, nd1, pd1⟩
  clear c00 c01 c02 c03 c04
  obtain ⟨k0, k1, k2, k3, k4⟩ := cells5 nd1
  have kp := cells1 pd1
  have hbz1 : b < w1.heap.size := by omega
  clear hP1 hK1 nd1 hk1 HD0 HI0 pd1 HL0
  go_wp2_with fail
  refine (putc [⟨#[46, 40]⟩] HD1.out.1 hpb (Nat.le_trans hB HD1.out.2.1.size) (al_cons (by decide) al_nil) (by simp) (by first | rfl | simp)).mono ?_
  rintro e w2 ⟨⟨u2, rfl⟩, v2, hP2, hk2⟩
  have HJ2 : Hid ((putS [⟨#[46, 40]⟩] (g0 s)).ind = s.ind) := (putS_ind _ _).trans HJ1.out
  have hK2 : PK pb base w w2 := HD1.out.2.1.trans hk2
  have nd2 := hk2.high (w.heap.size + 1) _ _ _ (by omega) HD1.out.2.2.1 (by decide)
  have pd2 := hk2.high w.heap.size _ _ _ (by omega) HD1.out.2.2.2 (by decide)
  have HI2 : Hid _ := In.pk HI1.out hk2 hpb
  have HL2 : Hid (MT.InL pb w2 b o [y0, y1]) := MT.InL.below (hk2.below (by omega) (Nat.le_refl _)) b o hbp _ HL1.out
  have hz2 := lt_of nd2
  have HD2 : Hid (_ ∧ _ ∧ _ ∧ _) := ⟨hP2, hK2, nd2, pd2⟩
  clear k0 k1 k2 k3 k4 kp
  obtain ⟨k0, k1, k2, k3, k4⟩ := cells5 nd2
  have kp := cells1 pd2
  have hbz2 : b < w2.heap.size := by omega
  clear hP2 hK2 nd2 hk2 HD1 HI1 HJ1 pd2 HL1
  go_wp2_with fail
  clear k0 k1 k2 k3 k4 kp
  have HK : Hid (∀ W, PK pb base w2 W → (W.cell? ⟨w.heap.size + 1, 0, none⟩ = some (.int .i64 49) ∧ W.cell? ⟨w.heap.size + 1, 1, none⟩ = some (.string t) ∧ W.cell? ⟨w.heap.size + 1, 2, none⟩ = some (.int .i64 n) ∧ W.cell? ⟨w.heap.size + 1, 3, none⟩ = some (.int .i64 a) ∧ W.cell? ⟨w.heap.size + 1, 4, none⟩ = some (.slice (some ⟨b, o, none⟩) 2 c) ∧ W.cell? ⟨w.heap.size, 0, none⟩ = some (.pointer (some ⟨pb, 0, none⟩)) ∧ W.cell? ⟨b, o + 5, none⟩ = some (.int .i64 y1.kind) ∧ W.cell? ⟨b, o + 5 + 1, none⟩ = some (.string y1.text) ∧ W.cell? ⟨b, o + 5 + 2, none⟩ = some (.int .i64 y1.num) ∧ W.cell? ⟨b, o + 5 + 3, none⟩ = some (.int .i64 y1.at_) ∧ W.cell? ⟨b, o + 5 + 4, none⟩ = some (.slice y1.ptr y1.kids.length y1.cap))) := fun W hW => by
    have nd := hW.high (w.heap.size + 1) _ _ _ (by omega) HD2.out.2.2.1 (by decide)
    have pd := hW.high w.heap.size _ _ _ (by omega) HD2.out.2.2.2 (by decide)
    have hLW := MT.InL.below (hW.below (by omega) (Nat.le_refl _)) b o hbp _ HL2.out
    obtain ⟨c10, c11, c12, c13, c14⟩ : MT.CellsAt W b (o + 5) y1 := (hLW.get 1 (by simp)).1
    obtain ⟨k0, k1, k2, k3, k4⟩ := cells5 nd
    exact ⟨k0, k1, k2, k3, k4, cells1 pd, c10, c11, c12, c13, c14⟩
  have hBW : base ≤ w2.heap.size := by omega
  obtain ⟨k0, k1, k2, k3, k4, kp, c10, c11, c12, c13, c14⟩ := HK.out w2 (PK.refl _ _ _)
  go_region_held3 (fun W => W.cell? ⟨w.heap.size + 1, 0, none⟩ = some (.int .i64 49) ∧ W.cell? ⟨w.heap.size + 1, 1, none⟩ = some (.string t) ∧ W.cell? ⟨w.heap.size + 1, 2, none⟩ = some (.int .i64 n) ∧ W.cell? ⟨w.heap.size + 1, 3, none⟩ = some (.int .i64 a) ∧ W.cell? ⟨w.heap.size + 1, 4, none⟩ = some (.slice (some ⟨b, o, none⟩) 2 c) ∧ W.cell? ⟨w.heap.size, 0, none⟩ = some (.pointer (some ⟨pb, 0, none⟩)) ∧ W.cell? ⟨b, o + 5, none⟩ = some (.int .i64 y1.kind) ∧ W.cell? ⟨b, o + 5 + 1, none⟩ = some (.string y1.text) ∧ W.cell? ⟨b, o + 5 + 2, none⟩ = some (.int .i64 y1.num) ∧ W.cell? ⟨b, o + 5 + 3, none⟩ = some (.int .i64 y1.at_) ∧ W.cell? ⟨b, o + 5 + 4, none⟩ = some (.slice y1.ptr y1.kids.length y1.cap))
    (first | exact HK.out _ hk3 | exact HK.out _ (PK.of ((Below.refl _ _).drew.alloc (by simp) _) hBW) | exact HK.out _ (PK.drw _ _ _))
    (first | (go_at_call 72; refine (Hh1.out _ _ _ (Nat.le_trans (Nat.le_of_eq HJ2.out) hi) (HD2.out.1.below (Below.refl _ _).drew) hBW (In.pk (HL2.out.get 1 (by simp)).2 (PK.drw _ _ _) hpb)).mono ?_; rintro e w3 ⟨⟨u3, rfl⟩, v3, hP3, hi3, hq3⟩; have hk3 : PK pb base w2 w3 := (PK.drw _ _ _).trans hq3; clear hq3))
  have HJ3 : Hid ((g1 (putS [⟨#[46, 40]⟩] (g0 s))).ind = s.ind) := hi3.trans HJ2.out
  have hK3 : PK pb base w w3 := HD2.out.2.1.trans hk3
  have nd3 := hk3.high (w.heap.size + 1) _ _ _ (by omega) HD2.out.2.2.1 (by decide)
  have pd3 := hk3.high w.heap.size _ _ _ (by omega) HD2.out.2.2.2 (by decide)
  have HI3 : Hid _ := In.pk HI2.out hk3 hpb
  have HL3 : Hid (MT.InL pb w3 b o [y0, y1]) := MT.InL.below (hk3.below (by omega) (Nat.le_refl _)) b o hbp _ HL2.out
  have hz3 := lt_of nd3
  have HD3 : Hid (_ ∧ _ ∧ _ ∧ _) := ⟨hP3, hK3, nd3, pd3⟩
  clear k0 k1 k2 k3 k4 kp c10 c11 c12 c13 c14 hBW HK
  obtain ⟨k0, k1, k2, k3, k4⟩ := cells5 nd3
  have kp := cells1 pd3
  have hbz3 : b < w3.heap.size := by omega
  clear hP3 hK3 nd3 hk3 HD2 HI2 HJ2 pd3 HL2
  go_wp2_with fail
  refine (putc [⟨#[41]⟩] HD3.out.1 hpb (Nat.le_trans hB HD3.out.2.1.size) (al_cons (by decide) al_nil) (by simp) (by first | rfl | simp)).mono ?_
  rintro e w4 ⟨⟨u4, rfl⟩, v4, hP4, hk4⟩
  have HJ4 : Hid ((putS [⟨#[41]⟩] (g1 (putS [⟨#[46, 40]⟩] (g0 s)))).ind = s.ind) := (putS_ind _ _).trans HJ3.out
  have HE : Hid (_ ∧ PK pb base w w4) := ⟨hP4, HD3.out.2.1.trans hk4⟩
  clear hP4 hk4 k0 k1 k2 k3 k4 kp
  go_wp2_with fail
  go_end0
  exact ⟨⟨_, rfl⟩, v4, HE.out.1, HJ4.out, HE.out.2⟩
set_option maxRecDepth 100000 in
set_option maxHeartbeats 4000000 in
theorem post_46  {t : ByteArray} {n : Int} {a : Int} {p : Option Addr} {c : Nat} {y0 y1 : MT}  {g0 g1 : PS → PS} (h0 : Wf 149 pb base L y0 g0) (h1 : Wf 71 pb base L y1 g1) (hpb : pb < base) : Wf 148 pb base L (.node 46 t n a p c [y0, y1]) (fun s => (brG ⟨#[91]⟩ ⟨#[93]⟩ g1 (g0 s))) := by
  intro s v w hi hP hB hin
  have hkk := hin.kidsL
  simp only [MT.kids_node, MT.ptr_node] at hkk
  rcases hkk with hkk | ⟨b, o, rfl, hbp, hL⟩
  · cases hkk
  have Hh0 : Hid _ := h0
  clear h0
  have Hh1 : Hid _ := h1
  clear h1
  have hb0 : Below w.heap.size w (((w.alloc (.cells #[.pointer (some ⟨pb, 0, none⟩)] 114)).alloc (.cells #[.int .i64 46, .string t, .int .i64 n, .int .i64 a, .slice (some ⟨b, o, none⟩) 2 c] 24)).alloc (.cells #[.int .i64 y0.kind, .string y0.text, .int .i64 y0.num, .int .i64 y0.at_, .slice y0.ptr y0.kids.length y0.cap] 24)) := (below2 _ _ _).alloc (by simp only [World.size_alloc]; omega) _
  have hP0 := hP.below hb0
  have hK0 : PK pb base w _ := PK.of (pb := pb) hb0 hB
  have HI0 : Hid _ := In.pk hin hK0 hpb
  have pd0 := (hb0x_ w (.cells #[.pointer (some ⟨pb, 0, none⟩)] 114) (.cells #[.int .i64 46, .string t, .int .i64 n, .int .i64 a, .slice (some ⟨b, o, none⟩) 2 c] 24) (.cells #[.int .i64 y0.kind, .string y0.text, .int .i64 y0.num, .int .i64 y0.at_, .slice y0.ptr y0.kids.length y0.cap] 24))
  have nd0 := (nb0x_ w (.cells #[.pointer (some ⟨pb, 0, none⟩)] 114) (.cells #[.int .i64 46, .string t, .int .i64 n, .int .i64 a, .slice (some ⟨b, o, none⟩) 2 c] 24) (.cells #[.int .i64 y0.kind, .string y0.text, .int .i64 y0.num, .int .i64 y0.at_, .slice y0.ptr y0.kids.length y0.cap] 24))
  have HL0 : Hid (MT.InL pb _ b o [y0, y1]) := MT.InL.below (hb0.mono (by omega)) b o hbp _ hL
  have hz0 := lt_of nd0
  have HD0 : Hid (_ ∧ _ ∧ _ ∧ _) := ⟨hP0, hK0, nd0, pd0⟩
  have hbz : b < w.heap.size := by omega
  obtain ⟨c00, c01, c02, c03, c04⟩ : MT.CellsAt w b o y0 := (hL.get 0 (by simp)).1
  clear hP hin hb0 hP0 hK0 nd0 pd0 hL
  rw [nv2]
  go_enter Tryz.func148, Tryz.ntmps148
  go_wp2_with fail
  refine (Hh0.out _ _ _ (Nat.le_trans (Nat.le_of_eq (Eq.refl s.ind)) hi) HD0.out.1 (Nat.le_trans hB HD0.out.2.1.size) (HL0.out.get 0 (by simp)).2).mono ?_
  rintro e w1 ⟨⟨u1, rfl⟩, v1, hP1, hi1, hk1⟩
  have HJ1 : Hid ((g0 s).ind = s.ind) := hi1.trans (Eq.refl s.ind)
  clear hi1
  have hK1 : PK pb base w w1 := HD0.out.2.1.trans hk1
  have nd1 := hk1.high (w.heap.size + 1) _ _ _ (by omega) HD0.out.2.2.1 (by decide)
  have pd1 := hk1.high w.heap.size _ _ _ (by omega) HD0.out.2.2.2 (by decide)
  have HI1 : Hid _ := In.pk HI0.out hk1 hpb
  have HL1 : Hid (MT.InL pb w1 b o [y0, y1]) := MT.InL.below (hk1.below (by omega) (Nat.le_refl _)) b o hbp _ HL0.out
  have hz1 := lt_of nd1
  have HD1 : Hid (_ ∧ _ ∧ _ ∧ _) := ⟨hP1, hK1, nd1, pd1⟩
  clear c00 c01 c02 c03 c04
  obtain ⟨k0, k1, k2, k3, k4⟩ := cells5 nd1
  have kp := cells1 pd1
  have hbz1 : b < w1.heap.size := by omega
  clear hP1 hK1 nd1 hk1 HD0 HI0 pd1 HL0
  go_wp2_with fail
  refine ((brack_any (o := ⟨#[91]⟩) (c := ⟨#[93]⟩) hpb (by decide) (by decide) (c164 (t := t) (n := n) (a := a) (p := some ⟨b, o, none⟩) (c := c) (y0 := y0) hpb ⟨by omega, by omega⟩ Hh1.out) (fun _ _ h1 h2 => h1.pk hpb (by omega) (by omega) h2) Tryz.call164) _ _ _ (Nat.le_trans (Nat.le_of_eq HJ1.out) hi) HD1.out.1 (Nat.le_trans hB HD1.out.2.1.size) ⟨HD1.out.2.2.2, HD1.out.2.2.1, HI1.out⟩).mono ?_
  rintro e w2 ⟨⟨u2, rfl⟩, v2, hP2, hi2, hk2⟩
  have HJ2 : Hid ((brG ⟨#[91]⟩ ⟨#[93]⟩ g1 (g0 s)).ind = s.ind) := hi2.trans HJ1.out
  clear hi2
  have HE : Hid (_ ∧ PK pb base w w2) := ⟨hP2, HD1.out.2.1.trans hk2⟩
  clear hP2 hk2 k0 k1 k2 k3 k4 kp
  go_wp2_with fail
  go_end0
  exact ⟨⟨_, rfl⟩, v2, HE.out.1, HJ2.out, HE.out.2⟩
set_option maxRecDepth 100000 in
set_option maxHeartbeats 4000000 in
theorem post_47  {t : ByteArray} {n : Int} {a : Int} {p : Option Addr} {c : Nat} {y0 y1 y2 y3 : MT}  {g0 g1 : PS → PS} (h0 : Wf 149 pb base L y0 g0) (h1 : Wc 166 #[.pointer (some ⟨pb, 0, none⟩), nodeV y1, nodeV y2, nodeV y3] pb base L (fun w => (MT.In pb w y1 ∧ MT.In pb w y2 ∧ MT.In pb w y3)) g1) (hpb : pb < base) : Wf 148 pb base L (.node 47 t n a p c [y0, y1, y2, y3]) (fun s => (brG ⟨#[91]⟩ ⟨#[93]⟩ g1 (g0 s))) := by
  intro s v w hi hP hB hin
  have hkk := hin.kidsL
  simp only [MT.kids_node, MT.ptr_node] at hkk
  rcases hkk with hkk | ⟨b, o, rfl, hbp, hL⟩
  · cases hkk
  have Hh0 : Hid _ := h0
  clear h0
  have Hh1 : Hid _ := h1
  clear h1
  have hb0 : Below w.heap.size w (((w.alloc (.cells #[.pointer (some ⟨pb, 0, none⟩)] 114)).alloc (.cells #[.int .i64 47, .string t, .int .i64 n, .int .i64 a, .slice (some ⟨b, o, none⟩) 4 c] 24)).alloc (.cells #[.int .i64 y0.kind, .string y0.text, .int .i64 y0.num, .int .i64 y0.at_, .slice y0.ptr y0.kids.length y0.cap] 24)) := (below2 _ _ _).alloc (by simp only [World.size_alloc]; omega) _
  have hP0 := hP.below hb0
  have hK0 : PK pb base w _ := PK.of (pb := pb) hb0 hB
  have HI0 : Hid _ := In.pk hin hK0 hpb
  have pd0 := (hb0x_ w (.cells #[.pointer (some ⟨pb, 0, none⟩)] 114) (.cells #[.int .i64 47, .string t, .int .i64 n, .int .i64 a, .slice (some ⟨b, o, none⟩) 4 c] 24) (.cells #[.int .i64 y0.kind, .string y0.text, .int .i64 y0.num, .int .i64 y0.at_, .slice y0.ptr y0.kids.length y0.cap] 24))
  have nd0 := (nb0x_ w (.cells #[.pointer (some ⟨pb, 0, none⟩)] 114) (.cells #[.int .i64 47, .string t, .int .i64 n, .int .i64 a, .slice (some ⟨b, o, none⟩) 4 c] 24) (.cells #[.int .i64 y0.kind, .string y0.text, .int .i64 y0.num, .int .i64 y0.at_, .slice y0.ptr y0.kids.length y0.cap] 24))
  have HL0 : Hid (MT.InL pb _ b o [y0, y1, y2, y3]) := MT.InL.below (hb0.mono (by omega)) b o hbp _ hL
  have hz0 := lt_of nd0
  have HD0 : Hid (_ ∧ _ ∧ _ ∧ _) := ⟨hP0, hK0, nd0, pd0⟩
  have hbz : b < w.heap.size := by omega
  obtain ⟨c00, c01, c02, c03, c04⟩ : MT.CellsAt w b o y0 := (hL.get 0 (by simp)).1
  clear hP hin hb0 hP0 hK0 nd0 pd0 hL
  rw [nv4]
  go_enter Tryz.func148, Tryz.ntmps148
  go_wp2_with fail
  refine (Hh0.out _ _ _ (Nat.le_trans (Nat.le_of_eq (Eq.refl s.ind)) hi) HD0.out.1 (Nat.le_trans hB HD0.out.2.1.size) (HL0.out.get 0 (by simp)).2).mono ?_
  rintro e w1 ⟨⟨u1, rfl⟩, v1, hP1, hi1, hk1⟩
  have HJ1 : Hid ((g0 s).ind = s.ind) := hi1.trans (Eq.refl s.ind)
  clear hi1
  have hK1 : PK pb base w w1 := HD0.out.2.1.trans hk1
  have nd1 := hk1.high (w.heap.size + 1) _ _ _ (by omega) HD0.out.2.2.1 (by decide)
  have pd1 := hk1.high w.heap.size _ _ _ (by omega) HD0.out.2.2.2 (by decide)
  have HI1 : Hid _ := In.pk HI0.out hk1 hpb
  have HL1 : Hid (MT.InL pb w1 b o [y0, y1, y2, y3]) := MT.InL.below (hk1.below (by omega) (Nat.le_refl _)) b o hbp _ HL0.out
  have hz1 := lt_of nd1
  have HD1 : Hid (_ ∧ _ ∧ _ ∧ _) := ⟨hP1, hK1, nd1, pd1⟩
  clear c00 c01 c02 c03 c04
  obtain ⟨k0, k1, k2, k3, k4⟩ := cells5 nd1
  have kp := cells1 pd1
  have hbz1 : b < w1.heap.size := by omega
  clear hP1 hK1 nd1 hk1 HD0 HI0 pd1 HL0
  go_wp2_with fail
  refine ((brack_any (o := ⟨#[91]⟩) (c := ⟨#[93]⟩) hpb (by decide) (by decide) (c165 (t := t) (n := n) (a := a) (p := some ⟨b, o, none⟩) (c := c) (y0 := y0) hpb ⟨by omega, by omega⟩ Hh1.out) (fun _ _ h1 h2 => h1.pk hpb (by omega) (by omega) h2) Tryz.call165) _ _ _ (Nat.le_trans (Nat.le_of_eq HJ1.out) hi) HD1.out.1 (Nat.le_trans hB HD1.out.2.1.size) ⟨HD1.out.2.2.2, HD1.out.2.2.1, HI1.out⟩).mono ?_
  rintro e w2 ⟨⟨u2, rfl⟩, v2, hP2, hi2, hk2⟩
  have HJ2 : Hid ((brG ⟨#[91]⟩ ⟨#[93]⟩ g1 (g0 s)).ind = s.ind) := hi2.trans HJ1.out
  clear hi2
  have HE : Hid (_ ∧ PK pb base w w2) := ⟨hP2, HD1.out.2.1.trans hk2⟩
  clear hP2 hk2 k0 k1 k2 k3 k4 kp
  go_wp2_with fail
  go_end0
  exact ⟨⟨_, rfl⟩, v2, HE.out.1, HJ2.out, HE.out.2⟩
end Go.Proofs.YthbnegggohegkaaGreatDoor
