/-
  Switches.
-/
import Derived.Test.YthbnegggohegkaaGreatDoorWgJ
namespace Go.Proofs.YthbnegggohegkaaGreatDoor
open Go.RowKit
variable {pb base L : Nat} {s : PS} {v : Value} {w w' : World}
/-- One behind another. -/
def casesG (gs : Nat → PS → PS) : Nat → PS → PS
  | 0, s => s
  | n + 1, s => gs n (casesG gs n s)
set_option maxRecDepth 100000 in
set_option maxHeartbeats 4000000 in
theorem choices_25n  {t : ByteArray} {n : Int} {a : Int} {p : Option Addr} {c : Nat} {y0 : MT} {ks : List MT}  {gl g0 : PS → PS} (hL1 : L ≤ 1000) (hl : Wf 135 pb base L (.node 25 t n a p c (y0 :: ks)) gl) (h0 : Wc 107 #[.pointer (some ⟨pb, 0, none⟩), .string ⟨#[32]⟩, nodeV y0, .func (.func 134) #[.pointer (some ⟨pb, 0, none⟩)] #[]] pb base L (fun w => MT.In pb w y0) g0) {gs : Nat → PS → PS} (h : ∀ (i : Nat) (hi : i < ks.length), Wf 74 pb base L ks[i] (gs i)) (hc1 : c ≠ 1) (hpb : pb < base) : Wf 106 pb base L (.node 25 t n a p c (y0 :: ks)) (fun s => putS [⟨#[125]⟩] (tabs s.ind (casesG gs ks.length (putS [⟨#[32, 123, 10]⟩] (g0 (putS [⟨#[115, 119, 105, 116, 99, 104]⟩] (gl s))))))) := by
  intro s v w hi hP hB hin
  have hkk := hin.kidsL
  simp only [MT.kids_node, MT.ptr_node] at hkk
  rcases hkk with hkk | ⟨b, o, rfl, hbp, hL⟩
  · cases hkk
  have Hhl : Hid _ := hl
  clear hl
  have Hh0 : Hid _ := h0
  clear h0
  have Hh : Hid _ := h
  clear h
  have hb0 : Below w.heap.size w (w.alloc (.cells #[.int .i64 25, .string t, .int .i64 n, .int .i64 a, .slice (some ⟨b, o, none⟩) (ks.length + 1) c] 24)) := below1 _ _
  have hP0 := hP.below hb0
  have hK0 : PK pb base w _ := PK.of (pb := pb) hb0 hB
  have HI0 : Hid _ := In.pk hin hK0 hpb
  have nd0 := heap_alloc_new w (.cells #[.int .i64 25, .string t, .int .i64 n, .int .i64 a, .slice (some ⟨b, o, none⟩) (ks.length + 1) c] 24)
  have HL0 : Hid (MT.InL pb _ b o (y0 :: ks)) := MT.InL.below (hb0.mono (by omega)) b o hbp _ hL
  have hz0 := lt_of nd0
  have HD0 : Hid (_ ∧ _ ∧ _) := ⟨hP0, hK0, nd0⟩
  have hbz : b < w.heap.size := by omega
  have i90 : (0 : Int) < (ks.length : Int) + 1 := by omega
  clear hP hin hb0 hP0 hK0 nd0 hL
  have hcl := HI0.out.len_le
  simp only [MT.kids_node, MT.cap_node, List.length_cons] at hcl
  have hcm := HI0.out.cap_le
  simp only [MT.cap_node] at hcm
  have hm9 : ks.length < 9223372036854775807 := by have := hcm; unfold maxLen at this; omega
  have hc2 : (c : Int) ≠ 1 := by omega
  have hc3 : (1 : Int) ≤ c := by omega
  have hc30 : (1 : Int) ≤ c := by omega
  skip
  have hc4 : (1 : Int) ≤ (ks.length : Int) + 1 := by omega
  have hc5 : (1 : Int) ≤ (ks.length : Int) + 1 := by omega
  rw [nvt1]
  go_enter Tryz.func106, Tryz.ntmps106
  go_wp2_with fail
  refine (Hhl.out _ _ _ (Nat.le_trans (Nat.le_of_eq (Eq.refl s.ind)) hi) HD0.out.1 (Nat.le_trans hB HD0.out.2.1.size) HI0.out).mono ?_
  rintro e w1 ⟨⟨u1, rfl⟩, v1, hP1, hi1, hk1⟩
  have HJ1 : Hid ((gl s).ind = s.ind) := hi1.trans (Eq.refl s.ind)
  clear hi1
  have hK1 : PK pb base w w1 := HD0.out.2.1.trans hk1
  have nd1 := hk1.high (w.heap.size) _ _ _ (by omega) HD0.out.2.2 (by decide)
  have HI1 : Hid _ := In.pk HI0.out hk1 hpb
  have HL1 : Hid (MT.InL pb w1 b o (y0 :: ks)) := MT.InL.below (hk1.below (by omega) (Nat.le_refl _)) b o hbp _ HL0.out
  have hz1 := lt_of nd1
  have HD1 : Hid (_ ∧ _ ∧ _) := ⟨hP1, hK1, nd1⟩
  obtain ⟨k0, k1, k2, k3, k4⟩ := cells5 nd1
  have hbz1 : b < w1.heap.size := by omega
  clear hP1 hK1 nd1 hk1 HD0 HI0 HL0
  go_wp2_with fail
  refine (putc [⟨#[115, 119, 105, 116, 99, 104]⟩] HD1.out.1 hpb (Nat.le_trans hB HD1.out.2.1.size) (al_cons (by decide) al_nil) (by simp) (by first | rfl | simp)).mono ?_
  rintro e w2 ⟨⟨u2, rfl⟩, v2, hP2, hk2⟩
  have HJ2 : Hid ((putS [⟨#[115, 119, 105, 116, 99, 104]⟩] (gl s)).ind = s.ind) := (putS_ind _ _).trans HJ1.out
  have hK2 : PK pb base w w2 := HD1.out.2.1.trans hk2
  have nd2 := hk2.high (w.heap.size) _ _ _ (by omega) HD1.out.2.2 (by decide)
  have HI2 : Hid _ := In.pk HI1.out hk2 hpb
  have HL2 : Hid (MT.InL pb w2 b o (y0 :: ks)) := MT.InL.below (hk2.below (by omega) (Nat.le_refl _)) b o hbp _ HL1.out
  have hz2 := lt_of nd2
  have HD2 : Hid (_ ∧ _ ∧ _) := ⟨hP2, hK2, nd2⟩
  clear k0 k1 k2 k3 k4
  obtain ⟨k0, k1, k2, k3, k4⟩ := cells5 nd2
  obtain ⟨c00, c01, c02, c03, c04⟩ : MT.CellsAt w2 b o y0 := (HL2.out.get 0 (by simp)).1
  have hbz2 : b < w2.heap.size := by omega
  clear hP2 hK2 nd2 hk2 HD1 HI1 HJ1 HL1
  go_wp2_with fail
  refine (Hh0.out _ _ _ (Nat.le_trans (Nat.le_of_eq HJ2.out) hi) HD2.out.1 (Nat.le_trans hB HD2.out.2.1.size) (HL2.out.get 0 (by simp)).2).mono ?_
  rintro e w3 ⟨⟨u3, rfl⟩, v3, hP3, hi3, hk3⟩
  have HJ3 : Hid ((g0 (putS [⟨#[115, 119, 105, 116, 99, 104]⟩] (gl s))).ind = s.ind) := hi3.trans HJ2.out
  clear hi3
  have hK3 : PK pb base w w3 := HD2.out.2.1.trans hk3
  have nd3 := hk3.high (w.heap.size) _ _ _ (by omega) HD2.out.2.2 (by decide)
  have HI3 : Hid _ := In.pk HI2.out hk3 hpb
  have HL3 : Hid (MT.InL pb w3 b o (y0 :: ks)) := MT.InL.below (hk3.below (by omega) (Nat.le_refl _)) b o hbp _ HL2.out
  have hz3 := lt_of nd3
  have HD3 : Hid (_ ∧ _ ∧ _) := ⟨hP3, hK3, nd3⟩
  clear k0 k1 k2 k3 k4 c00 c01 c02 c03 c04
  obtain ⟨k0, k1, k2, k3, k4⟩ := cells5 nd3
  have hbz3 : b < w3.heap.size := by omega
  clear hP3 hK3 nd3 hk3 HD2 HI2 HJ2 HL2
  go_wp2_with fail
  refine (putc [⟨#[32, 123, 10]⟩] HD3.out.1 hpb (Nat.le_trans hB HD3.out.2.1.size) (al_cons (by decide) al_nil) (by simp) (by first | rfl | simp)).mono ?_
  rintro e w4 ⟨⟨u4, rfl⟩, v4, hP4, hk4⟩
  have HJ4 : Hid ((putS [⟨#[32, 123, 10]⟩] (g0 (putS [⟨#[115, 119, 105, 116, 99, 104]⟩] (gl s)))).ind = s.ind) := (putS_ind _ _).trans HJ3.out
  have hK4 : PK pb base w w4 := HD3.out.2.1.trans hk4
  have nd4 := hk4.high (w.heap.size) _ _ _ (by omega) HD3.out.2.2 (by decide)
  have HI4 : Hid _ := In.pk HI3.out hk4 hpb
  have HL4 : Hid (MT.InL pb w4 b o (y0 :: ks)) := MT.InL.below (hk4.below (by omega) (Nat.le_refl _)) b o hbp _ HL3.out
  have hz4 := lt_of nd4
  have HD4 : Hid (_ ∧ _ ∧ _) := ⟨hP4, hK4, nd4⟩
  clear k0 k1 k2 k3 k4
  obtain ⟨k0, k1, k2, k3, k4⟩ := cells5 nd4
  have hbz4 : b < w4.heap.size := by omega
  clear hP4 hK4 nd4 hk4 HD3 HI3 HJ3 HL3
  go_wp2_with fail
  clear k0 k1 k2 k3 k4
  obtain ⟨s1, hs1⟩ : ∃ s1, s1 = (putS [⟨#[32, 123, 10]⟩] (g0 (putS [⟨#[115, 119, 105, 116, 99, 104]⟩] (gl s)))) := ⟨_, rfl⟩
  rw [← hs1] at HD4 HJ4
  have HS1 : Hid (s1 = (putS [⟨#[32, 123, 10]⟩] (g0 (putS [⟨#[115, 119, 105, 116, 99, 104]⟩] (gl s))))) := hs1
  clear hs1
  have HC : Hid (Kd pb (some ⟨b, o + 5, none⟩) ks w4) := .inr ⟨b, o + 5, rfl, hbp, by have := HL4.out.drop 1; simpa using this⟩
  go_loopg [48] ks.length (fun gk i wr => ∃ (j : Nat) (v : Value), gk + j = ks.length ∧ i = .int .i64 j ∧ Pr2 pb base (casesG gs j s1) v wr ∧ (casesG gs j s1).ind = s.ind ∧ PK pb base w wr ∧ PK pb base w4 wr)
  case atStart => exact ⟨0, v4, rfl, rfl, HD4.out.1, HJ4.out, HD4.out.2.1, PK.refl _ _ _⟩
  case round =>
    obtain ⟨j, v, hj, rfl, hP', hi', hK, hKW⟩ := hrel
    have hz := hK.size
    by_cases hlt : j < ks.length
    · have HG : Hid (gk + j = ks.length) := hj
      have HP : Hid (Pr2 pb base (casesG gs j s1) v wr ∧ (casesG gs j s1).ind = s.ind) := ⟨hP', hi'⟩
      have HJ : Hid (Wf 74 pb base L ks[j] (gs j)) := Hh.out j hlt
      have HKK : Hid (PK pb base w wr ∧ PK pb base w4 wr) := ⟨hK, hKW⟩
      rcases HC.out.pk hpb hKW with hk | ⟨b', o', hp, hbp', hLL'⟩
      · rw [hk] at hlt; exact absurd hlt (by simp)
      · obtain ⟨rfl, rfl⟩ : b = b' ∧ o + 5 = o' := by simpa using hp
        have i1 : (j : Int) < ks.length := by omega
        have hbz' : b < wr.heap.size := by omega
        obtain ⟨⟨c0, c1, c2, c3, c4⟩, hin⟩ := hLL'.get j hlt
        have HIN : Hid (ks[j].In pb wr) := hin
        obtain ⟨y, hy⟩ : ∃ y, y = ks[j] := ⟨_, rfl⟩
        rw [← hy] at c0 c1 c2 c3 c4 HJ HIN
        have HB1 : Hid (PK pb base wr (wr.alloc (nodeO y))) := PK.of (below1 _ _) (by omega)
        have HP1 : Hid (Pr2 pb base (casesG gs j s1) v (wr.alloc (nodeO y))) := HP.out.1.below (below1 _ _)
        have HI1 : Hid (y.In pb (wr.alloc (nodeO y))) := In.pk HIN.out HB1.out hpb
        clear hj hP' hi' hLL' hin hy hK hKW hp
        go_wp2_with (first
          | (go_at_call 74; refine (HJ.out _ _ _ (by rw [HP.out.2]; exact hi) HP1.out (by simp only [World.size_alloc]; omega) HI1.out).mono ?_; rintro e w9 ⟨⟨u9, rfl⟩, v9, hP9, hi9, hK9⟩))
        go_roundg (ks.length - (j + 1))
        case measure => have := HG.out; omega
        case rel => exact ⟨j + 1, v9, by omega, by go_num, hP9, hi9.trans HP.out.2, (HKK.out.1.trans HB1.out).trans hK9, (HKK.out.2.trans HB1.out).trans hK9⟩
    · have hjl : j = ks.length := by omega
      subst hjl
      obtain ⟨s5, hs5⟩ : ∃ s5, s5 = casesG gs ks.length s1 := ⟨_, rfl⟩
      rw [← hs5] at hP' hi'
      have HP6 : Hid (Pr2 pb base s5 v wr ∧ PK pb base w wr ∧ s5.ind = s.ind) := ⟨hP', hK, hi'⟩
      have HS5 : Hid (s5 = casesG gs ks.length s1) := hs5
      clear hP' hi' hK hs5 hKW
      go_wp2_with (first
        | (go_at_call 95; refine (indent_any (s := s5) hpb (by rw [HP6.out.2.2]; exact Nat.le_trans hi hL1) HP6.out.1 (by omega)).mono ?_; rintro e w7 ⟨⟨u7, rfl⟩, v7, hP7, hK7⟩; have hz7 := (HP6.out.2.1.trans hK7).size)
        | (go_at_call 96; refine (putc [⟨#[125]⟩] hP7 hpb (by omega) (al_cons (by decide) al_nil) (by simp) rfl).mono ?_; rintro e w8 ⟨⟨u8, rfl⟩, v8, hP8, hK8⟩))
      go_end0
      refine ⟨⟨_, rfl⟩, v8, ?_, ?_, (HP6.out.2.1.trans hK7).trans hK8⟩
      · rw [HP6.out.2.2, HS5.out, HS1.out] at hP8; exact hP8
      · rw [putS_ind, tabs_ind]; have h9 := HP6.out.2.2; rw [HS5.out, HS1.out] at h9; exact h9
set_option maxRecDepth 100000 in
set_option maxHeartbeats 4000000 in
theorem choices_25e  {t : ByteArray} {n : Int} {a : Int} {p : Option Addr} {y0 : MT}  {gl g0 : PS → PS} (hL1 : L ≤ 1000) (hl : Wf 135 pb base L (.node 25 t n a p 1 [y0]) gl) (h0 : Wc 107 #[.pointer (some ⟨pb, 0, none⟩), .string ⟨#[32]⟩, nodeV y0, .func (.func 134) #[.pointer (some ⟨pb, 0, none⟩)] #[]] pb base L (fun w => MT.In pb w y0) g0) (hpb : pb < base) : Wf 106 pb base L (.node 25 t n a p 1 [y0]) (fun s => putS [⟨#[125]⟩] (tabs s.ind (putS [⟨#[32, 123, 10]⟩] (g0 (putS [⟨#[115, 119, 105, 116, 99, 104]⟩] (gl s)))))) := by
  intro s v w hi hP hB hin
  have hkk := hin.kidsL
  simp only [MT.kids_node, MT.ptr_node] at hkk
  rcases hkk with hkk | ⟨b, o, rfl, hbp, hL⟩
  · cases hkk
  have Hhl : Hid _ := hl
  clear hl
  have Hh0 : Hid _ := h0
  clear h0
  have hb0 : Below w.heap.size w (w.alloc (.cells #[.int .i64 25, .string t, .int .i64 n, .int .i64 a, .slice (some ⟨b, o, none⟩) 1 1] 24)) := below1 _ _
  have hP0 := hP.below hb0
  have hK0 : PK pb base w _ := PK.of (pb := pb) hb0 hB
  have HI0 : Hid _ := In.pk hin hK0 hpb
  have nd0 := heap_alloc_new w (.cells #[.int .i64 25, .string t, .int .i64 n, .int .i64 a, .slice (some ⟨b, o, none⟩) 1 1] 24)
  have HL0 : Hid (MT.InL pb _ b o [y0]) := MT.InL.below (hb0.mono (by omega)) b o hbp _ hL
  have hz0 := lt_of nd0
  have HD0 : Hid (_ ∧ _ ∧ _) := ⟨hP0, hK0, nd0⟩
  have hbz : b < w.heap.size := by omega
  clear hP hin hb0 hP0 hK0 nd0 hL
  rw [nv1]
  go_enter Tryz.func106, Tryz.ntmps106
  go_wp2_with fail
  refine (Hhl.out _ _ _ (Nat.le_trans (Nat.le_of_eq (Eq.refl s.ind)) hi) HD0.out.1 (Nat.le_trans hB HD0.out.2.1.size) HI0.out).mono ?_
  rintro e w1 ⟨⟨u1, rfl⟩, v1, hP1, hi1, hk1⟩
  have HJ1 : Hid ((gl s).ind = s.ind) := hi1.trans (Eq.refl s.ind)
  clear hi1
  have hK1 : PK pb base w w1 := HD0.out.2.1.trans hk1
  have nd1 := hk1.high (w.heap.size) _ _ _ (by omega) HD0.out.2.2 (by decide)
  have HI1 : Hid _ := In.pk HI0.out hk1 hpb
  have HL1 : Hid (MT.InL pb w1 b o [y0]) := MT.InL.below (hk1.below (by omega) (Nat.le_refl _)) b o hbp _ HL0.out
  have hz1 := lt_of nd1
  have HD1 : Hid (_ ∧ _ ∧ _) := ⟨hP1, hK1, nd1⟩
  obtain ⟨k0, k1, k2, k3, k4⟩ := cells5 nd1
  have hbz1 : b < w1.heap.size := by omega
  clear hP1 hK1 nd1 hk1 HD0 HI0 HL0
  go_wp2_with fail
  refine (putc [⟨#[115, 119, 105, 116, 99, 104]⟩] HD1.out.1 hpb (Nat.le_trans hB HD1.out.2.1.size) (al_cons (by decide) al_nil) (by simp) (by first | rfl | simp)).mono ?_
  rintro e w2 ⟨⟨u2, rfl⟩, v2, hP2, hk2⟩
  have HJ2 : Hid ((putS [⟨#[115, 119, 105, 116, 99, 104]⟩] (gl s)).ind = s.ind) := (putS_ind _ _).trans HJ1.out
  have hK2 : PK pb base w w2 := HD1.out.2.1.trans hk2
  have nd2 := hk2.high (w.heap.size) _ _ _ (by omega) HD1.out.2.2 (by decide)
  have HI2 : Hid _ := In.pk HI1.out hk2 hpb
  have HL2 : Hid (MT.InL pb w2 b o [y0]) := MT.InL.below (hk2.below (by omega) (Nat.le_refl _)) b o hbp _ HL1.out
  have hz2 := lt_of nd2
  have HD2 : Hid (_ ∧ _ ∧ _) := ⟨hP2, hK2, nd2⟩
  clear k0 k1 k2 k3 k4
  obtain ⟨k0, k1, k2, k3, k4⟩ := cells5 nd2
  obtain ⟨c00, c01, c02, c03, c04⟩ : MT.CellsAt w2 b o y0 := (HL2.out.get 0 (by simp)).1
  have hbz2 : b < w2.heap.size := by omega
  clear hP2 hK2 nd2 hk2 HD1 HI1 HJ1 HL1
  go_wp2_with fail
  refine (Hh0.out _ _ _ (Nat.le_trans (Nat.le_of_eq HJ2.out) hi) HD2.out.1 (Nat.le_trans hB HD2.out.2.1.size) (HL2.out.get 0 (by simp)).2).mono ?_
  rintro e w3 ⟨⟨u3, rfl⟩, v3, hP3, hi3, hk3⟩
  have HJ3 : Hid ((g0 (putS [⟨#[115, 119, 105, 116, 99, 104]⟩] (gl s))).ind = s.ind) := hi3.trans HJ2.out
  clear hi3
  have hK3 : PK pb base w w3 := HD2.out.2.1.trans hk3
  have nd3 := hk3.high (w.heap.size) _ _ _ (by omega) HD2.out.2.2 (by decide)
  have HI3 : Hid _ := In.pk HI2.out hk3 hpb
  have HL3 : Hid (MT.InL pb w3 b o [y0]) := MT.InL.below (hk3.below (by omega) (Nat.le_refl _)) b o hbp _ HL2.out
  have hz3 := lt_of nd3
  have HD3 : Hid (_ ∧ _ ∧ _) := ⟨hP3, hK3, nd3⟩
  clear k0 k1 k2 k3 k4 c00 c01 c02 c03 c04
  obtain ⟨k0, k1, k2, k3, k4⟩ := cells5 nd3
  have hbz3 : b < w3.heap.size := by omega
  clear hP3 hK3 nd3 hk3 HD2 HI2 HJ2 HL2
  go_wp2_with fail
  refine (putc [⟨#[32, 123, 10]⟩] HD3.out.1 hpb (Nat.le_trans hB HD3.out.2.1.size) (al_cons (by decide) al_nil) (by simp) (by first | rfl | simp)).mono ?_
  rintro e w4 ⟨⟨u4, rfl⟩, v4, hP4, hk4⟩
  have HJ4 : Hid ((putS [⟨#[32, 123, 10]⟩] (g0 (putS [⟨#[115, 119, 105, 116, 99, 104]⟩] (gl s)))).ind = s.ind) := (putS_ind _ _).trans HJ3.out
  have hK4 : PK pb base w w4 := HD3.out.2.1.trans hk4
  have nd4 := hk4.high (w.heap.size) _ _ _ (by omega) HD3.out.2.2 (by decide)
  have HI4 : Hid _ := In.pk HI3.out hk4 hpb
  have HL4 : Hid (MT.InL pb w4 b o [y0]) := MT.InL.below (hk4.below (by omega) (Nat.le_refl _)) b o hbp _ HL3.out
  have hz4 := lt_of nd4
  have HD4 : Hid (_ ∧ _ ∧ _) := ⟨hP4, hK4, nd4⟩
  clear k0 k1 k2 k3 k4
  obtain ⟨k0, k1, k2, k3, k4⟩ := cells5 nd4
  have hbz4 : b < w4.heap.size := by omega
  clear hP4 hK4 nd4 hk4 HD3 HI3 HJ3 HL3
  go_wp2_with fail
  clear k0 k1 k2 k3 k4
  obtain ⟨s1, hs1⟩ : ∃ s1, s1 = (putS [⟨#[32, 123, 10]⟩] (g0 (putS [⟨#[115, 119, 105, 116, 99, 104]⟩] (gl s)))) := ⟨_, rfl⟩
  rw [← hs1] at HD4 HJ4
  have HS1 : Hid (s1 = (putS [⟨#[32, 123, 10]⟩] (g0 (putS [⟨#[115, 119, 105, 116, 99, 104]⟩] (gl s))))) := hs1
  clear hs1
  have HC : Hid (Kd pb (some ⟨b, o + 5, none⟩) ([] : List MT) w4) := .inl rfl
  go_loopg [48] ([] : List MT).length (fun gk i wr => ∃ (j : Nat) (v : Value), gk + j = ([] : List MT).length ∧ i = .int .i64 j ∧ Pr2 pb base (casesG (fun _ s => s) j s1) v wr ∧ (casesG (fun _ s => s) j s1).ind = s.ind ∧ PK pb base w wr ∧ PK pb base w4 wr)
  case atStart => exact ⟨0, v4, rfl, rfl, HD4.out.1, HJ4.out, HD4.out.2.1, PK.refl _ _ _⟩
  case round =>
    obtain ⟨j, v, hj, rfl, hP', hi', hK, hKW⟩ := hrel
    have hz := hK.size
    · have hjl : j = 0 := by simp at hj; omega
      subst hjl
      obtain ⟨s5, hs5⟩ : ∃ s5, s5 = casesG (fun _ s => s) 0 s1 := ⟨_, rfl⟩
      rw [← hs5] at hP' hi'
      have HP6 : Hid (Pr2 pb base s5 v wr ∧ PK pb base w wr ∧ s5.ind = s.ind) := ⟨hP', hK, hi'⟩
      have HS5 : Hid (s5 = casesG (fun _ s => s) 0 s1) := hs5
      clear hP' hi' hK hs5 hKW
      go_wp2_with (first
        | (go_at_call 95; refine (indent_any (s := s5) hpb (by rw [HP6.out.2.2]; exact Nat.le_trans hi hL1) HP6.out.1 (by omega)).mono ?_; rintro e w7 ⟨⟨u7, rfl⟩, v7, hP7, hK7⟩; have hz7 := (HP6.out.2.1.trans hK7).size)
        | (go_at_call 96; refine (putc [⟨#[125]⟩] hP7 hpb (by omega) (al_cons (by decide) al_nil) (by simp) rfl).mono ?_; rintro e w8 ⟨⟨u8, rfl⟩, v8, hP8, hK8⟩))
      go_end0
      refine ⟨⟨_, rfl⟩, v8, ?_, ?_, (HP6.out.2.1.trans hK7).trans hK8⟩
      · rw [HP6.out.2.2, HS5.out, HS1.out] at hP8; exact hP8
      · rw [putS_ind, tabs_ind]; have h9 := HP6.out.2.2; rw [HS5.out, HS1.out] at h9; exact h9
set_option maxRecDepth 100000 in
set_option maxHeartbeats 4000000 in
theorem choices_26n  {t : ByteArray} {n : Int} {a : Int} {p : Option Addr} {c : Nat} {y0 y1 : MT} {ks : List MT}  {gl g0 : PS → PS} (hL1 : L ≤ 1000) (hl : Wf 135 pb base L (.node 26 t n a p c (y0 :: y1 :: ks)) gl) (h0 : Wc 137 #[.pointer (some ⟨pb, 0, none⟩), nodeV y0, nodeV y1] pb base L (fun w => MT.In pb w y0 ∧ MT.In pb w y1) g0) {gs : Nat → PS → PS} (h : ∀ (i : Nat) (hi : i < ks.length), Wf 74 pb base L ks[i] (gs i)) (hc1 : c ≠ 2) (hpb : pb < base) : Wf 106 pb base L (.node 26 t n a p c (y0 :: y1 :: ks)) (fun s => putS [⟨#[125]⟩] (tabs s.ind (casesG gs ks.length (putS [⟨#[32, 123, 10]⟩] (g0 (putS [⟨#[32]⟩] (putS [⟨#[115, 119, 105, 116, 99, 104]⟩] (gl s)))))))) := by
  intro s v w hi hP hB hin
  have hkk := hin.kidsL
  simp only [MT.kids_node, MT.ptr_node] at hkk
  rcases hkk with hkk | ⟨b, o, rfl, hbp, hL⟩
  · cases hkk
  have Hhl : Hid _ := hl
  clear hl
  have Hh0 : Hid _ := h0
  clear h0
  have Hh : Hid _ := h
  clear h
  have hb0 : Below w.heap.size w (w.alloc (.cells #[.int .i64 26, .string t, .int .i64 n, .int .i64 a, .slice (some ⟨b, o, none⟩) (ks.length + 2) c] 24)) := below1 _ _
  have hP0 := hP.below hb0
  have hK0 : PK pb base w _ := PK.of (pb := pb) hb0 hB
  have HI0 : Hid _ := In.pk hin hK0 hpb
  have nd0 := heap_alloc_new w (.cells #[.int .i64 26, .string t, .int .i64 n, .int .i64 a, .slice (some ⟨b, o, none⟩) (ks.length + 2) c] 24)
  have HL0 : Hid (MT.InL pb _ b o (y0 :: y1 :: ks)) := MT.InL.below (hb0.mono (by omega)) b o hbp _ hL
  have hz0 := lt_of nd0
  have HD0 : Hid (_ ∧ _ ∧ _) := ⟨hP0, hK0, nd0⟩
  have hbz : b < w.heap.size := by omega
  have i90 : (0 : Int) < (ks.length : Int) + 2 := by omega
  have i91 : (1 : Int) < (ks.length : Int) + 2 := by omega
  clear hP hin hb0 hP0 hK0 nd0 hL
  have hcl := HI0.out.len_le
  simp only [MT.kids_node, MT.cap_node, List.length_cons] at hcl
  have hcm := HI0.out.cap_le
  simp only [MT.cap_node] at hcm
  have hm9 : ks.length < 9223372036854775807 := by have := hcm; unfold maxLen at this; omega
  have hc2 : (c : Int) ≠ 2 := by omega
  have hc3 : (2 : Int) ≤ c := by omega
  have hc30 : (1 : Int) ≤ c := by omega
  have hc31 : (c : Int) ≠ 1 := by omega
  have hc4 : (1 : Int) ≤ (ks.length : Int) + 2 := by omega
  have hc5 : (2 : Int) ≤ (ks.length : Int) + 2 := by omega
  rw [nvt2]
  go_enter Tryz.func106, Tryz.ntmps106
  go_wp2_with fail
  refine (Hhl.out _ _ _ (Nat.le_trans (Nat.le_of_eq (Eq.refl s.ind)) hi) HD0.out.1 (Nat.le_trans hB HD0.out.2.1.size) HI0.out).mono ?_
  rintro e w1 ⟨⟨u1, rfl⟩, v1, hP1, hi1, hk1⟩
  have HJ1 : Hid ((gl s).ind = s.ind) := hi1.trans (Eq.refl s.ind)
  clear hi1
  have hK1 : PK pb base w w1 := HD0.out.2.1.trans hk1
  have nd1 := hk1.high (w.heap.size) _ _ _ (by omega) HD0.out.2.2 (by decide)
  have HI1 : Hid _ := In.pk HI0.out hk1 hpb
  have HL1 : Hid (MT.InL pb w1 b o (y0 :: y1 :: ks)) := MT.InL.below (hk1.below (by omega) (Nat.le_refl _)) b o hbp _ HL0.out
  have hz1 := lt_of nd1
  have HD1 : Hid (_ ∧ _ ∧ _) := ⟨hP1, hK1, nd1⟩
  obtain ⟨k0, k1, k2, k3, k4⟩ := cells5 nd1
  have hbz1 : b < w1.heap.size := by omega
  clear hP1 hK1 nd1 hk1 HD0 HI0 HL0
  go_wp2_with fail
  refine (putc [⟨#[115, 119, 105, 116, 99, 104]⟩] HD1.out.1 hpb (Nat.le_trans hB HD1.out.2.1.size) (al_cons (by decide) al_nil) (by simp) (by first | rfl | simp)).mono ?_
  rintro e w2 ⟨⟨u2, rfl⟩, v2, hP2, hk2⟩
  have HJ2 : Hid ((putS [⟨#[115, 119, 105, 116, 99, 104]⟩] (gl s)).ind = s.ind) := (putS_ind _ _).trans HJ1.out
  have hK2 : PK pb base w w2 := HD1.out.2.1.trans hk2
  have nd2 := hk2.high (w.heap.size) _ _ _ (by omega) HD1.out.2.2 (by decide)
  have HI2 : Hid _ := In.pk HI1.out hk2 hpb
  have HL2 : Hid (MT.InL pb w2 b o (y0 :: y1 :: ks)) := MT.InL.below (hk2.below (by omega) (Nat.le_refl _)) b o hbp _ HL1.out
  have hz2 := lt_of nd2
  have HD2 : Hid (_ ∧ _ ∧ _) := ⟨hP2, hK2, nd2⟩
  clear k0 k1 k2 k3 k4
  obtain ⟨k0, k1, k2, k3, k4⟩ := cells5 nd2
  have hbz2 : b < w2.heap.size := by omega
  clear hP2 hK2 nd2 hk2 HD1 HI1 HJ1 HL1
  go_wp2_with fail
  refine (putc [⟨#[32]⟩] HD2.out.1 hpb (Nat.le_trans hB HD2.out.2.1.size) (al_cons (by decide) al_nil) (by simp) (by first | rfl | simp)).mono ?_
  rintro e w3 ⟨⟨u3, rfl⟩, v3, hP3, hk3⟩
  have HJ3 : Hid ((putS [⟨#[32]⟩] (putS [⟨#[115, 119, 105, 116, 99, 104]⟩] (gl s))).ind = s.ind) := (putS_ind _ _).trans HJ2.out
  have hK3 : PK pb base w w3 := HD2.out.2.1.trans hk3
  have nd3 := hk3.high (w.heap.size) _ _ _ (by omega) HD2.out.2.2 (by decide)
  have HI3 : Hid _ := In.pk HI2.out hk3 hpb
  have HL3 : Hid (MT.InL pb w3 b o (y0 :: y1 :: ks)) := MT.InL.below (hk3.below (by omega) (Nat.le_refl _)) b o hbp _ HL2.out
  have hz3 := lt_of nd3
  have HD3 : Hid (_ ∧ _ ∧ _) := ⟨hP3, hK3, nd3⟩
  clear k0 k1 k2 k3 k4
  obtain ⟨k0, k1, k2, k3, k4⟩ := cells5 nd3
  have hbz3 : b < w3.heap.size := by omega
  clear hP3 hK3 nd3 hk3 HD2 HI2 HJ2 HL2
  go_wp2_with fail
  clear k0 k1 k2 k3 k4
  have HK : Hid (∀ W, PK pb base w3 W → (W.cell? ⟨w.heap.size, 0, none⟩ = some (.int .i64 26) ∧ W.cell? ⟨w.heap.size, 1, none⟩ = some (.string t) ∧ W.cell? ⟨w.heap.size, 2, none⟩ = some (.int .i64 n) ∧ W.cell? ⟨w.heap.size, 3, none⟩ = some (.int .i64 a) ∧ W.cell? ⟨w.heap.size, 4, none⟩ = some (.slice (some ⟨b, o, none⟩) (ks.length + 2) c) ∧ W.cell? ⟨b, o, none⟩ = some (.int .i64 y0.kind) ∧ W.cell? ⟨b, o + 1, none⟩ = some (.string y0.text) ∧ W.cell? ⟨b, o + 2, none⟩ = some (.int .i64 y0.num) ∧ W.cell? ⟨b, o + 3, none⟩ = some (.int .i64 y0.at_) ∧ W.cell? ⟨b, o + 4, none⟩ = some (.slice y0.ptr y0.kids.length y0.cap) ∧ W.cell? ⟨b, o + 5, none⟩ = some (.int .i64 y1.kind) ∧ W.cell? ⟨b, o + 5 + 1, none⟩ = some (.string y1.text) ∧ W.cell? ⟨b, o + 5 + 2, none⟩ = some (.int .i64 y1.num) ∧ W.cell? ⟨b, o + 5 + 3, none⟩ = some (.int .i64 y1.at_) ∧ W.cell? ⟨b, o + 5 + 4, none⟩ = some (.slice y1.ptr y1.kids.length y1.cap))) := fun W hW => by
    have nd := hW.high (w.heap.size) _ _ _ (by omega) HD3.out.2.2 (by decide)
    have hLW := MT.InL.below (hW.below (by omega) (Nat.le_refl _)) b o hbp _ HL3.out
    obtain ⟨c00, c01, c02, c03, c04⟩ : MT.CellsAt W b o y0 := (hLW.get 0 (by simp)).1
    obtain ⟨c10, c11, c12, c13, c14⟩ : MT.CellsAt W b (o + 5) y1 := (hLW.get 1 (by simp)).1
    obtain ⟨k0, k1, k2, k3, k4⟩ := cells5 nd
    exact ⟨k0, k1, k2, k3, k4, c00, c01, c02, c03, c04, c10, c11, c12, c13, c14⟩
  have hBW : base ≤ w3.heap.size := by omega
  obtain ⟨k0, k1, k2, k3, k4, c00, c01, c02, c03, c04, c10, c11, c12, c13, c14⟩ := HK.out w3 (PK.refl _ _ _)
  go_region_held3 (fun W => W.cell? ⟨w.heap.size, 0, none⟩ = some (.int .i64 26) ∧ W.cell? ⟨w.heap.size, 1, none⟩ = some (.string t) ∧ W.cell? ⟨w.heap.size, 2, none⟩ = some (.int .i64 n) ∧ W.cell? ⟨w.heap.size, 3, none⟩ = some (.int .i64 a) ∧ W.cell? ⟨w.heap.size, 4, none⟩ = some (.slice (some ⟨b, o, none⟩) (ks.length + 2) c) ∧ W.cell? ⟨b, o, none⟩ = some (.int .i64 y0.kind) ∧ W.cell? ⟨b, o + 1, none⟩ = some (.string y0.text) ∧ W.cell? ⟨b, o + 2, none⟩ = some (.int .i64 y0.num) ∧ W.cell? ⟨b, o + 3, none⟩ = some (.int .i64 y0.at_) ∧ W.cell? ⟨b, o + 4, none⟩ = some (.slice y0.ptr y0.kids.length y0.cap) ∧ W.cell? ⟨b, o + 5, none⟩ = some (.int .i64 y1.kind) ∧ W.cell? ⟨b, o + 5 + 1, none⟩ = some (.string y1.text) ∧ W.cell? ⟨b, o + 5 + 2, none⟩ = some (.int .i64 y1.num) ∧ W.cell? ⟨b, o + 5 + 3, none⟩ = some (.int .i64 y1.at_) ∧ W.cell? ⟨b, o + 5 + 4, none⟩ = some (.slice y1.ptr y1.kids.length y1.cap))
    (first | exact HK.out _ hk4 | exact HK.out _ (PK.of ((Below.refl _ _).drew.alloc (by simp) _) hBW) | exact HK.out _ (PK.drw _ _ _))
    (first | (go_at_call 137; refine (Hh0.out _ _ _ (Nat.le_trans (Nat.le_of_eq HJ3.out) hi) (HD3.out.1.below (Below.refl _ _).drew) hBW ⟨In.pk (HL3.out.get 0 (by simp)).2 (PK.drw _ _ _) hpb, In.pk (HL3.out.get 1 (by simp)).2 (PK.drw _ _ _) hpb⟩).mono ?_; rintro e w4 ⟨⟨u4, rfl⟩, v4, hP4, hi4, hq4⟩; have hk4 : PK pb base w3 w4 := (PK.drw _ _ _).trans hq4; clear hq4))
  have HJ4 : Hid ((g0 (putS [⟨#[32]⟩] (putS [⟨#[115, 119, 105, 116, 99, 104]⟩] (gl s)))).ind = s.ind) := hi4.trans HJ3.out
  have hK4 : PK pb base w w4 := HD3.out.2.1.trans hk4
  have nd4 := hk4.high (w.heap.size) _ _ _ (by omega) HD3.out.2.2 (by decide)
  have HI4 : Hid _ := In.pk HI3.out hk4 hpb
  have HL4 : Hid (MT.InL pb w4 b o (y0 :: y1 :: ks)) := MT.InL.below (hk4.below (by omega) (Nat.le_refl _)) b o hbp _ HL3.out
  have hz4 := lt_of nd4
  have HD4 : Hid (_ ∧ _ ∧ _) := ⟨hP4, hK4, nd4⟩
  clear k0 k1 k2 k3 k4 c00 c01 c02 c03 c04 c10 c11 c12 c13 c14 hBW HK
  obtain ⟨k0, k1, k2, k3, k4⟩ := cells5 nd4
  have hbz4 : b < w4.heap.size := by omega
  clear hP4 hK4 nd4 hk4 HD3 HI3 HJ3 HL3
  go_wp2_with fail
  refine (putc [⟨#[32, 123, 10]⟩] HD4.out.1 hpb (Nat.le_trans hB HD4.out.2.1.size) (al_cons (by decide) al_nil) (by simp) (by first | rfl | simp)).mono ?_
  rintro e w5 ⟨⟨u5, rfl⟩, v5, hP5, hk5⟩
  have HJ5 : Hid ((putS [⟨#[32, 123, 10]⟩] (g0 (putS [⟨#[32]⟩] (putS [⟨#[115, 119, 105, 116, 99, 104]⟩] (gl s))))).ind = s.ind) := (putS_ind _ _).trans HJ4.out
  have hK5 : PK pb base w w5 := HD4.out.2.1.trans hk5
  have nd5 := hk5.high (w.heap.size) _ _ _ (by omega) HD4.out.2.2 (by decide)
  have HI5 : Hid _ := In.pk HI4.out hk5 hpb
  have HL5 : Hid (MT.InL pb w5 b o (y0 :: y1 :: ks)) := MT.InL.below (hk5.below (by omega) (Nat.le_refl _)) b o hbp _ HL4.out
  have hz5 := lt_of nd5
  have HD5 : Hid (_ ∧ _ ∧ _) := ⟨hP5, hK5, nd5⟩
  clear k0 k1 k2 k3 k4
  obtain ⟨k0, k1, k2, k3, k4⟩ := cells5 nd5
  have hbz5 : b < w5.heap.size := by omega
  clear hP5 hK5 nd5 hk5 HD4 HI4 HJ4 HL4
  go_wp2_with fail
  clear k0 k1 k2 k3 k4
  obtain ⟨s1, hs1⟩ : ∃ s1, s1 = (putS [⟨#[32, 123, 10]⟩] (g0 (putS [⟨#[32]⟩] (putS [⟨#[115, 119, 105, 116, 99, 104]⟩] (gl s))))) := ⟨_, rfl⟩
  rw [← hs1] at HD5 HJ5
  have HS1 : Hid (s1 = (putS [⟨#[32, 123, 10]⟩] (g0 (putS [⟨#[32]⟩] (putS [⟨#[115, 119, 105, 116, 99, 104]⟩] (gl s)))))) := hs1
  clear hs1
  have HC : Hid (Kd pb (some ⟨b, o + 10, none⟩) ks w5) := .inr ⟨b, o + 10, rfl, hbp, by have := HL5.out.drop 2; simpa using this⟩
  go_loopg [48] ks.length (fun gk i wr => ∃ (j : Nat) (v : Value), gk + j = ks.length ∧ i = .int .i64 j ∧ Pr2 pb base (casesG gs j s1) v wr ∧ (casesG gs j s1).ind = s.ind ∧ PK pb base w wr ∧ PK pb base w5 wr)
  case atStart => exact ⟨0, v5, rfl, rfl, HD5.out.1, HJ5.out, HD5.out.2.1, PK.refl _ _ _⟩
  case round =>
    obtain ⟨j, v, hj, rfl, hP', hi', hK, hKW⟩ := hrel
    have hz := hK.size
    by_cases hlt : j < ks.length
    · have HG : Hid (gk + j = ks.length) := hj
      have HP : Hid (Pr2 pb base (casesG gs j s1) v wr ∧ (casesG gs j s1).ind = s.ind) := ⟨hP', hi'⟩
      have HJ : Hid (Wf 74 pb base L ks[j] (gs j)) := Hh.out j hlt
      have HKK : Hid (PK pb base w wr ∧ PK pb base w5 wr) := ⟨hK, hKW⟩
      rcases HC.out.pk hpb hKW with hk | ⟨b', o', hp, hbp', hLL'⟩
      · rw [hk] at hlt; exact absurd hlt (by simp)
      · obtain ⟨rfl, rfl⟩ : b = b' ∧ o + 10 = o' := by simpa using hp
        have i1 : (j : Int) < ks.length := by omega
        have hbz' : b < wr.heap.size := by omega
        obtain ⟨⟨c0, c1, c2, c3, c4⟩, hin⟩ := hLL'.get j hlt
        have HIN : Hid (ks[j].In pb wr) := hin
        obtain ⟨y, hy⟩ : ∃ y, y = ks[j] := ⟨_, rfl⟩
        rw [← hy] at c0 c1 c2 c3 c4 HJ HIN
        have HB1 : Hid (PK pb base wr (wr.alloc (nodeO y))) := PK.of (below1 _ _) (by omega)
        have HP1 : Hid (Pr2 pb base (casesG gs j s1) v (wr.alloc (nodeO y))) := HP.out.1.below (below1 _ _)
        have HI1 : Hid (y.In pb (wr.alloc (nodeO y))) := In.pk HIN.out HB1.out hpb
        clear hj hP' hi' hLL' hin hy hK hKW hp
        go_wp2_with (first
          | (go_at_call 74; refine (HJ.out _ _ _ (by rw [HP.out.2]; exact hi) HP1.out (by simp only [World.size_alloc]; omega) HI1.out).mono ?_; rintro e w9 ⟨⟨u9, rfl⟩, v9, hP9, hi9, hK9⟩))
        go_roundg (ks.length - (j + 1))
        case measure => have := HG.out; omega
        case rel => exact ⟨j + 1, v9, by omega, by go_num, hP9, hi9.trans HP.out.2, (HKK.out.1.trans HB1.out).trans hK9, (HKK.out.2.trans HB1.out).trans hK9⟩
    · have hjl : j = ks.length := by omega
      subst hjl
      obtain ⟨s5, hs5⟩ : ∃ s5, s5 = casesG gs ks.length s1 := ⟨_, rfl⟩
      rw [← hs5] at hP' hi'
      have HP6 : Hid (Pr2 pb base s5 v wr ∧ PK pb base w wr ∧ s5.ind = s.ind) := ⟨hP', hK, hi'⟩
      have HS5 : Hid (s5 = casesG gs ks.length s1) := hs5
      clear hP' hi' hK hs5 hKW
      go_wp2_with (first
        | (go_at_call 95; refine (indent_any (s := s5) hpb (by rw [HP6.out.2.2]; exact Nat.le_trans hi hL1) HP6.out.1 (by omega)).mono ?_; rintro e w7 ⟨⟨u7, rfl⟩, v7, hP7, hK7⟩; have hz7 := (HP6.out.2.1.trans hK7).size)
        | (go_at_call 96; refine (putc [⟨#[125]⟩] hP7 hpb (by omega) (al_cons (by decide) al_nil) (by simp) rfl).mono ?_; rintro e w8 ⟨⟨u8, rfl⟩, v8, hP8, hK8⟩))
      go_end0
      refine ⟨⟨_, rfl⟩, v8, ?_, ?_, (HP6.out.2.1.trans hK7).trans hK8⟩
      · rw [HP6.out.2.2, HS5.out, HS1.out] at hP8; exact hP8
      · rw [putS_ind, tabs_ind]; have h9 := HP6.out.2.2; rw [HS5.out, HS1.out] at h9; exact h9
set_option maxRecDepth 100000 in
set_option maxHeartbeats 4000000 in
theorem choices_26e  {t : ByteArray} {n : Int} {a : Int} {p : Option Addr} {y0 y1 : MT}  {gl g0 : PS → PS} (hL1 : L ≤ 1000) (hl : Wf 135 pb base L (.node 26 t n a p 2 [y0, y1]) gl) (h0 : Wc 137 #[.pointer (some ⟨pb, 0, none⟩), nodeV y0, nodeV y1] pb base L (fun w => MT.In pb w y0 ∧ MT.In pb w y1) g0) (hpb : pb < base) : Wf 106 pb base L (.node 26 t n a p 2 [y0, y1]) (fun s => putS [⟨#[125]⟩] (tabs s.ind (putS [⟨#[32, 123, 10]⟩] (g0 (putS [⟨#[32]⟩] (putS [⟨#[115, 119, 105, 116, 99, 104]⟩] (gl s))))))) := by
  intro s v w hi hP hB hin
  have hkk := hin.kidsL
  simp only [MT.kids_node, MT.ptr_node] at hkk
  rcases hkk with hkk | ⟨b, o, rfl, hbp, hL⟩
  · cases hkk
  have Hhl : Hid _ := hl
  clear hl
  have Hh0 : Hid _ := h0
  clear h0
  have hb0 : Below w.heap.size w (w.alloc (.cells #[.int .i64 26, .string t, .int .i64 n, .int .i64 a, .slice (some ⟨b, o, none⟩) 2 2] 24)) := below1 _ _
  have hP0 := hP.below hb0
  have hK0 : PK pb base w _ := PK.of (pb := pb) hb0 hB
  have HI0 : Hid _ := In.pk hin hK0 hpb
  have nd0 := heap_alloc_new w (.cells #[.int .i64 26, .string t, .int .i64 n, .int .i64 a, .slice (some ⟨b, o, none⟩) 2 2] 24)
  have HL0 : Hid (MT.InL pb _ b o [y0, y1]) := MT.InL.below (hb0.mono (by omega)) b o hbp _ hL
  have hz0 := lt_of nd0
  have HD0 : Hid (_ ∧ _ ∧ _) := ⟨hP0, hK0, nd0⟩
  have hbz : b < w.heap.size := by omega
  clear hP hin hb0 hP0 hK0 nd0 hL
  rw [nv2]
  go_enter Tryz.func106, Tryz.ntmps106
  go_wp2_with fail
  refine (Hhl.out _ _ _ (Nat.le_trans (Nat.le_of_eq (Eq.refl s.ind)) hi) HD0.out.1 (Nat.le_trans hB HD0.out.2.1.size) HI0.out).mono ?_
  rintro e w1 ⟨⟨u1, rfl⟩, v1, hP1, hi1, hk1⟩
  have HJ1 : Hid ((gl s).ind = s.ind) := hi1.trans (Eq.refl s.ind)
  clear hi1
  have hK1 : PK pb base w w1 := HD0.out.2.1.trans hk1
  have nd1 := hk1.high (w.heap.size) _ _ _ (by omega) HD0.out.2.2 (by decide)
  have HI1 : Hid _ := In.pk HI0.out hk1 hpb
  have HL1 : Hid (MT.InL pb w1 b o [y0, y1]) := MT.InL.below (hk1.below (by omega) (Nat.le_refl _)) b o hbp _ HL0.out
  have hz1 := lt_of nd1
  have HD1 : Hid (_ ∧ _ ∧ _) := ⟨hP1, hK1, nd1⟩
  obtain ⟨k0, k1, k2, k3, k4⟩ := cells5 nd1
  have hbz1 : b < w1.heap.size := by omega
  clear hP1 hK1 nd1 hk1 HD0 HI0 HL0
  go_wp2_with fail
  refine (putc [⟨#[115, 119, 105, 116, 99, 104]⟩] HD1.out.1 hpb (Nat.le_trans hB HD1.out.2.1.size) (al_cons (by decide) al_nil) (by simp) (by first | rfl | simp)).mono ?_
  rintro e w2 ⟨⟨u2, rfl⟩, v2, hP2, hk2⟩
  have HJ2 : Hid ((putS [⟨#[115, 119, 105, 116, 99, 104]⟩] (gl s)).ind = s.ind) := (putS_ind _ _).trans HJ1.out
  have hK2 : PK pb base w w2 := HD1.out.2.1.trans hk2
  have nd2 := hk2.high (w.heap.size) _ _ _ (by omega) HD1.out.2.2 (by decide)
  have HI2 : Hid _ := In.pk HI1.out hk2 hpb
  have HL2 : Hid (MT.InL pb w2 b o [y0, y1]) := MT.InL.below (hk2.below (by omega) (Nat.le_refl _)) b o hbp _ HL1.out
  have hz2 := lt_of nd2
  have HD2 : Hid (_ ∧ _ ∧ _) := ⟨hP2, hK2, nd2⟩
  clear k0 k1 k2 k3 k4
  obtain ⟨k0, k1, k2, k3, k4⟩ := cells5 nd2
  have hbz2 : b < w2.heap.size := by omega
  clear hP2 hK2 nd2 hk2 HD1 HI1 HJ1 HL1
  go_wp2_with fail
  refine (putc [⟨#[32]⟩] HD2.out.1 hpb (Nat.le_trans hB HD2.out.2.1.size) (al_cons (by decide) al_nil) (by simp) (by first | rfl | simp)).mono ?_
  rintro e w3 ⟨⟨u3, rfl⟩, v3, hP3, hk3⟩
  have HJ3 : Hid ((putS [⟨#[32]⟩] (putS [⟨#[115, 119, 105, 116, 99, 104]⟩] (gl s))).ind = s.ind) := (putS_ind _ _).trans HJ2.out
  have hK3 : PK pb base w w3 := HD2.out.2.1.trans hk3
  have nd3 := hk3.high (w.heap.size) _ _ _ (by omega) HD2.out.2.2 (by decide)
  have HI3 : Hid _ := In.pk HI2.out hk3 hpb
  have HL3 : Hid (MT.InL pb w3 b o [y0, y1]) := MT.InL.below (hk3.below (by omega) (Nat.le_refl _)) b o hbp _ HL2.out
  have hz3 := lt_of nd3
  have HD3 : Hid (_ ∧ _ ∧ _) := ⟨hP3, hK3, nd3⟩
  clear k0 k1 k2 k3 k4
  obtain ⟨k0, k1, k2, k3, k4⟩ := cells5 nd3
  have hbz3 : b < w3.heap.size := by omega
  clear hP3 hK3 nd3 hk3 HD2 HI2 HJ2 HL2
  go_wp2_with fail
  clear k0 k1 k2 k3 k4
  have HK : Hid (∀ W, PK pb base w3 W → (W.cell? ⟨w.heap.size, 0, none⟩ = some (.int .i64 26) ∧ W.cell? ⟨w.heap.size, 1, none⟩ = some (.string t) ∧ W.cell? ⟨w.heap.size, 2, none⟩ = some (.int .i64 n) ∧ W.cell? ⟨w.heap.size, 3, none⟩ = some (.int .i64 a) ∧ W.cell? ⟨w.heap.size, 4, none⟩ = some (.slice (some ⟨b, o, none⟩) 2 2) ∧ W.cell? ⟨b, o, none⟩ = some (.int .i64 y0.kind) ∧ W.cell? ⟨b, o + 1, none⟩ = some (.string y0.text) ∧ W.cell? ⟨b, o + 2, none⟩ = some (.int .i64 y0.num) ∧ W.cell? ⟨b, o + 3, none⟩ = some (.int .i64 y0.at_) ∧ W.cell? ⟨b, o + 4, none⟩ = some (.slice y0.ptr y0.kids.length y0.cap) ∧ W.cell? ⟨b, o + 5, none⟩ = some (.int .i64 y1.kind) ∧ W.cell? ⟨b, o + 5 + 1, none⟩ = some (.string y1.text) ∧ W.cell? ⟨b, o + 5 + 2, none⟩ = some (.int .i64 y1.num) ∧ W.cell? ⟨b, o + 5 + 3, none⟩ = some (.int .i64 y1.at_) ∧ W.cell? ⟨b, o + 5 + 4, none⟩ = some (.slice y1.ptr y1.kids.length y1.cap))) := fun W hW => by
    have nd := hW.high (w.heap.size) _ _ _ (by omega) HD3.out.2.2 (by decide)
    have hLW := MT.InL.below (hW.below (by omega) (Nat.le_refl _)) b o hbp _ HL3.out
    obtain ⟨c00, c01, c02, c03, c04⟩ : MT.CellsAt W b o y0 := (hLW.get 0 (by simp)).1
    obtain ⟨c10, c11, c12, c13, c14⟩ : MT.CellsAt W b (o + 5) y1 := (hLW.get 1 (by simp)).1
    obtain ⟨k0, k1, k2, k3, k4⟩ := cells5 nd
    exact ⟨k0, k1, k2, k3, k4, c00, c01, c02, c03, c04, c10, c11, c12, c13, c14⟩
  have hBW : base ≤ w3.heap.size := by omega
  obtain ⟨k0, k1, k2, k3, k4, c00, c01, c02, c03, c04, c10, c11, c12, c13, c14⟩ := HK.out w3 (PK.refl _ _ _)
  go_region_held3 (fun W => W.cell? ⟨w.heap.size, 0, none⟩ = some (.int .i64 26) ∧ W.cell? ⟨w.heap.size, 1, none⟩ = some (.string t) ∧ W.cell? ⟨w.heap.size, 2, none⟩ = some (.int .i64 n) ∧ W.cell? ⟨w.heap.size, 3, none⟩ = some (.int .i64 a) ∧ W.cell? ⟨w.heap.size, 4, none⟩ = some (.slice (some ⟨b, o, none⟩) 2 2) ∧ W.cell? ⟨b, o, none⟩ = some (.int .i64 y0.kind) ∧ W.cell? ⟨b, o + 1, none⟩ = some (.string y0.text) ∧ W.cell? ⟨b, o + 2, none⟩ = some (.int .i64 y0.num) ∧ W.cell? ⟨b, o + 3, none⟩ = some (.int .i64 y0.at_) ∧ W.cell? ⟨b, o + 4, none⟩ = some (.slice y0.ptr y0.kids.length y0.cap) ∧ W.cell? ⟨b, o + 5, none⟩ = some (.int .i64 y1.kind) ∧ W.cell? ⟨b, o + 5 + 1, none⟩ = some (.string y1.text) ∧ W.cell? ⟨b, o + 5 + 2, none⟩ = some (.int .i64 y1.num) ∧ W.cell? ⟨b, o + 5 + 3, none⟩ = some (.int .i64 y1.at_) ∧ W.cell? ⟨b, o + 5 + 4, none⟩ = some (.slice y1.ptr y1.kids.length y1.cap))
    (first | exact HK.out _ hk4 | exact HK.out _ (PK.of ((Below.refl _ _).drew.alloc (by simp) _) hBW) | exact HK.out _ (PK.drw _ _ _))
    (first | (go_at_call 137; refine (Hh0.out _ _ _ (Nat.le_trans (Nat.le_of_eq HJ3.out) hi) (HD3.out.1.below (Below.refl _ _).drew) hBW ⟨In.pk (HL3.out.get 0 (by simp)).2 (PK.drw _ _ _) hpb, In.pk (HL3.out.get 1 (by simp)).2 (PK.drw _ _ _) hpb⟩).mono ?_; rintro e w4 ⟨⟨u4, rfl⟩, v4, hP4, hi4, hq4⟩; have hk4 : PK pb base w3 w4 := (PK.drw _ _ _).trans hq4; clear hq4))
  have HJ4 : Hid ((g0 (putS [⟨#[32]⟩] (putS [⟨#[115, 119, 105, 116, 99, 104]⟩] (gl s)))).ind = s.ind) := hi4.trans HJ3.out
  have hK4 : PK pb base w w4 := HD3.out.2.1.trans hk4
  have nd4 := hk4.high (w.heap.size) _ _ _ (by omega) HD3.out.2.2 (by decide)
  have HI4 : Hid _ := In.pk HI3.out hk4 hpb
  have HL4 : Hid (MT.InL pb w4 b o [y0, y1]) := MT.InL.below (hk4.below (by omega) (Nat.le_refl _)) b o hbp _ HL3.out
  have hz4 := lt_of nd4
  have HD4 : Hid (_ ∧ _ ∧ _) := ⟨hP4, hK4, nd4⟩
  clear k0 k1 k2 k3 k4 c00 c01 c02 c03 c04 c10 c11 c12 c13 c14 hBW HK
  obtain ⟨k0, k1, k2, k3, k4⟩ := cells5 nd4
  have hbz4 : b < w4.heap.size := by omega
  clear hP4 hK4 nd4 hk4 HD3 HI3 HJ3 HL3
  go_wp2_with fail
  refine (putc [⟨#[32, 123, 10]⟩] HD4.out.1 hpb (Nat.le_trans hB HD4.out.2.1.size) (al_cons (by decide) al_nil) (by simp) (by first | rfl | simp)).mono ?_
  rintro e w5 ⟨⟨u5, rfl⟩, v5, hP5, hk5⟩
  have HJ5 : Hid ((putS [⟨#[32, 123, 10]⟩] (g0 (putS [⟨#[32]⟩] (putS [⟨#[115, 119, 105, 116, 99, 104]⟩] (gl s))))).ind = s.ind) := (putS_ind _ _).trans HJ4.out
  have hK5 : PK pb base w w5 := HD4.out.2.1.trans hk5
  have nd5 := hk5.high (w.heap.size) _ _ _ (by omega) HD4.out.2.2 (by decide)
  have HI5 : Hid _ := In.pk HI4.out hk5 hpb
  have HL5 : Hid (MT.InL pb w5 b o [y0, y1]) := MT.InL.below (hk5.below (by omega) (Nat.le_refl _)) b o hbp _ HL4.out
  have hz5 := lt_of nd5
  have HD5 : Hid (_ ∧ _ ∧ _) := ⟨hP5, hK5, nd5⟩
  clear k0 k1 k2 k3 k4
  obtain ⟨k0, k1, k2, k3, k4⟩ := cells5 nd5
  have hbz5 : b < w5.heap.size := by omega
  clear hP5 hK5 nd5 hk5 HD4 HI4 HJ4 HL4
  go_wp2_with fail
  clear k0 k1 k2 k3 k4
  obtain ⟨s1, hs1⟩ : ∃ s1, s1 = (putS [⟨#[32, 123, 10]⟩] (g0 (putS [⟨#[32]⟩] (putS [⟨#[115, 119, 105, 116, 99, 104]⟩] (gl s))))) := ⟨_, rfl⟩
  rw [← hs1] at HD5 HJ5
  have HS1 : Hid (s1 = (putS [⟨#[32, 123, 10]⟩] (g0 (putS [⟨#[32]⟩] (putS [⟨#[115, 119, 105, 116, 99, 104]⟩] (gl s)))))) := hs1
  clear hs1
  have HC : Hid (Kd pb (some ⟨b, o + 10, none⟩) ([] : List MT) w5) := .inl rfl
  go_loopg [48] ([] : List MT).length (fun gk i wr => ∃ (j : Nat) (v : Value), gk + j = ([] : List MT).length ∧ i = .int .i64 j ∧ Pr2 pb base (casesG (fun _ s => s) j s1) v wr ∧ (casesG (fun _ s => s) j s1).ind = s.ind ∧ PK pb base w wr ∧ PK pb base w5 wr)
  case atStart => exact ⟨0, v5, rfl, rfl, HD5.out.1, HJ5.out, HD5.out.2.1, PK.refl _ _ _⟩
  case round =>
    obtain ⟨j, v, hj, rfl, hP', hi', hK, hKW⟩ := hrel
    have hz := hK.size
    · have hjl : j = 0 := by simp at hj; omega
      subst hjl
      obtain ⟨s5, hs5⟩ : ∃ s5, s5 = casesG (fun _ s => s) 0 s1 := ⟨_, rfl⟩
      rw [← hs5] at hP' hi'
      have HP6 : Hid (Pr2 pb base s5 v wr ∧ PK pb base w wr ∧ s5.ind = s.ind) := ⟨hP', hK, hi'⟩
      have HS5 : Hid (s5 = casesG (fun _ s => s) 0 s1) := hs5
      clear hP' hi' hK hs5 hKW
      go_wp2_with (first
        | (go_at_call 95; refine (indent_any (s := s5) hpb (by rw [HP6.out.2.2]; exact Nat.le_trans hi hL1) HP6.out.1 (by omega)).mono ?_; rintro e w7 ⟨⟨u7, rfl⟩, v7, hP7, hK7⟩; have hz7 := (HP6.out.2.1.trans hK7).size)
        | (go_at_call 96; refine (putc [⟨#[125]⟩] hP7 hpb (by omega) (al_cons (by decide) al_nil) (by simp) rfl).mono ?_; rintro e w8 ⟨⟨u8, rfl⟩, v8, hP8, hK8⟩))
      go_end0
      refine ⟨⟨_, rfl⟩, v8, ?_, ?_, (HP6.out.2.1.trans hK7).trans hK8⟩
      · rw [HP6.out.2.2, HS5.out, HS1.out] at hP8; exact hP8
      · rw [putS_ind, tabs_ind]; have h9 := HP6.out.2.2; rw [HS5.out, HS1.out] at h9; exact h9
end Go.Proofs.YthbnegggohegkaaGreatDoor
