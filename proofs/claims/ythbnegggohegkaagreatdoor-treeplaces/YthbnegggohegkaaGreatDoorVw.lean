/-
  A case.
-/
import Derived.Test.YthbnegggohegkaaGreatDoorWgJ
namespace Go.Proofs.YthbnegggohegkaaGreatDoor
open Go.RowKit
variable {pb base L : Nat} {s : PS} {v : Value} {w w' : World}
set_option maxRecDepth 100000 in
set_option maxHeartbeats 4000000 in
theorem c109 {bp bn : Nat} {t : ByteArray} {n a : Int} {p : Option Addr} {c : Nat} {y0 y1 : MT} {g : PS → PS} (hpb : pb < base) (hnp : bp ≠ pb ∧ bn ≠ pb) (h : Wf 110 pb base L y0 g) : Wc 109 #[.pointer (some ⟨bp, 0, none⟩), .pointer (some ⟨bn, 0, none⟩)] pb base L (Bx pb bp bn (.node 27 t n a p c [y0, y1])) g := by
  have HNP : Hid _ := hnp
  clear hnp
  intro s v w hi hP hB hc
  have H : Hid _ := h
  clear h
  have hkk := hc.inn.kidsL
  simp only [MT.kids_node, MT.ptr_node] at hkk
  rcases hkk with hkk | ⟨b, o, rfl, hbp, hL⟩
  · cases hkk
  have HX : Hid (Bx pb bp bn _ w) := hc
  have HP : Hid _ := hP
  have HLL : Hid (MT.InL pb w b o [y0, y1]) := hL
  have kp : w.cell? ⟨bp, 0, none⟩ = some (.pointer (some ⟨pb, 0, none⟩)) := by simp [World.cell?, hc.p]
  have k0 : w.cell? ⟨bn, 0, none⟩ = some (.int .i64 27) := by simp [World.cell?, hc.n, MT.kind_node, MT.text_node, MT.num_node, MT.at_node, MT.ptr_node, MT.cap_node, MT.kids_node]
  have k1 : w.cell? ⟨bn, 1, none⟩ = some (.string t) := by simp [World.cell?, hc.n, MT.kind_node, MT.text_node, MT.num_node, MT.at_node, MT.ptr_node, MT.cap_node, MT.kids_node]
  have k2 : w.cell? ⟨bn, 2, none⟩ = some (.int .i64 n) := by simp [World.cell?, hc.n, MT.kind_node, MT.text_node, MT.num_node, MT.at_node, MT.ptr_node, MT.cap_node, MT.kids_node]
  have k3 : w.cell? ⟨bn, 3, none⟩ = some (.int .i64 a) := by simp [World.cell?, hc.n, MT.kind_node, MT.text_node, MT.num_node, MT.at_node, MT.ptr_node, MT.cap_node, MT.kids_node]
  have k4 : w.cell? ⟨bn, 4, none⟩ = some (.slice (some ⟨b, o, none⟩) 2 c) := by simp [World.cell?, hc.n, MT.kind_node, MT.text_node, MT.num_node, MT.at_node, MT.ptr_node, MT.cap_node, MT.kids_node]
  obtain ⟨c00, c01, c02, c03, c04⟩ : MT.CellsAt w b o y0 := (hL.get 0 (by simp)).1
  clear hc hP hL
  have HK : Hid (∀ (W : World), (∀ b o, b < w.heap.size → W.cell? ⟨b, o, none⟩ = w.cell? ⟨b, o, none⟩) → (W.cell? ⟨bp, 0, none⟩ = some (.pointer (some ⟨pb, 0, none⟩)) ∧ W.cell? ⟨bn, 0, none⟩ = some (.int .i64 27) ∧ W.cell? ⟨bn, 1, none⟩ = some (.string t) ∧ W.cell? ⟨bn, 2, none⟩ = some (.int .i64 n) ∧ W.cell? ⟨bn, 3, none⟩ = some (.int .i64 a) ∧ W.cell? ⟨bn, 4, none⟩ = some (.slice (some ⟨b, o, none⟩) 2 c) ∧ W.cell? ⟨b, o, none⟩ = some (.int .i64 y0.kind) ∧ W.cell? ⟨b, o + 1, none⟩ = some (.string y0.text) ∧ W.cell? ⟨b, o + 2, none⟩ = some (.int .i64 y0.num) ∧ W.cell? ⟨b, o + 3, none⟩ = some (.int .i64 y0.at_) ∧ W.cell? ⟨b, o + 4, none⟩ = some (.slice y0.ptr y0.kids.length y0.cap))) := fun W hW => ⟨(hW _ _ (World.block_lt_of_cell? _ _ kp)).trans kp, (hW _ _ (World.block_lt_of_cell? _ _ k0)).trans k0, (hW _ _ (World.block_lt_of_cell? _ _ k0)).trans k1, (hW _ _ (World.block_lt_of_cell? _ _ k0)).trans k2, (hW _ _ (World.block_lt_of_cell? _ _ k0)).trans k3, (hW _ _ (World.block_lt_of_cell? _ _ k0)).trans k4, (hW _ _ (World.block_lt_of_cell? _ _ c00)).trans c00, (hW _ _ (World.block_lt_of_cell? _ _ c00)).trans c01, (hW _ _ (World.block_lt_of_cell? _ _ c00)).trans c02, (hW _ _ (World.block_lt_of_cell? _ _ c00)).trans c03, (hW _ _ (World.block_lt_of_cell? _ _ c00)).trans c04⟩
  have HBX : Hid (∀ (e : Unit) (w5 : World), PK pb base w w5 → (w5.cell? ⟨bp, 0, none⟩ = some (.pointer (some ⟨pb, 0, none⟩)) ∧ w5.cell? ⟨bn, 0, none⟩ = some (.int .i64 27) ∧ w5.cell? ⟨bn, 1, none⟩ = some (.string t) ∧ w5.cell? ⟨bn, 2, none⟩ = some (.int .i64 n) ∧ w5.cell? ⟨bn, 3, none⟩ = some (.int .i64 a) ∧ w5.cell? ⟨bn, 4, none⟩ = some (.slice (some ⟨b, o, none⟩) 2 c) ∧ w5.cell? ⟨b, o, none⟩ = some (.int .i64 y0.kind) ∧ w5.cell? ⟨b, o + 1, none⟩ = some (.string y0.text) ∧ w5.cell? ⟨b, o + 2, none⟩ = some (.int .i64 y0.num) ∧ w5.cell? ⟨b, o + 3, none⟩ = some (.int .i64 y0.at_) ∧ w5.cell? ⟨b, o + 4, none⟩ = some (.slice y0.ptr y0.kids.length y0.cap))) := fun _ w5 hk => by
    have x1 := HX.out.pk hpb HNP.out.1 HNP.out.2 hk
    have hLW := MT.InL.below (hk.below (by omega) (Nat.le_refl _)) b o hbp _ HLL.out
    obtain ⟨d00, d01, d02, d03, d04⟩ : MT.CellsAt w5 b o y0 := (hLW.get 0 (by simp)).1
    exact ⟨by simp [World.cell?, x1.p], by simp [World.cell?, x1.n, MT.kind_node, MT.text_node, MT.num_node, MT.at_node, MT.ptr_node, MT.cap_node, MT.kids_node], by simp [World.cell?, x1.n, MT.kind_node, MT.text_node, MT.num_node, MT.at_node, MT.ptr_node, MT.cap_node, MT.kids_node], by simp [World.cell?, x1.n, MT.kind_node, MT.text_node, MT.num_node, MT.at_node, MT.ptr_node, MT.cap_node, MT.kids_node], by simp [World.cell?, x1.n, MT.kind_node, MT.text_node, MT.num_node, MT.at_node, MT.ptr_node, MT.cap_node, MT.kids_node], by simp [World.cell?, x1.n, MT.kind_node, MT.text_node, MT.num_node, MT.at_node, MT.ptr_node, MT.cap_node, MT.kids_node], d00, d01, d02, d03, d04⟩
  go_enter Tryz.func109, Tryz.ntmps109
  go_wp2_with fail
  go_region_held3 (fun W => W.cell? ⟨bp, 0, none⟩ = some (.pointer (some ⟨pb, 0, none⟩)) ∧ W.cell? ⟨bn, 0, none⟩ = some (.int .i64 27) ∧ W.cell? ⟨bn, 1, none⟩ = some (.string t) ∧ W.cell? ⟨bn, 2, none⟩ = some (.int .i64 n) ∧ W.cell? ⟨bn, 3, none⟩ = some (.int .i64 a) ∧ W.cell? ⟨bn, 4, none⟩ = some (.slice (some ⟨b, o, none⟩) 2 c) ∧ W.cell? ⟨b, o, none⟩ = some (.int .i64 y0.kind) ∧ W.cell? ⟨b, o + 1, none⟩ = some (.string y0.text) ∧ W.cell? ⟨b, o + 2, none⟩ = some (.int .i64 y0.num) ∧ W.cell? ⟨b, o + 3, none⟩ = some (.int .i64 y0.at_) ∧ W.cell? ⟨b, o + 4, none⟩ = some (.slice y0.ptr y0.kids.length y0.cap))
    (first | exact HBX.out () _ hK5 | exact HK.out _ (fun _ _ _ => rfl))
    (first | (go_at_call 110; refine (H.out s v _ hi (HP.out.below (Below.refl _ _).drew) hB (In.pk (HLL.out.get 0 (by simp)).2 (PK.drw _ base _) hpb)).mono ?_; rintro e w5 ⟨⟨u5, rfl⟩, v5, hP5, hi5, hq5⟩; have hK5 : PK pb base w w5 := (PK.drw _ _ _).trans hq5))
  go_wp2_with fail
  go_end0
  exact ⟨⟨_, rfl⟩, v5, hP5, hi5, hK5⟩
set_option maxRecDepth 100000 in
set_option maxHeartbeats 4000000 in
theorem oneCase_any  {t : ByteArray} {n : Int} {a : Int} {p : Option Addr} {c : Nat} {y0 y1 : MT}  {g0 : PS → PS} {gs : Nat → PS → PS} (hLL : L < 1000) (hlen : y1.kids.length ≤ 1099511627776) (h0 : Wf 110 pb base L y0 g0) (h : ∀ (i : Nat) (hi : i < y1.kids.length), Wf 73 pb base (L + 1) y1.kids[i] (gs i)) (hpb : pb < base) : Wf 74 pb base L (.node 27 t n a p c [y0, y1]) (fun s => { (linesG gs y1.kids.length { (putS [⟨#[10]⟩] (g0 (tabs s.ind s))) with ind := s.ind + 1 }) with ind := s.ind }) := by
  intro s v w hi hP hB hin
  have hkk := hin.kidsL
  simp only [MT.kids_node, MT.ptr_node] at hkk
  rcases hkk with hkk | ⟨b, o, rfl, hbp, hL⟩
  · cases hkk
  have Hh0 : Hid _ := h0
  clear h0
  have Hh : Hid _ := h
  clear h
  have hb0 : Below w.heap.size w ((w.alloc (.cells #[.pointer (some ⟨pb, 0, none⟩)] 114)).alloc (.cells #[.int .i64 27, .string t, .int .i64 n, .int .i64 a, .slice (some ⟨b, o, none⟩) 2 c] 24)) := below2 _ _ _
  have hP0 := hP.below hb0
  have hK0 : PK pb base w _ := PK.of (pb := pb) hb0 hB
  have HI0 : Hid _ := In.pk hin hK0 hpb
  have pd0 := (hb0_ w (.cells #[.pointer (some ⟨pb, 0, none⟩)] 114) (.cells #[.int .i64 27, .string t, .int .i64 n, .int .i64 a, .slice (some ⟨b, o, none⟩) 2 c] 24))
  have nd0 := (nb0_ w (.cells #[.pointer (some ⟨pb, 0, none⟩)] 114) (.cells #[.int .i64 27, .string t, .int .i64 n, .int .i64 a, .slice (some ⟨b, o, none⟩) 2 c] 24))
  have HL0 : Hid (MT.InL pb _ b o [y0, y1]) := MT.InL.below (hb0.mono (by omega)) b o hbp _ hL
  have hz0 := lt_of nd0
  have HD0 : Hid (_ ∧ _ ∧ _ ∧ _) := ⟨hP0, hK0, nd0, pd0⟩
  have hbz : b < w.heap.size := by omega
  clear hP hin hb0 hP0 hK0 nd0 pd0 hL
  rw [nv2]
  go_enter Tryz.func74, Tryz.ntmps74
  go_wp2_with fail
  refine ((line_any hpb (by omega) (c109 (t := t) (n := n) (a := a) (p := some ⟨b, o, none⟩) (c := c) (y1 := y1) hpb ⟨by omega, by omega⟩ Hh0.out) (fun _ _ h1 h2 => h1.pk hpb (by omega) (by omega) h2) Tryz.call109) _ _ _ (Nat.le_trans (Nat.le_of_eq (Eq.refl s.ind)) hi) HD0.out.1 (Nat.le_trans hB HD0.out.2.1.size) ⟨HD0.out.2.2.2, HD0.out.2.2.1, HI0.out⟩).mono ?_
  rintro e w1 ⟨⟨u1, rfl⟩, v1, hP1, hi1, hk1⟩
  have HJ1 : Hid (((fun s => putS [⟨#[10]⟩] (g0 (tabs s.ind s))) s).ind = s.ind) := hi1.trans (Eq.refl s.ind)
  clear hi1
  have hK1 : PK pb base w w1 := HD0.out.2.1.trans hk1
  have nd1 := hk1.high (w.heap.size + 1) _ _ _ (by omega) HD0.out.2.2.1 (by decide)
  have pd1 := hk1.high w.heap.size _ _ _ (by omega) HD0.out.2.2.2 (by decide)
  have HI1 : Hid _ := In.pk HI0.out hk1 hpb
  have HL1 : Hid (MT.InL pb w1 b o [y0, y1]) := MT.InL.below (hk1.below (by omega) (Nat.le_refl _)) b o hbp _ HL0.out
  have hz1 := lt_of nd1
  have HD1 : Hid (_ ∧ _ ∧ _ ∧ _) := ⟨hP1, hK1, nd1, pd1⟩
  obtain ⟨k0, k1, k2, k3, k4⟩ := cells5 nd1
  have kp := cells1 pd1
  obtain ⟨c10, c11, c12, c13, c14⟩ : MT.CellsAt w1 b (o + 5) y1 := (HL1.out.get 1 (by simp)).1
  have hbz1 : b < w1.heap.size := by omega
  clear hP1 hK1 nd1 hk1 HD0 HI0 pd1 HL0
  obtain ⟨s1, hs1⟩ : ∃ s1, s1 = ((fun s => putS [⟨#[10]⟩] (g0 (tabs s.ind s))) s) := ⟨_, rfl⟩
  rw [← hs1] at HD1 HJ1
  have HS1 : Hid (s1 = putS [⟨#[10]⟩] (g0 (tabs s.ind s))) := hs1
  clear hs1
  have c1 := HD1.out.1.c1
  rw [HJ1.out] at c1
  have f1 := HD1.out.1.fz 1
  have e1 : ((s.ind + 1 : Nat) : Int) = (s.ind : Int) + 1 := by omega
  have hP3 := HD1.out.1.ind hpb (s.ind + 1)
  rw [e1] at hP3
  have hR3 : (w1.setCell ⟨pb, 1, none⟩ (.int .i64 ((s.ind : Int) + 1))).heap[w.heap.size]? = some (.cells #[.pointer (some ⟨pb, 0, none⟩)] 114 (0, 0)) := (Below.heap_setCell w1 ⟨pb, 1, none⟩ _ w.heap.size (by show w.heap.size ≠ pb; omega)).trans HD1.out.2.2.2
  have hK4 : PK pb base w (w1.setCell ⟨pb, 1, none⟩ (.int .i64 ((s.ind : Int) + 1))) := HD1.out.2.1.trans (PK.set pb base w1 1 _)
  have hk9 : PK pb base w1 (w1.setCell ⟨pb, 1, none⟩ (.int .i64 ((s.ind : Int) + 1))) := PK.set pb base w1 1 _
  have HC : Hid (Kd pb y1.ptr y1.kids (w1.setCell ⟨pb, 1, none⟩ (.int .i64 ((s.ind : Int) + 1)))) := (Kd.of (HL1.out.get 1 (by simp)).2).pk hpb hk9
  have HS : Hid (Pr2 pb base { s1 with ind := s.ind + 1 } v1 (w1.setCell ⟨pb, 1, none⟩ (.int .i64 ((s.ind : Int) + 1))) ∧ (w1.setCell ⟨pb, 1, none⟩ (.int .i64 ((s.ind : Int) + 1))).heap[w.heap.size]? = some (.cells #[.pointer (some ⟨pb, 0, none⟩)] 114 (0, 0)) ∧ PK pb base w (w1.setCell ⟨pb, 1, none⟩ (.int .i64 ((s.ind : Int) + 1)))) := ⟨hP3, hR3, hK4⟩
  clear hP3 hR3 hK4 e1 hk9
  have hnb : b ≠ pb := by omega
  have hnn : w.heap.size ≠ pb := by omega
  have hnn2 : w.heap.size + 1 ≠ pb := by omega
  go_wp2_with fail
  obtain ⟨W2, hW2⟩ : ∃ W, W = w1.setCell ⟨pb, 1, none⟩ (.int .i64 ((s.ind : Int) + 1)) := ⟨_, rfl⟩
  rw [← hW2] at HS HC ⊢
  obtain ⟨ys, hys⟩ : ∃ ys, ys = y1.kids := ⟨_, rfl⟩
  obtain ⟨yp, hyp⟩ : ∃ yp, yp = y1.ptr := ⟨_, rfl⟩
  rw [← hyp, ← hys] at HC ⊢
  rw [← hys] at Hh hlen
  have HYS : Hid (ys = y1.kids) := hys
  obtain ⟨s2, hs2⟩ : ∃ s2 : PS, s2 = { s1 with ind := s.ind + 1 } := ⟨_, rfl⟩
  rw [← hs2] at HS
  have HS2 : Hid (s2 = { s1 with ind := s.ind + 1 }) := hs2
  have hs3 : s2.ind = s.ind + 1 := by rw [hs2]
  clear hW2 hs2 c1 f1 hys hyp k0 k1 k2 k3 k4 kp c10 c11 c12 c13 c14
  go_loopg [22] ys.length (fun gk i wr => ∃ (j : Nat) (v : Value), gk + j = ys.length ∧ i = .int .i64 j ∧ Pr2 pb base (linesG gs j s2) v wr ∧ (linesG gs j s2).ind = s.ind + 1 ∧ wr.heap[w.heap.size]? = some (.cells #[.pointer (some ⟨pb, 0, none⟩)] 114 (0, 0)) ∧ PK pb base w wr ∧ PK pb base W2 wr)
  case atStart => exact ⟨0, v1, rfl, rfl, HS.out.1, hs3, HS.out.2.1, HS.out.2.2, PK.refl _ _ _⟩
  case round =>
    obtain ⟨j, v, hj, rfl, hP', hi', hR, hK, hKW⟩ := hrel
    have hz := hK.size
    by_cases hlt : j < ys.length
    · have HG : Hid (gk + j = ys.length) := hj
      have HP : Hid (Pr2 pb base (linesG gs j s2) v wr ∧ (linesG gs j s2).ind = s.ind + 1) := ⟨hP', hi'⟩
      have HJ : Hid (Wf 73 pb base (L + 1) ys[j] (gs j)) := Hh.out j hlt
      have HKK : Hid (PK pb base w wr ∧ PK pb base W2 wr) := ⟨hK, hKW⟩
      rcases HC.out.pk hpb hKW with hk | ⟨b', o', hp, hbp', hLL'⟩
      · rw [hk] at hlt; exact absurd hlt (by simp)
      · subst hp
        have i1 : (j : Int) < ys.length := by omega
        have hbz' : b' < wr.heap.size := by omega
        obtain ⟨⟨c0, c1, c2, c3, c4⟩, hin⟩ := hLL'.get j hlt
        have HIN : Hid (ys[j].In pb wr) := hin
        obtain ⟨y, hy⟩ : ∃ y, y = ys[j] := ⟨_, rfl⟩
        rw [← hy] at c0 c1 c2 c3 c4 HJ HIN
        have HB1 : Hid (PK pb base wr (wr.alloc (nodeO y))) := PK.of (below1 _ _) (by omega)
        have HP1 : Hid (Pr2 pb base (linesG gs j s2) v (wr.alloc (nodeO y))) := HP.out.1.below (below1 _ _)
        have hRz : w.heap.size < wr.heap.size := (Array.getElem?_eq_some_iff.1 hR).1
        have HD9 : Hid (Bx pb w.heap.size wr.heap.size y (wr.alloc (nodeO y))) := ⟨(Below.heap_alloc _ _ _ hRz).trans hR, heap_alloc_new wr _, In.pk HIN.out HB1.out hpb⟩
        have HLN : Hid (Wc 63 #[.pointer (some ⟨pb, 0, none⟩), .func (.func 111) #[] #[.pointer (some ⟨w.heap.size, 0, none⟩), .pointer (some ⟨wr.heap.size, 0, none⟩)]] pb base (L + 1) (Bx pb w.heap.size wr.heap.size y) (fun s => putS [⟨#[10]⟩] (gs j (tabs s.ind s)))) := line_any hpb (by omega) (c111 HJ.out) (fun _ _ h1 h2 => h1.pk hpb (by omega) (by omega) h2) Tryz.call111
        have HRR : Hid (wr.heap[w.heap.size]? = some (.cells #[.pointer (some ⟨pb, 0, none⟩)] 114 (0, 0))) := hR
        have kp : wr.cell? ⟨w.heap.size, 0, none⟩ = some (.pointer (some ⟨pb, 0, none⟩)) := by simp [World.cell?, hR]
        clear hj hP' hi' hLL' hin hy hR hK hKW
        go_wp2_with (first
          | (go_at_call 63; refine (HLN.out _ _ _ (by rw [HP.out.2]; omega) HP1.out (by simp only [World.size_alloc]; omega) HD9.out).mono ?_; rintro e w5 ⟨⟨u5, rfl⟩, v5, hP5, hi5, hK5⟩))
        go_roundg (ys.length - (j + 1))
        case measure => have := HG.out; omega
        case rel => exact ⟨j + 1, v5, by omega, by go_num, hP5, hi5.trans HP.out.2, (HB1.out.trans hK5).high _ _ _ _ (by omega) HRR.out (by decide), (HKK.out.1.trans HB1.out).trans hK5, (HKK.out.2.trans HB1.out).trans hK5⟩
    · have hjl : j = ys.length := by omega
      subst hjl
      obtain ⟨s5, hs5⟩ : ∃ s5, s5 = linesG gs ys.length s2 := ⟨_, rfl⟩
      rw [← hs5] at hP' hi'
      have d1 := hP'.c1
      rw [hi'] at d1
      have e5 : ((s.ind + 1 : Nat) : Int) = (s.ind : Int) + 1 := by omega
      rw [e5] at d1
      have g1 := hP'.fz 1
      have kp : wr.cell? ⟨w.heap.size, 0, none⟩ = some (.pointer (some ⟨pb, 0, none⟩)) := by simp [World.cell?, hR]
      have HP6 : Hid (Pr2 pb base { s5 with ind := s.ind } v (wr.setCell ⟨pb, 1, none⟩ (.int .i64 s.ind)) ∧ PK pb base w (wr.setCell ⟨pb, 1, none⟩ (.int .i64 s.ind))) := ⟨hP'.ind hpb s.ind, hK.trans (PK.set pb base wr 1 _)⟩
      have HS5 : Hid (s5 = linesG gs ys.length s2) := hs5
      clear hP' hi' hR hK hs5 e5 hKW
      go_wp2_with fail
      go_end0
      refine ⟨⟨_, rfl⟩, v, ?_, trivial, HP6.out.2⟩
      have h9 := HP6.out.1
      rw [HS5.out, HS2.out, HS1.out, HYS.out] at h9
      exact h9
end Go.Proofs.YthbnegggohegkaaGreatDoor
