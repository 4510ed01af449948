/-
  Closures of what stands behind its first part.
-/
import Derived.Test.YthbnegggohegkaaGreatDoorWgJ
namespace Go.Proofs.YthbnegggohegkaaGreatDoor
open Go.RowKit
variable {pb base L : Nat} {s : PS} {v : Value} {w w' : World}
set_option maxRecDepth 100000 in
set_option maxHeartbeats 4000000 in
theorem c164 {bp bn : Nat} {t : ByteArray} {n a : Int} {p : Option Addr} {c : Nat} {y0 y1 : MT} {g : PS → PS} (hpb : pb < base) (hnp : bp ≠ pb ∧ bn ≠ pb) (h : Wf 71 pb base L y1 g) : Wc 164 #[.pointer (some ⟨bp, 0, none⟩), .pointer (some ⟨bn, 0, none⟩)] pb base L (Bx pb bp bn (.node 46 t n a p c [y0, y1])) g := by
  have HNP : Hid _ := hnp
  clear hnp
  intro s v w hi hP hB hc
  have H : Hid _ := h
  clear h
  have hkk := hc.inn.kidsL
  simp only [MT.kids_node, MT.ptr_node] at hkk
  rcases hkk with hkk | ⟨b, o, rfl, hbp, hL⟩
  · cases hkk
  have HX : Hid (Bx pb bp bn _ w) := hc
  have HP : Hid _ := hP
  have HLL : Hid (MT.InL pb w b o [y0, y1]) := hL
  have kp : w.cell? ⟨bp, 0, none⟩ = some (.pointer (some ⟨pb, 0, none⟩)) := by simp [World.cell?, hc.p]
  have k0 : w.cell? ⟨bn, 0, none⟩ = some (.int .i64 46) := by simp [World.cell?, hc.n, MT.kind_node, MT.text_node, MT.num_node, MT.at_node, MT.ptr_node, MT.cap_node, MT.kids_node]
  have k1 : w.cell? ⟨bn, 1, none⟩ = some (.string t) := by simp [World.cell?, hc.n, MT.kind_node, MT.text_node, MT.num_node, MT.at_node, MT.ptr_node, MT.cap_node, MT.kids_node]
  have k2 : w.cell? ⟨bn, 2, none⟩ = some (.int .i64 n) := by simp [World.cell?, hc.n, MT.kind_node, MT.text_node, MT.num_node, MT.at_node, MT.ptr_node, MT.cap_node, MT.kids_node]
  have k3 : w.cell? ⟨bn, 3, none⟩ = some (.int .i64 a) := by simp [World.cell?, hc.n, MT.kind_node, MT.text_node, MT.num_node, MT.at_node, MT.ptr_node, MT.cap_node, MT.kids_node]
  have k4 : w.cell? ⟨bn, 4, none⟩ = some (.slice (some ⟨b, o, none⟩) 2 c) := by simp [World.cell?, hc.n, MT.kind_node, MT.text_node, MT.num_node, MT.at_node, MT.ptr_node, MT.cap_node, MT.kids_node]
  obtain ⟨c10, c11, c12, c13, c14⟩ : MT.CellsAt w b (o + 5) y1 := (hL.get 1 (by simp)).1
  clear hc hP hL
  have HK : Hid (∀ (W : World), (∀ b o, b < w.heap.size → W.cell? ⟨b, o, none⟩ = w.cell? ⟨b, o, none⟩) → (W.cell? ⟨bp, 0, none⟩ = some (.pointer (some ⟨pb, 0, none⟩)) ∧ W.cell? ⟨bn, 0, none⟩ = some (.int .i64 46) ∧ W.cell? ⟨bn, 1, none⟩ = some (.string t) ∧ W.cell? ⟨bn, 2, none⟩ = some (.int .i64 n) ∧ W.cell? ⟨bn, 3, none⟩ = some (.int .i64 a) ∧ W.cell? ⟨bn, 4, none⟩ = some (.slice (some ⟨b, o, none⟩) 2 c) ∧ W.cell? ⟨b, o + 5, none⟩ = some (.int .i64 y1.kind) ∧ W.cell? ⟨b, o + 5 + 1, none⟩ = some (.string y1.text) ∧ W.cell? ⟨b, o + 5 + 2, none⟩ = some (.int .i64 y1.num) ∧ W.cell? ⟨b, o + 5 + 3, none⟩ = some (.int .i64 y1.at_) ∧ W.cell? ⟨b, o + 5 + 4, none⟩ = some (.slice y1.ptr y1.kids.length y1.cap))) := fun W hW => ⟨(hW _ _ (World.block_lt_of_cell? _ _ kp)).trans kp, (hW _ _ (World.block_lt_of_cell? _ _ k0)).trans k0, (hW _ _ (World.block_lt_of_cell? _ _ k0)).trans k1, (hW _ _ (World.block_lt_of_cell? _ _ k0)).trans k2, (hW _ _ (World.block_lt_of_cell? _ _ k0)).trans k3, (hW _ _ (World.block_lt_of_cell? _ _ k0)).trans k4, (hW _ _ (World.block_lt_of_cell? _ _ c10)).trans c10, (hW _ _ (World.block_lt_of_cell? _ _ c10)).trans c11, (hW _ _ (World.block_lt_of_cell? _ _ c10)).trans c12, (hW _ _ (World.block_lt_of_cell? _ _ c10)).trans c13, (hW _ _ (World.block_lt_of_cell? _ _ c10)).trans c14⟩
  have HBX : Hid (∀ (e : Unit) (w5 : World), PK pb base w w5 → (w5.cell? ⟨bp, 0, none⟩ = some (.pointer (some ⟨pb, 0, none⟩)) ∧ w5.cell? ⟨bn, 0, none⟩ = some (.int .i64 46) ∧ w5.cell? ⟨bn, 1, none⟩ = some (.string t) ∧ w5.cell? ⟨bn, 2, none⟩ = some (.int .i64 n) ∧ w5.cell? ⟨bn, 3, none⟩ = some (.int .i64 a) ∧ w5.cell? ⟨bn, 4, none⟩ = some (.slice (some ⟨b, o, none⟩) 2 c) ∧ w5.cell? ⟨b, o + 5, none⟩ = some (.int .i64 y1.kind) ∧ w5.cell? ⟨b, o + 5 + 1, none⟩ = some (.string y1.text) ∧ w5.cell? ⟨b, o + 5 + 2, none⟩ = some (.int .i64 y1.num) ∧ w5.cell? ⟨b, o + 5 + 3, none⟩ = some (.int .i64 y1.at_) ∧ w5.cell? ⟨b, o + 5 + 4, none⟩ = some (.slice y1.ptr y1.kids.length y1.cap))) := fun _ w5 hk => by
    have x1 := HX.out.pk hpb HNP.out.1 HNP.out.2 hk
    have hLW := MT.InL.below (hk.below (by omega) (Nat.le_refl _)) b o hbp _ HLL.out
    obtain ⟨d10, d11, d12, d13, d14⟩ : MT.CellsAt w5 b (o + 5) y1 := (hLW.get 1 (by simp)).1
    exact ⟨by simp [World.cell?, x1.p], by simp [World.cell?, x1.n, MT.kind_node, MT.text_node, MT.num_node, MT.at_node, MT.ptr_node, MT.cap_node, MT.kids_node], by simp [World.cell?, x1.n, MT.kind_node, MT.text_node, MT.num_node, MT.at_node, MT.ptr_node, MT.cap_node, MT.kids_node], by simp [World.cell?, x1.n, MT.kind_node, MT.text_node, MT.num_node, MT.at_node, MT.ptr_node, MT.cap_node, MT.kids_node], by simp [World.cell?, x1.n, MT.kind_node, MT.text_node, MT.num_node, MT.at_node, MT.ptr_node, MT.cap_node, MT.kids_node], by simp [World.cell?, x1.n, MT.kind_node, MT.text_node, MT.num_node, MT.at_node, MT.ptr_node, MT.cap_node, MT.kids_node], d10, d11, d12, d13, d14⟩
  go_enter Tryz.func164, Tryz.ntmps164
  go_wp2_with fail
  go_region_held3 (fun W => W.cell? ⟨bp, 0, none⟩ = some (.pointer (some ⟨pb, 0, none⟩)) ∧ W.cell? ⟨bn, 0, none⟩ = some (.int .i64 46) ∧ W.cell? ⟨bn, 1, none⟩ = some (.string t) ∧ W.cell? ⟨bn, 2, none⟩ = some (.int .i64 n) ∧ W.cell? ⟨bn, 3, none⟩ = some (.int .i64 a) ∧ W.cell? ⟨bn, 4, none⟩ = some (.slice (some ⟨b, o, none⟩) 2 c) ∧ W.cell? ⟨b, o + 5, none⟩ = some (.int .i64 y1.kind) ∧ W.cell? ⟨b, o + 5 + 1, none⟩ = some (.string y1.text) ∧ W.cell? ⟨b, o + 5 + 2, none⟩ = some (.int .i64 y1.num) ∧ W.cell? ⟨b, o + 5 + 3, none⟩ = some (.int .i64 y1.at_) ∧ W.cell? ⟨b, o + 5 + 4, none⟩ = some (.slice y1.ptr y1.kids.length y1.cap))
    (first | exact HBX.out () _ hK5 | exact HK.out _ (fun _ _ _ => rfl))
    (first | (go_at_call 71; refine (H.out s v _ hi (HP.out.below (Below.refl _ _).drew) hB (In.pk (HLL.out.get 1 (by simp)).2 (PK.drw _ base _) hpb)).mono ?_; rintro e w5 ⟨⟨u5, rfl⟩, v5, hP5, hi5, hq5⟩; have hK5 : PK pb base w w5 := (PK.drw _ _ _).trans hq5))
  go_wp2_with fail
  go_end0
  exact ⟨⟨_, rfl⟩, v5, hP5, hi5, hK5⟩
set_option maxRecDepth 100000 in
set_option maxHeartbeats 4000000 in
theorem c165 {bp bn : Nat} {t : ByteArray} {n a : Int} {p : Option Addr} {c : Nat} {y0 y1 y2 y3 : MT} {g : PS → PS} (hpb : pb < base) (hnp : bp ≠ pb ∧ bn ≠ pb) (h : Wc 166 #[.pointer (some ⟨pb, 0, none⟩), nodeV y1, nodeV y2, nodeV y3] pb base L (fun w => (MT.In pb w y1 ∧ MT.In pb w y2 ∧ MT.In pb w y3)) g) : Wc 165 #[.pointer (some ⟨bp, 0, none⟩), .pointer (some ⟨bn, 0, none⟩)] pb base L (Bx pb bp bn (.node 47 t n a p c [y0, y1, y2, y3])) g := by
  have HNP : Hid _ := hnp
  clear hnp
  intro s v w hi hP hB hc
  have H : Hid _ := h
  clear h
  have hkk := hc.inn.kidsL
  simp only [MT.kids_node, MT.ptr_node] at hkk
  rcases hkk with hkk | ⟨b, o, rfl, hbp, hL⟩
  · cases hkk
  have HX : Hid (Bx pb bp bn _ w) := hc
  have HP : Hid _ := hP
  have HLL : Hid (MT.InL pb w b o [y0, y1, y2, y3]) := hL
  have kp : w.cell? ⟨bp, 0, none⟩ = some (.pointer (some ⟨pb, 0, none⟩)) := by simp [World.cell?, hc.p]
  have k0 : w.cell? ⟨bn, 0, none⟩ = some (.int .i64 47) := by simp [World.cell?, hc.n, MT.kind_node, MT.text_node, MT.num_node, MT.at_node, MT.ptr_node, MT.cap_node, MT.kids_node]
  have k1 : w.cell? ⟨bn, 1, none⟩ = some (.string t) := by simp [World.cell?, hc.n, MT.kind_node, MT.text_node, MT.num_node, MT.at_node, MT.ptr_node, MT.cap_node, MT.kids_node]
  have k2 : w.cell? ⟨bn, 2, none⟩ = some (.int .i64 n) := by simp [World.cell?, hc.n, MT.kind_node, MT.text_node, MT.num_node, MT.at_node, MT.ptr_node, MT.cap_node, MT.kids_node]
  have k3 : w.cell? ⟨bn, 3, none⟩ = some (.int .i64 a) := by simp [World.cell?, hc.n, MT.kind_node, MT.text_node, MT.num_node, MT.at_node, MT.ptr_node, MT.cap_node, MT.kids_node]
  have k4 : w.cell? ⟨bn, 4, none⟩ = some (.slice (some ⟨b, o, none⟩) 4 c) := by simp [World.cell?, hc.n, MT.kind_node, MT.text_node, MT.num_node, MT.at_node, MT.ptr_node, MT.cap_node, MT.kids_node]
  obtain ⟨c10, c11, c12, c13, c14⟩ : MT.CellsAt w b (o + 5) y1 := (hL.get 1 (by simp)).1
  obtain ⟨c20, c21, c22, c23, c24⟩ : MT.CellsAt w b (o + 10) y2 := (hL.get 2 (by simp)).1
  obtain ⟨c30, c31, c32, c33, c34⟩ : MT.CellsAt w b (o + 15) y3 := (hL.get 3 (by simp)).1
  clear hc hP hL
  have HK : Hid (∀ (W : World), (∀ b o, b < w.heap.size → W.cell? ⟨b, o, none⟩ = w.cell? ⟨b, o, none⟩) → (W.cell? ⟨bp, 0, none⟩ = some (.pointer (some ⟨pb, 0, none⟩)) ∧ W.cell? ⟨bn, 0, none⟩ = some (.int .i64 47) ∧ W.cell? ⟨bn, 1, none⟩ = some (.string t) ∧ W.cell? ⟨bn, 2, none⟩ = some (.int .i64 n) ∧ W.cell? ⟨bn, 3, none⟩ = some (.int .i64 a) ∧ W.cell? ⟨bn, 4, none⟩ = some (.slice (some ⟨b, o, none⟩) 4 c) ∧ W.cell? ⟨b, o + 5, none⟩ = some (.int .i64 y1.kind) ∧ W.cell? ⟨b, o + 5 + 1, none⟩ = some (.string y1.text) ∧ W.cell? ⟨b, o + 5 + 2, none⟩ = some (.int .i64 y1.num) ∧ W.cell? ⟨b, o + 5 + 3, none⟩ = some (.int .i64 y1.at_) ∧ W.cell? ⟨b, o + 5 + 4, none⟩ = some (.slice y1.ptr y1.kids.length y1.cap) ∧ W.cell? ⟨b, o + 10, none⟩ = some (.int .i64 y2.kind) ∧ W.cell? ⟨b, o + 10 + 1, none⟩ = some (.string y2.text) ∧ W.cell? ⟨b, o + 10 + 2, none⟩ = some (.int .i64 y2.num) ∧ W.cell? ⟨b, o + 10 + 3, none⟩ = some (.int .i64 y2.at_) ∧ W.cell? ⟨b, o + 10 + 4, none⟩ = some (.slice y2.ptr y2.kids.length y2.cap) ∧ W.cell? ⟨b, o + 15, none⟩ = some (.int .i64 y3.kind) ∧ W.cell? ⟨b, o + 15 + 1, none⟩ = some (.string y3.text) ∧ W.cell? ⟨b, o + 15 + 2, none⟩ = some (.int .i64 y3.num) ∧ W.cell? ⟨b, o + 15 + 3, none⟩ = some (.int .i64 y3.at_) ∧ W.cell? ⟨b, o + 15 + 4, none⟩ = some (.slice y3.ptr y3.kids.length y3.cap))) := fun W hW => ⟨(hW _ _ (World.block_lt_of_cell? _ _ kp)).trans kp, (hW _ _ (World.block_lt_of_cell? _ _ k0)).trans k0, (hW _ _ (World.block_lt_of_cell? _ _ k0)).trans k1, (hW _ _ (World.block_lt_of_cell? _ _ k0)).trans k2, (hW _ _ (World.block_lt_of_cell? _ _ k0)).trans k3, (hW _ _ (World.block_lt_of_cell? _ _ k0)).trans k4, (hW _ _ (World.block_lt_of_cell? _ _ c10)).trans c10, (hW _ _ (World.block_lt_of_cell? _ _ c10)).trans c11, (hW _ _ (World.block_lt_of_cell? _ _ c10)).trans c12, (hW _ _ (World.block_lt_of_cell? _ _ c10)).trans c13, (hW _ _ (World.block_lt_of_cell? _ _ c10)).trans c14, (hW _ _ (World.block_lt_of_cell? _ _ c20)).trans c20, (hW _ _ (World.block_lt_of_cell? _ _ c20)).trans c21, (hW _ _ (World.block_lt_of_cell? _ _ c20)).trans c22, (hW _ _ (World.block_lt_of_cell? _ _ c20)).trans c23, (hW _ _ (World.block_lt_of_cell? _ _ c20)).trans c24, (hW _ _ (World.block_lt_of_cell? _ _ c30)).trans c30, (hW _ _ (World.block_lt_of_cell? _ _ c30)).trans c31, (hW _ _ (World.block_lt_of_cell? _ _ c30)).trans c32, (hW _ _ (World.block_lt_of_cell? _ _ c30)).trans c33, (hW _ _ (World.block_lt_of_cell? _ _ c30)).trans c34⟩
  have HBX : Hid (∀ (e : Unit) (w5 : World), PK pb base w w5 → (w5.cell? ⟨bp, 0, none⟩ = some (.pointer (some ⟨pb, 0, none⟩)) ∧ w5.cell? ⟨bn, 0, none⟩ = some (.int .i64 47) ∧ w5.cell? ⟨bn, 1, none⟩ = some (.string t) ∧ w5.cell? ⟨bn, 2, none⟩ = some (.int .i64 n) ∧ w5.cell? ⟨bn, 3, none⟩ = some (.int .i64 a) ∧ w5.cell? ⟨bn, 4, none⟩ = some (.slice (some ⟨b, o, none⟩) 4 c) ∧ w5.cell? ⟨b, o + 5, none⟩ = some (.int .i64 y1.kind) ∧ w5.cell? ⟨b, o + 5 + 1, none⟩ = some (.string y1.text) ∧ w5.cell? ⟨b, o + 5 + 2, none⟩ = some (.int .i64 y1.num) ∧ w5.cell? ⟨b, o + 5 + 3, none⟩ = some (.int .i64 y1.at_) ∧ w5.cell? ⟨b, o + 5 + 4, none⟩ = some (.slice y1.ptr y1.kids.length y1.cap) ∧ w5.cell? ⟨b, o + 10, none⟩ = some (.int .i64 y2.kind) ∧ w5.cell? ⟨b, o + 10 + 1, none⟩ = some (.string y2.text) ∧ w5.cell? ⟨b, o + 10 + 2, none⟩ = some (.int .i64 y2.num) ∧ w5.cell? ⟨b, o + 10 + 3, none⟩ = some (.int .i64 y2.at_) ∧ w5.cell? ⟨b, o + 10 + 4, none⟩ = some (.slice y2.ptr y2.kids.length y2.cap) ∧ w5.cell? ⟨b, o + 15, none⟩ = some (.int .i64 y3.kind) ∧ w5.cell? ⟨b, o + 15 + 1, none⟩ = some (.string y3.text) ∧ w5.cell? ⟨b, o + 15 + 2, none⟩ = some (.int .i64 y3.num) ∧ w5.cell? ⟨b, o + 15 + 3, none⟩ = some (.int .i64 y3.at_) ∧ w5.cell? ⟨b, o + 15 + 4, none⟩ = some (.slice y3.ptr y3.kids.length y3.cap))) := fun _ w5 hk => by
    have x1 := HX.out.pk hpb HNP.out.1 HNP.out.2 hk
    have hLW := MT.InL.below (hk.below (by omega) (Nat.le_refl _)) b o hbp _ HLL.out
    obtain ⟨d10, d11, d12, d13, d14⟩ : MT.CellsAt w5 b (o + 5) y1 := (hLW.get 1 (by simp)).1
    obtain ⟨d20, d21, d22, d23, d24⟩ : MT.CellsAt w5 b (o + 10) y2 := (hLW.get 2 (by simp)).1
    obtain ⟨d30, d31, d32, d33, d34⟩ : MT.CellsAt w5 b (o + 15) y3 := (hLW.get 3 (by simp)).1
    exact ⟨by simp [World.cell?, x1.p], by simp [World.cell?, x1.n, MT.kind_node, MT.text_node, MT.num_node, MT.at_node, MT.ptr_node, MT.cap_node, MT.kids_node], by simp [World.cell?, x1.n, MT.kind_node, MT.text_node, MT.num_node, MT.at_node, MT.ptr_node, MT.cap_node, MT.kids_node], by simp [World.cell?, x1.n, MT.kind_node, MT.text_node, MT.num_node, MT.at_node, MT.ptr_node, MT.cap_node, MT.kids_node], by simp [World.cell?, x1.n, MT.kind_node, MT.text_node, MT.num_node, MT.at_node, MT.ptr_node, MT.cap_node, MT.kids_node], by simp [World.cell?, x1.n, MT.kind_node, MT.text_node, MT.num_node, MT.at_node, MT.ptr_node, MT.cap_node, MT.kids_node], d10, d11, d12, d13, d14, d20, d21, d22, d23, d24, d30, d31, d32, d33, d34⟩
  go_enter Tryz.func165, Tryz.ntmps165
  go_wp2_with fail
  go_region_held3 (fun W => W.cell? ⟨bp, 0, none⟩ = some (.pointer (some ⟨pb, 0, none⟩)) ∧ W.cell? ⟨bn, 0, none⟩ = some (.int .i64 47) ∧ W.cell? ⟨bn, 1, none⟩ = some (.string t) ∧ W.cell? ⟨bn, 2, none⟩ = some (.int .i64 n) ∧ W.cell? ⟨bn, 3, none⟩ = some (.int .i64 a) ∧ W.cell? ⟨bn, 4, none⟩ = some (.slice (some ⟨b, o, none⟩) 4 c) ∧ W.cell? ⟨b, o + 5, none⟩ = some (.int .i64 y1.kind) ∧ W.cell? ⟨b, o + 5 + 1, none⟩ = some (.string y1.text) ∧ W.cell? ⟨b, o + 5 + 2, none⟩ = some (.int .i64 y1.num) ∧ W.cell? ⟨b, o + 5 + 3, none⟩ = some (.int .i64 y1.at_) ∧ W.cell? ⟨b, o + 5 + 4, none⟩ = some (.slice y1.ptr y1.kids.length y1.cap) ∧ W.cell? ⟨b, o + 10, none⟩ = some (.int .i64 y2.kind) ∧ W.cell? ⟨b, o + 10 + 1, none⟩ = some (.string y2.text) ∧ W.cell? ⟨b, o + 10 + 2, none⟩ = some (.int .i64 y2.num) ∧ W.cell? ⟨b, o + 10 + 3, none⟩ = some (.int .i64 y2.at_) ∧ W.cell? ⟨b, o + 10 + 4, none⟩ = some (.slice y2.ptr y2.kids.length y2.cap) ∧ W.cell? ⟨b, o + 15, none⟩ = some (.int .i64 y3.kind) ∧ W.cell? ⟨b, o + 15 + 1, none⟩ = some (.string y3.text) ∧ W.cell? ⟨b, o + 15 + 2, none⟩ = some (.int .i64 y3.num) ∧ W.cell? ⟨b, o + 15 + 3, none⟩ = some (.int .i64 y3.at_) ∧ W.cell? ⟨b, o + 15 + 4, none⟩ = some (.slice y3.ptr y3.kids.length y3.cap))
    (first | exact HBX.out () _ hK5 | exact HK.out _ (fun _ _ _ => rfl))
    (first | (go_at_call 166; refine (H.out s v _ hi (HP.out.below (Below.refl _ _).drew) hB ⟨In.pk (HLL.out.get 1 (by simp)).2 (PK.drw _ base _) hpb, In.pk (HLL.out.get 2 (by simp)).2 (PK.drw _ base _) hpb, In.pk (HLL.out.get 3 (by simp)).2 (PK.drw _ base _) hpb⟩).mono ?_; rintro e w5 ⟨⟨u5, rfl⟩, v5, hP5, hi5, hq5⟩; have hK5 : PK pb base w w5 := (PK.drw _ _ _).trans hq5))
  go_wp2_with fail
  go_end0
  exact ⟨⟨_, rfl⟩, v5, hP5, hi5, hK5⟩
end Go.Proofs.YthbnegggohegkaaGreatDoor
