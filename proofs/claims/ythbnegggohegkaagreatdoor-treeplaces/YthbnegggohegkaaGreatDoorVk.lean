/-
  Unary.
-/
import Derived.Test.YthbnegggohegkaaGreatDoorWgJ
namespace Go.Proofs.YthbnegggohegkaaGreatDoor
open Go.RowKit
variable {pb base L : Nat} {s : PS} {v : Value} {w w' : World}
set_option maxRecDepth 100000 in
set_option maxHeartbeats 4000000 in
theorem plain_50a  {t : ByteArray} {n : Int} {a : Int} {p : Option Addr} {c : Nat} {y0 : MT}  {g0 : PS → PS} (ht : t.size ≤ 4000000000) (h0 : Wf 132 pb base L y0 g0) (hl : levK y0 < 6) (hpb : pb < base) : Wf 132 pb base L (.node 50 t n a p c [y0]) (fun s => (partG true y0.kind g0 (putS [t] s))) := by
  intro s v w hi hP hB hin
  have hkk := hin.kidsL
  simp only [MT.kids_node, MT.ptr_node] at hkk
  rcases hkk with hkk | ⟨b, o, rfl, hbp, hL⟩
  · cases hkk
  have hb0 : Below w.heap.size w ((w.alloc (.cells #[.pointer (some ⟨pb, 0, none⟩)] 114)).alloc (.cells #[.int .i64 50, .string t, .int .i64 n, .int .i64 a, .slice (some ⟨b, o, none⟩) 1 c] 24)) := below2 _ _ _
  have hP0 := hP.below hb0
  have hK0 : PK pb base w _ := PK.of (pb := pb) hb0 hB
  have HI0 : Hid _ := In.pk hin hK0 hpb
  have pd0 := (hb0_ w (.cells #[.pointer (some ⟨pb, 0, none⟩)] 114) (.cells #[.int .i64 50, .string t, .int .i64 n, .int .i64 a, .slice (some ⟨b, o, none⟩) 1 c] 24))
  have nd0 := (nb0_ w (.cells #[.pointer (some ⟨pb, 0, none⟩)] 114) (.cells #[.int .i64 50, .string t, .int .i64 n, .int .i64 a, .slice (some ⟨b, o, none⟩) 1 c] 24))
  have HL0 : Hid (MT.InL pb _ b o [y0]) := MT.InL.below (hb0.mono (by omega)) b o hbp _ hL
  have hz0 := lt_of nd0
  have HD0 : Hid (_ ∧ _ ∧ _ ∧ _) := ⟨hP0, hK0, nd0, pd0⟩
  have hbz : b < w.heap.size := by omega
  clear hP hin hb0 hP0 hK0 nd0 pd0 hL
  rw [nv1]
  go_enter Tryz.func132, Tryz.ntmps132
  go_wp2_with fail
  have HLX : Hid _ := level_all y0
  have HPX : Hid _ := part_all true hpb h0
  clear h0
  refine (putc [t] HD0.out.1 hpb (Nat.le_trans hB HD0.out.2.1.size) (al_cons ht al_nil) (by simp) (by first | rfl | simp)).mono ?_
  rintro e w1 ⟨⟨u1, rfl⟩, v1, hP1, hk1⟩
  have HJ1 : Hid ((putS [t] s).ind = s.ind) := (putS_ind _ _).trans (Eq.refl s.ind)
  have hK1 : PK pb base w w1 := HD0.out.2.1.trans hk1
  have nd1 := hk1.high (w.heap.size + 1) _ _ _ (by omega) HD0.out.2.2.1 (by decide)
  have pd1 := hk1.high w.heap.size _ _ _ (by omega) HD0.out.2.2.2 (by decide)
  have HI1 : Hid _ := In.pk HI0.out hk1 hpb
  have HL1 : Hid (MT.InL pb w1 b o [y0]) := MT.InL.below (hk1.below (by omega) (Nat.le_refl _)) b o hbp _ HL0.out
  have hz1 := lt_of nd1
  have HD1 : Hid (_ ∧ _ ∧ _ ∧ _) := ⟨hP1, hK1, nd1, pd1⟩
  obtain ⟨k0, k1, k2, k3, k4⟩ := cells5 nd1
  have kp := cells1 pd1
  have hbz1 : b < w1.heap.size := by omega
  clear hP1 hK1 nd1 hk1 HD0 HI0 pd1 HL0
  go_wp2_with fail
  clear k0 k1 k2 k3 k4 kp
  have HK : Hid (∀ W, PK pb base w1 W → (W.cell? ⟨w.heap.size + 1, 0, none⟩ = some (.int .i64 50) ∧ W.cell? ⟨w.heap.size + 1, 1, none⟩ = some (.string t) ∧ W.cell? ⟨w.heap.size + 1, 2, none⟩ = some (.int .i64 n) ∧ W.cell? ⟨w.heap.size + 1, 3, none⟩ = some (.int .i64 a) ∧ W.cell? ⟨w.heap.size + 1, 4, none⟩ = some (.slice (some ⟨b, o, none⟩) 1 c) ∧ W.cell? ⟨w.heap.size, 0, none⟩ = some (.pointer (some ⟨pb, 0, none⟩)) ∧ W.cell? ⟨b, o, none⟩ = some (.int .i64 y0.kind) ∧ W.cell? ⟨b, o + 1, none⟩ = some (.string y0.text) ∧ W.cell? ⟨b, o + 2, none⟩ = some (.int .i64 y0.num) ∧ W.cell? ⟨b, o + 3, none⟩ = some (.int .i64 y0.at_) ∧ W.cell? ⟨b, o + 4, none⟩ = some (.slice y0.ptr y0.kids.length y0.cap))) := fun W hW => by
    have nd := hW.high (w.heap.size + 1) _ _ _ (by omega) HD1.out.2.2.1 (by decide)
    have pd := hW.high w.heap.size _ _ _ (by omega) HD1.out.2.2.2 (by decide)
    have hLW := MT.InL.below (hW.below (by omega) (Nat.le_refl _)) b o hbp _ HL1.out
    obtain ⟨c00, c01, c02, c03, c04⟩ : MT.CellsAt W b o y0 := (hLW.get 0 (by simp)).1
    obtain ⟨k0, k1, k2, k3, k4⟩ := cells5 nd
    exact ⟨k0, k1, k2, k3, k4, cells1 pd, c00, c01, c02, c03, c04⟩
  have hBW : base ≤ w1.heap.size := by omega
  obtain ⟨k0, k1, k2, k3, k4, kp, c00, c01, c02, c03, c04⟩ := HK.out w1 (PK.refl _ _ _)
  refine wp_region_noPanic ?_
  refine wp_region_held (S := fun W => W.cell? ⟨w.heap.size + 1, 0, none⟩ = some (.int .i64 50) ∧ W.cell? ⟨w.heap.size + 1, 1, none⟩ = some (.string t) ∧ W.cell? ⟨w.heap.size + 1, 2, none⟩ = some (.int .i64 n) ∧ W.cell? ⟨w.heap.size + 1, 3, none⟩ = some (.int .i64 a) ∧ W.cell? ⟨w.heap.size + 1, 4, none⟩ = some (.slice (some ⟨b, o, none⟩) 1 c) ∧ W.cell? ⟨w.heap.size, 0, none⟩ = some (.pointer (some ⟨pb, 0, none⟩)) ∧ W.cell? ⟨b, o, none⟩ = some (.int .i64 y0.kind) ∧ W.cell? ⟨b, o + 1, none⟩ = some (.string y0.text) ∧ W.cell? ⟨b, o + 2, none⟩ = some (.int .i64 y0.num) ∧ W.cell? ⟨b, o + 3, none⟩ = some (.int .i64 y0.at_) ∧ W.cell? ⟨b, o + 4, none⟩ = some (.slice y0.ptr y0.kids.length y0.cap)) (by kernel_rfl) ?_
  obtain ⟨W4, hW4⟩ : ∃ W4, W4 = (w1).drew := ⟨_, rfl⟩
  have e4 : ({ w1 with drawn := (w1).drawn + 1 } : World) = W4 := hW4.symm
  rw [e4]
  have hB4 : Below w1.heap.size w1 W4 := by rw [hW4]; exact (Below.refl _ _).drew
  have hS := HK.out _ (PK.of hB4 hBW)
  clear e4 hW4 k0 k1 k2 k3 k4 kp c00 c01 c02 c03 c04
  refine wpAnyH_take (i := 0) (v := .pointer (some ⟨pb, 0, none⟩)) rfl (by kernel_rfl) (by kernel_rfl) (by kernel_rfl) (fun _ _ _ h => h) (Or.inl ⟨by rfl, ?r⟩) hS ?_
  case r => intro W hW; obtain ⟨k0, k1, k2, k3, k4, kp, c00, c01, c02, c03, c04⟩ := hW; simp [go_sem, execOp, Act.eval, kp]
  simp only [List.getElem_toArray, List.getElem_cons_zero, Act.put, List.setIfInBounds_toArray, List.set_cons_succ, List.set_cons_zero]
  refine wpAnyH_take (i := 1) (v := .pointer (some ⟨w.heap.size + 1, 4, none⟩)) rfl (by kernel_rfl) (by kernel_rfl) (by kernel_rfl) (fun _ _ _ h => h) (Or.inl ⟨by rfl, ?r⟩) hS ?_
  case r => intro W hW; obtain ⟨k0, k1, k2, k3, k4, kp, c00, c01, c02, c03, c04⟩ := hW; simp [go_sem, execOp, Act.eval]
  simp only [List.getElem_toArray, List.getElem_cons_zero, List.getElem_cons_succ, Act.put, List.setIfInBounds_toArray, List.set_cons_succ, List.set_cons_zero]
  refine wpAnyH_take (i := 2) (v := .slice (some ⟨b, o, none⟩) 1 c) rfl (by kernel_rfl) (by kernel_rfl) (by kernel_rfl) (fun _ _ _ h => h) (Or.inl ⟨by rfl, ?r⟩) hS ?_
  case r => intro W hW; obtain ⟨k0, k1, k2, k3, k4, kp, c00, c01, c02, c03, c04⟩ := hW; simp [go_sem, execOp, Act.eval, k4]
  simp only [List.getElem_toArray, List.getElem_cons_zero, List.getElem_cons_succ, Act.put, List.setIfInBounds_toArray, List.set_cons_succ, List.set_cons_zero]
  refine wpAnyH_take (i := 3) (v := .pointer (some ⟨b, o, none⟩)) rfl (by kernel_rfl) (by kernel_rfl) (by kernel_rfl) (fun _ _ _ h => h) (Or.inl ⟨by rfl, ?r⟩) hS ?_
  case r => intro W hW; obtain ⟨k0, k1, k2, k3, k4, kp, c00, c01, c02, c03, c04⟩ := hW; simp [go_sem, execOp, Act.eval]
  simp only [List.getElem_toArray, List.getElem_cons_zero, List.getElem_cons_succ, Act.put, List.setIfInBounds_toArray, List.set_cons_succ, List.set_cons_zero]
  refine wpAnyH_take (i := 4) (v := .agg #[.int .i64 y0.kind, .string y0.text, .int .i64 y0.num, .int .i64 y0.at_, .slice y0.ptr y0.kids.length y0.cap]) rfl (by kernel_rfl) (by kernel_rfl) (by kernel_rfl) (fun _ _ _ h => h) (Or.inl ⟨by rfl, ?r⟩) hS ?_
  case r => intro W hW; obtain ⟨k0, k1, k2, k3, k4, kp, c00, c01, c02, c03, c04⟩ := hW; simp [go_sem, execOp, Act.eval, c00, c01, c02, c03, c04]
  simp only [List.getElem_toArray, List.getElem_cons_zero, List.getElem_cons_succ, Act.put, List.setIfInBounds_toArray, List.set_cons_succ, List.set_cons_zero]
  refine wpAnyH_take (i := 5) (v := .pointer (some ⟨w.heap.size + 1, 4, none⟩)) rfl (by kernel_rfl) (by kernel_rfl) (by kernel_rfl) (fun _ _ _ h => h) (Or.inl ⟨by rfl, ?r⟩) hS ?_
  case r => intro W hW; obtain ⟨k0, k1, k2, k3, k4, kp, c00, c01, c02, c03, c04⟩ := hW; simp [go_sem, execOp, Act.eval]
  simp only [List.getElem_toArray, List.getElem_cons_zero, List.getElem_cons_succ, Act.put, List.setIfInBounds_toArray, List.set_cons_succ, List.set_cons_zero]
  refine wpAnyH_take (i := 6) (v := .slice (some ⟨b, o, none⟩) 1 c) rfl (by kernel_rfl) (by kernel_rfl) (by kernel_rfl) (fun _ _ _ h => h) (Or.inl ⟨by rfl, ?r⟩) hS ?_
  case r => intro W hW; obtain ⟨k0, k1, k2, k3, k4, kp, c00, c01, c02, c03, c04⟩ := hW; simp [go_sem, execOp, Act.eval, k4]
  simp only [List.getElem_toArray, List.getElem_cons_zero, List.getElem_cons_succ, Act.put, List.setIfInBounds_toArray, List.set_cons_succ, List.set_cons_zero]
  refine wpAnyH_take (i := 7) (v := .pointer (some ⟨b, o, none⟩)) rfl (by kernel_rfl) (by kernel_rfl) (by kernel_rfl) (fun _ _ _ h => h) (Or.inl ⟨by rfl, ?r⟩) hS ?_
  case r => intro W hW; obtain ⟨k0, k1, k2, k3, k4, kp, c00, c01, c02, c03, c04⟩ := hW; simp [go_sem, execOp, Act.eval]
  simp only [List.getElem_toArray, List.getElem_cons_zero, List.getElem_cons_succ, Act.put, List.setIfInBounds_toArray, List.set_cons_succ, List.set_cons_zero]
  refine wpAnyH_take (i := 8) (v := .agg #[.int .i64 y0.kind, .string y0.text, .int .i64 y0.num, .int .i64 y0.at_, .slice y0.ptr y0.kids.length y0.cap]) rfl (by kernel_rfl) (by kernel_rfl) (by kernel_rfl) (fun _ _ _ h => h) (Or.inl ⟨by rfl, ?r⟩) hS ?_
  case r => intro W hW; obtain ⟨k0, k1, k2, k3, k4, kp, c00, c01, c02, c03, c04⟩ := hW; simp [go_sem, execOp, Act.eval, c00, c01, c02, c03, c04]
  simp only [List.getElem_toArray, List.getElem_cons_zero, List.getElem_cons_succ, Act.put, List.setIfInBounds_toArray, List.set_cons_succ, List.set_cons_zero]
  refine wpAnyH_all (rs := [9]) (by kernel_rfl) (by simp) (fun i2 hi2 => ?_)
  obtain rfl : i2 = 9 := by simpa using hi2
  clear hi2
  refine wpOp_step rfl (fun K hK => ite_yes rfl ?_)
  simp only [List.getElem_toArray, List.getElem_cons_zero, List.getElem_cons_succ]
  go_simp
  refine (HLX.out _).mono ?_
  rintro r' W5 ⟨rfl, bq⟩
  have hB5 : Below w1.heap.size w1 W5 := hB4.trans (bq.mono hB4.size)
  go_simp
  refine hK _ _ ⟨HK.out _ (PK.of hB5 hBW), ?_⟩
  clear hK K hS bq hB4
  have hS := HK.out _ (PK.of hB5 hBW)
  try simp only [Act.put, List.setIfInBounds_toArray, List.set_cons_succ, List.set_cons_zero]
  refine wpAnyH_take (i := 10) (v := .bool true) rfl (by kernel_rfl) (by kernel_rfl) (by kernel_rfl) (fun _ _ _ h => h) (Or.inl ⟨by rfl, ?r⟩) hS ?_
  case r => intro W hW; obtain ⟨k0, k1, k2, k3, k4, kp, c00, c01, c02, c03, c04⟩ := hW; simp [go_sem, execOp, Act.eval, hl]
  simp only [List.getElem_toArray, List.getElem_cons_zero, List.getElem_cons_succ, Act.put, List.setIfInBounds_toArray, List.set_cons_succ, List.set_cons_zero]
  refine wpAnyH_take (i := 11) (v := .bool true) rfl (by kernel_rfl) (by kernel_rfl) (by kernel_rfl) (fun _ _ _ h => h) (Or.inl ⟨by rfl, ?r⟩) hS ?_
  case r => intro W hW; obtain ⟨k0, k1, k2, k3, k4, kp, c00, c01, c02, c03, c04⟩ := hW; simp [go_sem, execOp, Act.eval]
  simp only [List.getElem_toArray, List.getElem_cons_zero, List.getElem_cons_succ, Act.put, List.setIfInBounds_toArray, List.set_cons_succ, List.set_cons_zero]
  refine wpAnyH_take (i := 12) (v := undef) rfl (by kernel_rfl) (by kernel_rfl) (by kernel_rfl) (fun _ _ _ h => h) (Or.inr ⟨rfl, rfl⟩) hS ?_
  simp only [List.getElem_toArray, List.getElem_cons_zero, List.getElem_cons_succ, Act.put, List.setIfInBounds_toArray, List.set_cons_succ, List.set_cons_zero]
  refine wpAnyH_take (i := 13) (v := undef) rfl (by kernel_rfl) (by kernel_rfl) (by kernel_rfl) (fun _ _ _ h => h) (Or.inr ⟨rfl, rfl⟩) hS ?_
  simp only [List.getElem_toArray, List.getElem_cons_zero, List.getElem_cons_succ, Act.put, List.setIfInBounds_toArray, List.set_cons_succ, List.set_cons_zero]
  refine wpAnyH_take (i := 14) (v := undef) rfl (by kernel_rfl) (by kernel_rfl) (by kernel_rfl) (fun _ _ _ h => h) (Or.inr ⟨rfl, rfl⟩) hS ?_
  simp only [List.getElem_toArray, List.getElem_cons_zero, List.getElem_cons_succ, Act.put, List.setIfInBounds_toArray, List.set_cons_succ, List.set_cons_zero]
  refine wpAnyH_take (i := 15) (v := undef) rfl (by kernel_rfl) (by kernel_rfl) (by kernel_rfl) (fun _ _ _ h => h) (Or.inr ⟨rfl, rfl⟩) hS ?_
  simp only [List.getElem_toArray, List.getElem_cons_zero, List.getElem_cons_succ, Act.put, List.setIfInBounds_toArray, List.set_cons_succ, List.set_cons_zero]
  refine wpAnyH_take (i := 16) (v := undef) rfl (by kernel_rfl) (by kernel_rfl) (by kernel_rfl) (fun _ _ _ h => h) (Or.inr ⟨rfl, rfl⟩) hS ?_
  simp only [List.getElem_toArray, List.getElem_cons_zero, List.getElem_cons_succ, Act.put, List.setIfInBounds_toArray, List.set_cons_succ, List.set_cons_zero]
  refine wpAnyH_take (i := 17) (v := undef) rfl (by kernel_rfl) (by kernel_rfl) (by kernel_rfl) (fun _ _ _ h => h) (Or.inr ⟨rfl, rfl⟩) hS ?_
  simp only [List.getElem_toArray, List.getElem_cons_zero, List.getElem_cons_succ, Act.put, List.setIfInBounds_toArray, List.set_cons_succ, List.set_cons_zero]
  refine wpAnyH_take (i := 18) (v := undef) rfl (by kernel_rfl) (by kernel_rfl) (by kernel_rfl) (fun _ _ _ h => h) (Or.inr ⟨rfl, rfl⟩) hS ?_
  simp only [List.getElem_toArray, List.getElem_cons_zero, List.getElem_cons_succ, Act.put, List.setIfInBounds_toArray, List.set_cons_succ, List.set_cons_zero]
  refine wpAnyH_take (i := 19) (v := undef) rfl (by kernel_rfl) (by kernel_rfl) (by kernel_rfl) (fun _ _ _ h => h) (Or.inr ⟨rfl, rfl⟩) hS ?_
  simp only [List.getElem_toArray, List.getElem_cons_zero, List.getElem_cons_succ, Act.put, List.setIfInBounds_toArray, List.set_cons_succ, List.set_cons_zero]
  refine wpAnyH_take (i := 20) (v := undef) rfl (by kernel_rfl) (by kernel_rfl) (by kernel_rfl) (fun _ _ _ h => h) (Or.inr ⟨rfl, rfl⟩) hS ?_
  simp only [List.getElem_toArray, List.getElem_cons_zero, List.getElem_cons_succ, Act.put, List.setIfInBounds_toArray, List.set_cons_succ, List.set_cons_zero]
  refine wpAnyH_take (i := 21) (v := undef) rfl (by kernel_rfl) (by kernel_rfl) (by kernel_rfl) (fun _ _ _ h => h) (Or.inr ⟨rfl, rfl⟩) hS ?_
  simp only [List.getElem_toArray, List.getElem_cons_zero, List.getElem_cons_succ, Act.put, List.setIfInBounds_toArray, List.set_cons_succ, List.set_cons_zero]
  refine wpAnyH_take (i := 22) (v := undef) rfl (by kernel_rfl) (by kernel_rfl) (by kernel_rfl) (fun _ _ _ h => h) (Or.inr ⟨rfl, rfl⟩) hS ?_
  simp only [List.getElem_toArray, List.getElem_cons_zero, List.getElem_cons_succ, Act.put, List.setIfInBounds_toArray, List.set_cons_succ, List.set_cons_zero]
  refine wpAnyH_take (i := 23) (v := .bool true) rfl (by kernel_rfl) (by kernel_rfl) (by kernel_rfl) (fun _ _ _ h => h) (Or.inl ⟨by rfl, ?r⟩) hS ?_
  case r => intro W hW; obtain ⟨k0, k1, k2, k3, k4, kp, c00, c01, c02, c03, c04⟩ := hW; simp [go_sem, execOp, Act.eval]
  simp only [List.getElem_toArray, List.getElem_cons_zero, List.getElem_cons_succ, Act.put, List.setIfInBounds_toArray, List.set_cons_succ, List.set_cons_zero]
  refine wpAnyH_all (rs := [24]) (by kernel_rfl) (by simp) (fun i2 hi2 => ?_)
  obtain rfl : i2 = 24 := by simpa using hi2
  clear hi2
  refine wpOp_step rfl (fun K hK => ite_yes rfl ?_)
  simp only [List.getElem_toArray, List.getElem_cons_zero, List.getElem_cons_succ]
  go_simp
  refine (HPX.out _ _ _ (Nat.le_trans (Nat.le_of_eq HJ1.out) hi) (HD1.out.1.below hB5) (Nat.le_trans hBW hB5.size) (In.pk (HL1.out.get 0 (by simp)).2 (PK.of (pb := pb) (base := base) hB5 hBW) hpb)).mono ?_
  rintro e w2 ⟨⟨u2, rfl⟩, v2, hP2, hi2, hq2⟩
  have hk2 : PK pb base w1 w2 := (PK.of hB5 hBW).trans hq2
  clear hq2
  go_simp
  refine hK _ _ ⟨HK.out _ hk2, ?_⟩
  clear hK K hS hB5
  refine wpAnyH_done (by kernel_rfl) ?_ _
  refine NoPanic.normal ?_
  try simp only [Act.put, List.setIfInBounds_toArray, List.set_cons_succ, List.set_cons_zero]
  have HJ2 : Hid ((partG true y0.kind g0 (putS [t] s)).ind = s.ind) := hi2.trans HJ1.out
  have HE : Hid (_ ∧ PK pb base w w2) := ⟨hP2, HD1.out.2.1.trans hk2⟩
  clear hP2 hk2 hBW HK
  go_wp2_with fail
  go_end0
  exact ⟨⟨_, rfl⟩, v2, HE.out.1, HJ2.out, HE.out.2⟩
set_option maxRecDepth 100000 in
set_option maxHeartbeats 4000000 in
theorem plain_50b  {n : Int} {a : Int} {p : Option Addr} {c : Nat} {y0 : MT}  {g0 : PS → PS} (h0 : Wf 132 pb base L y0 g0) (hl : ¬ levK y0 < 6)  (hpb : pb < base) : Wf 132 pb base L (.node 50 ⟨#[45]⟩ n a p c [y0]) (fun s => (partG (y0.text.toList == [45]) y0.kind g0 (putS [⟨#[45]⟩] s))) := by
  intro s v w hi hP hB hin
  have hkk := hin.kidsL
  simp only [MT.kids_node, MT.ptr_node] at hkk
  rcases hkk with hkk | ⟨b, o, rfl, hbp, hL⟩
  · cases hkk
  have hb0 : Below w.heap.size w ((w.alloc (.cells #[.pointer (some ⟨pb, 0, none⟩)] 114)).alloc (.cells #[.int .i64 50, .string ⟨#[45]⟩, .int .i64 n, .int .i64 a, .slice (some ⟨b, o, none⟩) 1 c] 24)) := below2 _ _ _
  have hP0 := hP.below hb0
  have hK0 : PK pb base w _ := PK.of (pb := pb) hb0 hB
  have HI0 : Hid _ := In.pk hin hK0 hpb
  have pd0 := (hb0_ w (.cells #[.pointer (some ⟨pb, 0, none⟩)] 114) (.cells #[.int .i64 50, .string ⟨#[45]⟩, .int .i64 n, .int .i64 a, .slice (some ⟨b, o, none⟩) 1 c] 24))
  have nd0 := (nb0_ w (.cells #[.pointer (some ⟨pb, 0, none⟩)] 114) (.cells #[.int .i64 50, .string ⟨#[45]⟩, .int .i64 n, .int .i64 a, .slice (some ⟨b, o, none⟩) 1 c] 24))
  have HL0 : Hid (MT.InL pb _ b o [y0]) := MT.InL.below (hb0.mono (by omega)) b o hbp _ hL
  have hz0 := lt_of nd0
  have HD0 : Hid (_ ∧ _ ∧ _ ∧ _) := ⟨hP0, hK0, nd0, pd0⟩
  have hbz : b < w.heap.size := by omega
  clear hP hin hb0 hP0 hK0 nd0 pd0 hL
  rw [nv1]
  go_enter Tryz.func132, Tryz.ntmps132
  go_wp2_with fail
  have HLX : Hid _ := level_all y0
  have HPX : Hid _ := part_all (y0.text.toList == [45]) hpb h0
  clear h0
  refine (putc [⟨#[45]⟩] HD0.out.1 hpb (Nat.le_trans hB HD0.out.2.1.size) (al_cons (by decide) al_nil) (by simp) (by first | rfl | simp)).mono ?_
  rintro e w1 ⟨⟨u1, rfl⟩, v1, hP1, hk1⟩
  have HJ1 : Hid ((putS [⟨#[45]⟩] s).ind = s.ind) := (putS_ind _ _).trans (Eq.refl s.ind)
  have hK1 : PK pb base w w1 := HD0.out.2.1.trans hk1
  have nd1 := hk1.high (w.heap.size + 1) _ _ _ (by omega) HD0.out.2.2.1 (by decide)
  have pd1 := hk1.high w.heap.size _ _ _ (by omega) HD0.out.2.2.2 (by decide)
  have HI1 : Hid _ := In.pk HI0.out hk1 hpb
  have HL1 : Hid (MT.InL pb w1 b o [y0]) := MT.InL.below (hk1.below (by omega) (Nat.le_refl _)) b o hbp _ HL0.out
  have hz1 := lt_of nd1
  have HD1 : Hid (_ ∧ _ ∧ _ ∧ _) := ⟨hP1, hK1, nd1, pd1⟩
  obtain ⟨k0, k1, k2, k3, k4⟩ := cells5 nd1
  have kp := cells1 pd1
  have hbz1 : b < w1.heap.size := by omega
  clear hP1 hK1 nd1 hk1 HD0 HI0 pd1 HL0
  go_wp2_with fail
  clear k0 k1 k2 k3 k4 kp
  have HK : Hid (∀ W, PK pb base w1 W → (W.cell? ⟨w.heap.size + 1, 0, none⟩ = some (.int .i64 50) ∧ W.cell? ⟨w.heap.size + 1, 1, none⟩ = some (.string ⟨#[45]⟩) ∧ W.cell? ⟨w.heap.size + 1, 2, none⟩ = some (.int .i64 n) ∧ W.cell? ⟨w.heap.size + 1, 3, none⟩ = some (.int .i64 a) ∧ W.cell? ⟨w.heap.size + 1, 4, none⟩ = some (.slice (some ⟨b, o, none⟩) 1 c) ∧ W.cell? ⟨w.heap.size, 0, none⟩ = some (.pointer (some ⟨pb, 0, none⟩)) ∧ W.cell? ⟨b, o, none⟩ = some (.int .i64 y0.kind) ∧ W.cell? ⟨b, o + 1, none⟩ = some (.string y0.text) ∧ W.cell? ⟨b, o + 2, none⟩ = some (.int .i64 y0.num) ∧ W.cell? ⟨b, o + 3, none⟩ = some (.int .i64 y0.at_) ∧ W.cell? ⟨b, o + 4, none⟩ = some (.slice y0.ptr y0.kids.length y0.cap))) := fun W hW => by
    have nd := hW.high (w.heap.size + 1) _ _ _ (by omega) HD1.out.2.2.1 (by decide)
    have pd := hW.high w.heap.size _ _ _ (by omega) HD1.out.2.2.2 (by decide)
    have hLW := MT.InL.below (hW.below (by omega) (Nat.le_refl _)) b o hbp _ HL1.out
    obtain ⟨c00, c01, c02, c03, c04⟩ : MT.CellsAt W b o y0 := (hLW.get 0 (by simp)).1
    obtain ⟨k0, k1, k2, k3, k4⟩ := cells5 nd
    exact ⟨k0, k1, k2, k3, k4, cells1 pd, c00, c01, c02, c03, c04⟩
  have hBW : base ≤ w1.heap.size := by omega
  obtain ⟨k0, k1, k2, k3, k4, kp, c00, c01, c02, c03, c04⟩ := HK.out w1 (PK.refl _ _ _)
  refine wp_region_noPanic ?_
  refine wp_region_held (S := fun W => W.cell? ⟨w.heap.size + 1, 0, none⟩ = some (.int .i64 50) ∧ W.cell? ⟨w.heap.size + 1, 1, none⟩ = some (.string ⟨#[45]⟩) ∧ W.cell? ⟨w.heap.size + 1, 2, none⟩ = some (.int .i64 n) ∧ W.cell? ⟨w.heap.size + 1, 3, none⟩ = some (.int .i64 a) ∧ W.cell? ⟨w.heap.size + 1, 4, none⟩ = some (.slice (some ⟨b, o, none⟩) 1 c) ∧ W.cell? ⟨w.heap.size, 0, none⟩ = some (.pointer (some ⟨pb, 0, none⟩)) ∧ W.cell? ⟨b, o, none⟩ = some (.int .i64 y0.kind) ∧ W.cell? ⟨b, o + 1, none⟩ = some (.string y0.text) ∧ W.cell? ⟨b, o + 2, none⟩ = some (.int .i64 y0.num) ∧ W.cell? ⟨b, o + 3, none⟩ = some (.int .i64 y0.at_) ∧ W.cell? ⟨b, o + 4, none⟩ = some (.slice y0.ptr y0.kids.length y0.cap)) (by kernel_rfl) ?_
  obtain ⟨W4, hW4⟩ : ∃ W4, W4 = (w1).drew := ⟨_, rfl⟩
  have e4 : ({ w1 with drawn := (w1).drawn + 1 } : World) = W4 := hW4.symm
  rw [e4]
  have hB4 : Below w1.heap.size w1 W4 := by rw [hW4]; exact (Below.refl _ _).drew
  have hS := HK.out _ (PK.of hB4 hBW)
  clear e4 hW4 k0 k1 k2 k3 k4 kp c00 c01 c02 c03 c04
  refine wpAnyH_take (i := 0) (v := .pointer (some ⟨pb, 0, none⟩)) rfl (by kernel_rfl) (by kernel_rfl) (by kernel_rfl) (fun _ _ _ h => h) (Or.inl ⟨by rfl, ?r⟩) hS ?_
  case r => intro W hW; obtain ⟨k0, k1, k2, k3, k4, kp, c00, c01, c02, c03, c04⟩ := hW; simp [go_sem, execOp, Act.eval, kp]
  simp only [List.getElem_toArray, List.getElem_cons_zero, Act.put, List.setIfInBounds_toArray, List.set_cons_succ, List.set_cons_zero]
  refine wpAnyH_take (i := 1) (v := .pointer (some ⟨w.heap.size + 1, 4, none⟩)) rfl (by kernel_rfl) (by kernel_rfl) (by kernel_rfl) (fun _ _ _ h => h) (Or.inl ⟨by rfl, ?r⟩) hS ?_
  case r => intro W hW; obtain ⟨k0, k1, k2, k3, k4, kp, c00, c01, c02, c03, c04⟩ := hW; simp [go_sem, execOp, Act.eval]
  simp only [List.getElem_toArray, List.getElem_cons_zero, List.getElem_cons_succ, Act.put, List.setIfInBounds_toArray, List.set_cons_succ, List.set_cons_zero]
  refine wpAnyH_take (i := 2) (v := .slice (some ⟨b, o, none⟩) 1 c) rfl (by kernel_rfl) (by kernel_rfl) (by kernel_rfl) (fun _ _ _ h => h) (Or.inl ⟨by rfl, ?r⟩) hS ?_
  case r => intro W hW; obtain ⟨k0, k1, k2, k3, k4, kp, c00, c01, c02, c03, c04⟩ := hW; simp [go_sem, execOp, Act.eval, k4]
  simp only [List.getElem_toArray, List.getElem_cons_zero, List.getElem_cons_succ, Act.put, List.setIfInBounds_toArray, List.set_cons_succ, List.set_cons_zero]
  refine wpAnyH_take (i := 3) (v := .pointer (some ⟨b, o, none⟩)) rfl (by kernel_rfl) (by kernel_rfl) (by kernel_rfl) (fun _ _ _ h => h) (Or.inl ⟨by rfl, ?r⟩) hS ?_
  case r => intro W hW; obtain ⟨k0, k1, k2, k3, k4, kp, c00, c01, c02, c03, c04⟩ := hW; simp [go_sem, execOp, Act.eval]
  simp only [List.getElem_toArray, List.getElem_cons_zero, List.getElem_cons_succ, Act.put, List.setIfInBounds_toArray, List.set_cons_succ, List.set_cons_zero]
  refine wpAnyH_take (i := 4) (v := .agg #[.int .i64 y0.kind, .string y0.text, .int .i64 y0.num, .int .i64 y0.at_, .slice y0.ptr y0.kids.length y0.cap]) rfl (by kernel_rfl) (by kernel_rfl) (by kernel_rfl) (fun _ _ _ h => h) (Or.inl ⟨by rfl, ?r⟩) hS ?_
  case r => intro W hW; obtain ⟨k0, k1, k2, k3, k4, kp, c00, c01, c02, c03, c04⟩ := hW; simp [go_sem, execOp, Act.eval, c00, c01, c02, c03, c04]
  simp only [List.getElem_toArray, List.getElem_cons_zero, List.getElem_cons_succ, Act.put, List.setIfInBounds_toArray, List.set_cons_succ, List.set_cons_zero]
  refine wpAnyH_take (i := 5) (v := .pointer (some ⟨w.heap.size + 1, 4, none⟩)) rfl (by kernel_rfl) (by kernel_rfl) (by kernel_rfl) (fun _ _ _ h => h) (Or.inl ⟨by rfl, ?r⟩) hS ?_
  case r => intro W hW; obtain ⟨k0, k1, k2, k3, k4, kp, c00, c01, c02, c03, c04⟩ := hW; simp [go_sem, execOp, Act.eval]
  simp only [List.getElem_toArray, List.getElem_cons_zero, List.getElem_cons_succ, Act.put, List.setIfInBounds_toArray, List.set_cons_succ, List.set_cons_zero]
  refine wpAnyH_take (i := 6) (v := .slice (some ⟨b, o, none⟩) 1 c) rfl (by kernel_rfl) (by kernel_rfl) (by kernel_rfl) (fun _ _ _ h => h) (Or.inl ⟨by rfl, ?r⟩) hS ?_
  case r => intro W hW; obtain ⟨k0, k1, k2, k3, k4, kp, c00, c01, c02, c03, c04⟩ := hW; simp [go_sem, execOp, Act.eval, k4]
  simp only [List.getElem_toArray, List.getElem_cons_zero, List.getElem_cons_succ, Act.put, List.setIfInBounds_toArray, List.set_cons_succ, List.set_cons_zero]
  refine wpAnyH_take (i := 7) (v := .pointer (some ⟨b, o, none⟩)) rfl (by kernel_rfl) (by kernel_rfl) (by kernel_rfl) (fun _ _ _ h => h) (Or.inl ⟨by rfl, ?r⟩) hS ?_
  case r => intro W hW; obtain ⟨k0, k1, k2, k3, k4, kp, c00, c01, c02, c03, c04⟩ := hW; simp [go_sem, execOp, Act.eval]
  simp only [List.getElem_toArray, List.getElem_cons_zero, List.getElem_cons_succ, Act.put, List.setIfInBounds_toArray, List.set_cons_succ, List.set_cons_zero]
  refine wpAnyH_take (i := 8) (v := .agg #[.int .i64 y0.kind, .string y0.text, .int .i64 y0.num, .int .i64 y0.at_, .slice y0.ptr y0.kids.length y0.cap]) rfl (by kernel_rfl) (by kernel_rfl) (by kernel_rfl) (fun _ _ _ h => h) (Or.inl ⟨by rfl, ?r⟩) hS ?_
  case r => intro W hW; obtain ⟨k0, k1, k2, k3, k4, kp, c00, c01, c02, c03, c04⟩ := hW; simp [go_sem, execOp, Act.eval, c00, c01, c02, c03, c04]
  simp only [List.getElem_toArray, List.getElem_cons_zero, List.getElem_cons_succ, Act.put, List.setIfInBounds_toArray, List.set_cons_succ, List.set_cons_zero]
  refine wpAnyH_all (rs := [9]) (by kernel_rfl) (by simp) (fun i2 hi2 => ?_)
  obtain rfl : i2 = 9 := by simpa using hi2
  clear hi2
  refine wpOp_step rfl (fun K hK => ite_yes rfl ?_)
  simp only [List.getElem_toArray, List.getElem_cons_zero, List.getElem_cons_succ]
  go_simp
  refine (HLX.out _).mono ?_
  rintro r' W5 ⟨rfl, bq⟩
  have hB5 : Below w1.heap.size w1 W5 := hB4.trans (bq.mono hB4.size)
  go_simp
  refine hK _ _ ⟨HK.out _ (PK.of hB5 hBW), ?_⟩
  clear hK K hS bq hB4
  have hS := HK.out _ (PK.of hB5 hBW)
  try simp only [Act.put, List.setIfInBounds_toArray, List.set_cons_succ, List.set_cons_zero]
  refine wpAnyH_take (i := 10) (v := .bool false) rfl (by kernel_rfl) (by kernel_rfl) (by kernel_rfl) (fun _ _ _ h => h) (Or.inl ⟨by rfl, ?r⟩) hS ?_
  case r => intro W hW; obtain ⟨k0, k1, k2, k3, k4, kp, c00, c01, c02, c03, c04⟩ := hW; simp [go_sem, execOp, Act.eval, hl]
  simp only [List.getElem_toArray, List.getElem_cons_zero, List.getElem_cons_succ, Act.put, List.setIfInBounds_toArray, List.set_cons_succ, List.set_cons_zero]
  refine wpAnyH_take (i := 11) (v := .bool false) rfl (by kernel_rfl) (by kernel_rfl) (by kernel_rfl) (fun _ _ _ h => h) (Or.inl ⟨by rfl, ?r⟩) hS ?_
  case r => intro W hW; obtain ⟨k0, k1, k2, k3, k4, kp, c00, c01, c02, c03, c04⟩ := hW; simp [go_sem, execOp, Act.eval]
  simp only [List.getElem_toArray, List.getElem_cons_zero, List.getElem_cons_succ, Act.put, List.setIfInBounds_toArray, List.set_cons_succ, List.set_cons_zero]
  refine wpAnyH_take (i := 12) (v := .pointer (some ⟨w.heap.size + 1, 1, none⟩)) rfl (by kernel_rfl) (by kernel_rfl) (by kernel_rfl) (fun _ _ _ h => h) (Or.inl ⟨by rfl, ?r⟩) hS ?_
  case r => intro W hW; obtain ⟨k0, k1, k2, k3, k4, kp, c00, c01, c02, c03, c04⟩ := hW; simp [go_sem, execOp, Act.eval]
  simp only [List.getElem_toArray, List.getElem_cons_zero, List.getElem_cons_succ, Act.put, List.setIfInBounds_toArray, List.set_cons_succ, List.set_cons_zero]
  refine wpAnyH_take (i := 13) (v := .string ⟨#[45]⟩) rfl (by kernel_rfl) (by kernel_rfl) (by kernel_rfl) (fun _ _ _ h => h) (Or.inl ⟨by rfl, ?r⟩) hS ?_
  case r => intro W hW; obtain ⟨k0, k1, k2, k3, k4, kp, c00, c01, c02, c03, c04⟩ := hW; simp [go_sem, execOp, Act.eval, k1]
  simp only [List.getElem_toArray, List.getElem_cons_zero, List.getElem_cons_succ, Act.put, List.setIfInBounds_toArray, List.set_cons_succ, List.set_cons_zero]
  refine wpAnyH_take (i := 14) (v := .bool true) rfl (by kernel_rfl) (by kernel_rfl) (by kernel_rfl) (fun _ _ _ h => h) (Or.inl ⟨by rfl, ?r⟩) hS ?_
  case r => intro W hW; obtain ⟨k0, k1, k2, k3, k4, kp, c00, c01, c02, c03, c04⟩ := hW; simp [go_sem, execOp, Act.eval]
  simp only [List.getElem_toArray, List.getElem_cons_zero, List.getElem_cons_succ, Act.put, List.setIfInBounds_toArray, List.set_cons_succ, List.set_cons_zero]
  refine wpAnyH_take (i := 15) (v := .bool true) rfl (by kernel_rfl) (by kernel_rfl) (by kernel_rfl) (fun _ _ _ h => h) (Or.inl ⟨by rfl, ?r⟩) hS ?_
  case r => intro W hW; obtain ⟨k0, k1, k2, k3, k4, kp, c00, c01, c02, c03, c04⟩ := hW; simp [go_sem, execOp, Act.eval]
  simp only [List.getElem_toArray, List.getElem_cons_zero, List.getElem_cons_succ, Act.put, List.setIfInBounds_toArray, List.set_cons_succ, List.set_cons_zero]
  refine wpAnyH_take (i := 16) (v := .pointer (some ⟨w.heap.size + 1, 4, none⟩)) rfl (by kernel_rfl) (by kernel_rfl) (by kernel_rfl) (fun _ _ _ h => h) (Or.inl ⟨by rfl, ?r⟩) hS ?_
  case r => intro W hW; obtain ⟨k0, k1, k2, k3, k4, kp, c00, c01, c02, c03, c04⟩ := hW; simp [go_sem, execOp, Act.eval]
  simp only [List.getElem_toArray, List.getElem_cons_zero, List.getElem_cons_succ, Act.put, List.setIfInBounds_toArray, List.set_cons_succ, List.set_cons_zero]
  refine wpAnyH_take (i := 17) (v := .slice (some ⟨b, o, none⟩) 1 c) rfl (by kernel_rfl) (by kernel_rfl) (by kernel_rfl) (fun _ _ _ h => h) (Or.inl ⟨by rfl, ?r⟩) hS ?_
  case r => intro W hW; obtain ⟨k0, k1, k2, k3, k4, kp, c00, c01, c02, c03, c04⟩ := hW; simp [go_sem, execOp, Act.eval, k4]
  simp only [List.getElem_toArray, List.getElem_cons_zero, List.getElem_cons_succ, Act.put, List.setIfInBounds_toArray, List.set_cons_succ, List.set_cons_zero]
  refine wpAnyH_take (i := 18) (v := .pointer (some ⟨b, o, none⟩)) rfl (by kernel_rfl) (by kernel_rfl) (by kernel_rfl) (fun _ _ _ h => h) (Or.inl ⟨by rfl, ?r⟩) hS ?_
  case r => intro W hW; obtain ⟨k0, k1, k2, k3, k4, kp, c00, c01, c02, c03, c04⟩ := hW; simp [go_sem, execOp, Act.eval]
  simp only [List.getElem_toArray, List.getElem_cons_zero, List.getElem_cons_succ, Act.put, List.setIfInBounds_toArray, List.set_cons_succ, List.set_cons_zero]
  refine wpAnyH_take (i := 19) (v := .pointer (some ⟨b, o + 1, none⟩)) rfl (by kernel_rfl) (by kernel_rfl) (by kernel_rfl) (fun _ _ _ h => h) (Or.inl ⟨by rfl, ?r⟩) hS ?_
  case r => intro W hW; obtain ⟨k0, k1, k2, k3, k4, kp, c00, c01, c02, c03, c04⟩ := hW; simp [go_sem, execOp, Act.eval]
  simp only [List.getElem_toArray, List.getElem_cons_zero, List.getElem_cons_succ, Act.put, List.setIfInBounds_toArray, List.set_cons_succ, List.set_cons_zero]
  refine wpAnyH_take (i := 20) (v := .string y0.text) rfl (by kernel_rfl) (by kernel_rfl) (by kernel_rfl) (fun _ _ _ h => h) (Or.inl ⟨by rfl, ?r⟩) hS ?_
  case r => intro W hW; obtain ⟨k0, k1, k2, k3, k4, kp, c00, c01, c02, c03, c04⟩ := hW; simp [go_sem, execOp, Act.eval, c01]
  simp only [List.getElem_toArray, List.getElem_cons_zero, List.getElem_cons_succ, Act.put, List.setIfInBounds_toArray, List.set_cons_succ, List.set_cons_zero]
  refine wpAnyH_take (i := 21) (v := .bool (y0.text.toList == [45])) rfl (by kernel_rfl) (by kernel_rfl) (by kernel_rfl) (fun _ _ _ h => h) (Or.inl ⟨by rfl, ?r⟩) hS ?_
  case r => intro W hW; obtain ⟨k0, k1, k2, k3, k4, kp, c00, c01, c02, c03, c04⟩ := hW; simp [go_sem, execOp, Act.eval]
  simp only [List.getElem_toArray, List.getElem_cons_zero, List.getElem_cons_succ, Act.put, List.setIfInBounds_toArray, List.set_cons_succ, List.set_cons_zero]
  refine wpAnyH_take (i := 22) (v := .bool (y0.text.toList == [45])) rfl (by kernel_rfl) (by kernel_rfl) (by kernel_rfl) (fun _ _ _ h => h) (Or.inl ⟨by rfl, ?r⟩) hS ?_
  case r => intro W hW; obtain ⟨k0, k1, k2, k3, k4, kp, c00, c01, c02, c03, c04⟩ := hW; simp [go_sem, execOp, Act.eval]
  simp only [List.getElem_toArray, List.getElem_cons_zero, List.getElem_cons_succ, Act.put, List.setIfInBounds_toArray, List.set_cons_succ, List.set_cons_zero]
  refine wpAnyH_take (i := 23) (v := .bool (y0.text.toList == [45])) rfl (by kernel_rfl) (by kernel_rfl) (by kernel_rfl) (fun _ _ _ h => h) (Or.inl ⟨by rfl, ?r⟩) hS ?_
  case r => intro W hW; obtain ⟨k0, k1, k2, k3, k4, kp, c00, c01, c02, c03, c04⟩ := hW; simp [go_sem, execOp, Act.eval]
  simp only [List.getElem_toArray, List.getElem_cons_zero, List.getElem_cons_succ, Act.put, List.setIfInBounds_toArray, List.set_cons_succ, List.set_cons_zero]
  refine wpAnyH_all (rs := [24]) (by kernel_rfl) (by simp) (fun i2 hi2 => ?_)
  obtain rfl : i2 = 24 := by simpa using hi2
  clear hi2
  refine wpOp_step rfl (fun K hK => ite_yes rfl ?_)
  simp only [List.getElem_toArray, List.getElem_cons_zero, List.getElem_cons_succ]
  go_simp
  refine (HPX.out _ _ _ (Nat.le_trans (Nat.le_of_eq HJ1.out) hi) (HD1.out.1.below hB5) (Nat.le_trans hBW hB5.size) (In.pk (HL1.out.get 0 (by simp)).2 (PK.of (pb := pb) (base := base) hB5 hBW) hpb)).mono ?_
  rintro e w2 ⟨⟨u2, rfl⟩, v2, hP2, hi2, hq2⟩
  have hk2 : PK pb base w1 w2 := (PK.of hB5 hBW).trans hq2
  clear hq2
  go_simp
  refine hK _ _ ⟨HK.out _ hk2, ?_⟩
  clear hK K hS hB5
  refine wpAnyH_done (by kernel_rfl) ?_ _
  refine NoPanic.normal ?_
  try simp only [Act.put, List.setIfInBounds_toArray, List.set_cons_succ, List.set_cons_zero]
  have HJ2 : Hid ((partG (y0.text.toList == [45]) y0.kind g0 (putS [⟨#[45]⟩] s)).ind = s.ind) := hi2.trans HJ1.out
  have HE : Hid (_ ∧ PK pb base w w2) := ⟨hP2, HD1.out.2.1.trans hk2⟩
  clear hP2 hk2 hBW HK
  go_wp2_with fail
  go_end0
  exact ⟨⟨_, rfl⟩, v2, HE.out.1, HJ2.out, HE.out.2⟩
set_option maxRecDepth 100000 in
set_option maxHeartbeats 4000000 in
theorem plain_50c  {t : ByteArray} {n : Int} {a : Int} {p : Option Addr} {c : Nat} {y0 : MT}  {g0 : PS → PS} (ht : t.size ≤ 4000000000) (h0 : Wf 132 pb base L y0 g0) (hl : ¬ levK y0 < 6) (ht1 : ¬ t.toList = [45]) (hpb : pb < base) : Wf 132 pb base L (.node 50 t n a p c [y0]) (fun s => (partG false y0.kind g0 (putS [t] s))) := by
  intro s v w hi hP hB hin
  have hkk := hin.kidsL
  simp only [MT.kids_node, MT.ptr_node] at hkk
  rcases hkk with hkk | ⟨b, o, rfl, hbp, hL⟩
  · cases hkk
  have hb0 : Below w.heap.size w ((w.alloc (.cells #[.pointer (some ⟨pb, 0, none⟩)] 114)).alloc (.cells #[.int .i64 50, .string t, .int .i64 n, .int .i64 a, .slice (some ⟨b, o, none⟩) 1 c] 24)) := below2 _ _ _
  have hP0 := hP.below hb0
  have hK0 : PK pb base w _ := PK.of (pb := pb) hb0 hB
  have HI0 : Hid _ := In.pk hin hK0 hpb
  have pd0 := (hb0_ w (.cells #[.pointer (some ⟨pb, 0, none⟩)] 114) (.cells #[.int .i64 50, .string t, .int .i64 n, .int .i64 a, .slice (some ⟨b, o, none⟩) 1 c] 24))
  have nd0 := (nb0_ w (.cells #[.pointer (some ⟨pb, 0, none⟩)] 114) (.cells #[.int .i64 50, .string t, .int .i64 n, .int .i64 a, .slice (some ⟨b, o, none⟩) 1 c] 24))
  have HL0 : Hid (MT.InL pb _ b o [y0]) := MT.InL.below (hb0.mono (by omega)) b o hbp _ hL
  have hz0 := lt_of nd0
  have HD0 : Hid (_ ∧ _ ∧ _ ∧ _) := ⟨hP0, hK0, nd0, pd0⟩
  have hbz : b < w.heap.size := by omega
  clear hP hin hb0 hP0 hK0 nd0 pd0 hL
  rw [nv1]
  go_enter Tryz.func132, Tryz.ntmps132
  go_wp2_with fail
  have HLX : Hid _ := level_all y0
  have HPX : Hid _ := part_all false hpb h0
  clear h0
  refine (putc [t] HD0.out.1 hpb (Nat.le_trans hB HD0.out.2.1.size) (al_cons ht al_nil) (by simp) (by first | rfl | simp)).mono ?_
  rintro e w1 ⟨⟨u1, rfl⟩, v1, hP1, hk1⟩
  have HJ1 : Hid ((putS [t] s).ind = s.ind) := (putS_ind _ _).trans (Eq.refl s.ind)
  have hK1 : PK pb base w w1 := HD0.out.2.1.trans hk1
  have nd1 := hk1.high (w.heap.size + 1) _ _ _ (by omega) HD0.out.2.2.1 (by decide)
  have pd1 := hk1.high w.heap.size _ _ _ (by omega) HD0.out.2.2.2 (by decide)
  have HI1 : Hid _ := In.pk HI0.out hk1 hpb
  have HL1 : Hid (MT.InL pb w1 b o [y0]) := MT.InL.below (hk1.below (by omega) (Nat.le_refl _)) b o hbp _ HL0.out
  have hz1 := lt_of nd1
  have HD1 : Hid (_ ∧ _ ∧ _ ∧ _) := ⟨hP1, hK1, nd1, pd1⟩
  obtain ⟨k0, k1, k2, k3, k4⟩ := cells5 nd1
  have kp := cells1 pd1
  have hbz1 : b < w1.heap.size := by omega
  clear hP1 hK1 nd1 hk1 HD0 HI0 pd1 HL0
  go_wp2_with fail
  clear k0 k1 k2 k3 k4 kp
  have HK : Hid (∀ W, PK pb base w1 W → (W.cell? ⟨w.heap.size + 1, 0, none⟩ = some (.int .i64 50) ∧ W.cell? ⟨w.heap.size + 1, 1, none⟩ = some (.string t) ∧ W.cell? ⟨w.heap.size + 1, 2, none⟩ = some (.int .i64 n) ∧ W.cell? ⟨w.heap.size + 1, 3, none⟩ = some (.int .i64 a) ∧ W.cell? ⟨w.heap.size + 1, 4, none⟩ = some (.slice (some ⟨b, o, none⟩) 1 c) ∧ W.cell? ⟨w.heap.size, 0, none⟩ = some (.pointer (some ⟨pb, 0, none⟩)) ∧ W.cell? ⟨b, o, none⟩ = some (.int .i64 y0.kind) ∧ W.cell? ⟨b, o + 1, none⟩ = some (.string y0.text) ∧ W.cell? ⟨b, o + 2, none⟩ = some (.int .i64 y0.num) ∧ W.cell? ⟨b, o + 3, none⟩ = some (.int .i64 y0.at_) ∧ W.cell? ⟨b, o + 4, none⟩ = some (.slice y0.ptr y0.kids.length y0.cap))) := fun W hW => by
    have nd := hW.high (w.heap.size + 1) _ _ _ (by omega) HD1.out.2.2.1 (by decide)
    have pd := hW.high w.heap.size _ _ _ (by omega) HD1.out.2.2.2 (by decide)
    have hLW := MT.InL.below (hW.below (by omega) (Nat.le_refl _)) b o hbp _ HL1.out
    obtain ⟨c00, c01, c02, c03, c04⟩ : MT.CellsAt W b o y0 := (hLW.get 0 (by simp)).1
    obtain ⟨k0, k1, k2, k3, k4⟩ := cells5 nd
    exact ⟨k0, k1, k2, k3, k4, cells1 pd, c00, c01, c02, c03, c04⟩
  have hBW : base ≤ w1.heap.size := by omega
  obtain ⟨k0, k1, k2, k3, k4, kp, c00, c01, c02, c03, c04⟩ := HK.out w1 (PK.refl _ _ _)
  refine wp_region_noPanic ?_
  refine wp_region_held (S := fun W => W.cell? ⟨w.heap.size + 1, 0, none⟩ = some (.int .i64 50) ∧ W.cell? ⟨w.heap.size + 1, 1, none⟩ = some (.string t) ∧ W.cell? ⟨w.heap.size + 1, 2, none⟩ = some (.int .i64 n) ∧ W.cell? ⟨w.heap.size + 1, 3, none⟩ = some (.int .i64 a) ∧ W.cell? ⟨w.heap.size + 1, 4, none⟩ = some (.slice (some ⟨b, o, none⟩) 1 c) ∧ W.cell? ⟨w.heap.size, 0, none⟩ = some (.pointer (some ⟨pb, 0, none⟩)) ∧ W.cell? ⟨b, o, none⟩ = some (.int .i64 y0.kind) ∧ W.cell? ⟨b, o + 1, none⟩ = some (.string y0.text) ∧ W.cell? ⟨b, o + 2, none⟩ = some (.int .i64 y0.num) ∧ W.cell? ⟨b, o + 3, none⟩ = some (.int .i64 y0.at_) ∧ W.cell? ⟨b, o + 4, none⟩ = some (.slice y0.ptr y0.kids.length y0.cap)) (by kernel_rfl) ?_
  obtain ⟨W4, hW4⟩ : ∃ W4, W4 = (w1).drew := ⟨_, rfl⟩
  have e4 : ({ w1 with drawn := (w1).drawn + 1 } : World) = W4 := hW4.symm
  rw [e4]
  have hB4 : Below w1.heap.size w1 W4 := by rw [hW4]; exact (Below.refl _ _).drew
  have hS := HK.out _ (PK.of hB4 hBW)
  clear e4 hW4 k0 k1 k2 k3 k4 kp c00 c01 c02 c03 c04
  refine wpAnyH_take (i := 0) (v := .pointer (some ⟨pb, 0, none⟩)) rfl (by kernel_rfl) (by kernel_rfl) (by kernel_rfl) (fun _ _ _ h => h) (Or.inl ⟨by rfl, ?r⟩) hS ?_
  case r => intro W hW; obtain ⟨k0, k1, k2, k3, k4, kp, c00, c01, c02, c03, c04⟩ := hW; simp [go_sem, execOp, Act.eval, kp]
  simp only [List.getElem_toArray, List.getElem_cons_zero, Act.put, List.setIfInBounds_toArray, List.set_cons_succ, List.set_cons_zero]
  refine wpAnyH_take (i := 1) (v := .pointer (some ⟨w.heap.size + 1, 4, none⟩)) rfl (by kernel_rfl) (by kernel_rfl) (by kernel_rfl) (fun _ _ _ h => h) (Or.inl ⟨by rfl, ?r⟩) hS ?_
  case r => intro W hW; obtain ⟨k0, k1, k2, k3, k4, kp, c00, c01, c02, c03, c04⟩ := hW; simp [go_sem, execOp, Act.eval]
  simp only [List.getElem_toArray, List.getElem_cons_zero, List.getElem_cons_succ, Act.put, List.setIfInBounds_toArray, List.set_cons_succ, List.set_cons_zero]
  refine wpAnyH_take (i := 2) (v := .slice (some ⟨b, o, none⟩) 1 c) rfl (by kernel_rfl) (by kernel_rfl) (by kernel_rfl) (fun _ _ _ h => h) (Or.inl ⟨by rfl, ?r⟩) hS ?_
  case r => intro W hW; obtain ⟨k0, k1, k2, k3, k4, kp, c00, c01, c02, c03, c04⟩ := hW; simp [go_sem, execOp, Act.eval, k4]
  simp only [List.getElem_toArray, List.getElem_cons_zero, List.getElem_cons_succ, Act.put, List.setIfInBounds_toArray, List.set_cons_succ, List.set_cons_zero]
  refine wpAnyH_take (i := 3) (v := .pointer (some ⟨b, o, none⟩)) rfl (by kernel_rfl) (by kernel_rfl) (by kernel_rfl) (fun _ _ _ h => h) (Or.inl ⟨by rfl, ?r⟩) hS ?_
  case r => intro W hW; obtain ⟨k0, k1, k2, k3, k4, kp, c00, c01, c02, c03, c04⟩ := hW; simp [go_sem, execOp, Act.eval]
  simp only [List.getElem_toArray, List.getElem_cons_zero, List.getElem_cons_succ, Act.put, List.setIfInBounds_toArray, List.set_cons_succ, List.set_cons_zero]
  refine wpAnyH_take (i := 4) (v := .agg #[.int .i64 y0.kind, .string y0.text, .int .i64 y0.num, .int .i64 y0.at_, .slice y0.ptr y0.kids.length y0.cap]) rfl (by kernel_rfl) (by kernel_rfl) (by kernel_rfl) (fun _ _ _ h => h) (Or.inl ⟨by rfl, ?r⟩) hS ?_
  case r => intro W hW; obtain ⟨k0, k1, k2, k3, k4, kp, c00, c01, c02, c03, c04⟩ := hW; simp [go_sem, execOp, Act.eval, c00, c01, c02, c03, c04]
  simp only [List.getElem_toArray, List.getElem_cons_zero, List.getElem_cons_succ, Act.put, List.setIfInBounds_toArray, List.set_cons_succ, List.set_cons_zero]
  refine wpAnyH_take (i := 5) (v := .pointer (some ⟨w.heap.size + 1, 4, none⟩)) rfl (by kernel_rfl) (by kernel_rfl) (by kernel_rfl) (fun _ _ _ h => h) (Or.inl ⟨by rfl, ?r⟩) hS ?_
  case r => intro W hW; obtain ⟨k0, k1, k2, k3, k4, kp, c00, c01, c02, c03, c04⟩ := hW; simp [go_sem, execOp, Act.eval]
  simp only [List.getElem_toArray, List.getElem_cons_zero, List.getElem_cons_succ, Act.put, List.setIfInBounds_toArray, List.set_cons_succ, List.set_cons_zero]
  refine wpAnyH_take (i := 6) (v := .slice (some ⟨b, o, none⟩) 1 c) rfl (by kernel_rfl) (by kernel_rfl) (by kernel_rfl) (fun _ _ _ h => h) (Or.inl ⟨by rfl, ?r⟩) hS ?_
  case r => intro W hW; obtain ⟨k0, k1, k2, k3, k4, kp, c00, c01, c02, c03, c04⟩ := hW; simp [go_sem, execOp, Act.eval, k4]
  simp only [List.getElem_toArray, List.getElem_cons_zero, List.getElem_cons_succ, Act.put, List.setIfInBounds_toArray, List.set_cons_succ, List.set_cons_zero]
  refine wpAnyH_take (i := 7) (v := .pointer (some ⟨b, o, none⟩)) rfl (by kernel_rfl) (by kernel_rfl) (by kernel_rfl) (fun _ _ _ h => h) (Or.inl ⟨by rfl, ?r⟩) hS ?_
  case r => intro W hW; obtain ⟨k0, k1, k2, k3, k4, kp, c00, c01, c02, c03, c04⟩ := hW; simp [go_sem, execOp, Act.eval]
  simp only [List.getElem_toArray, List.getElem_cons_zero, List.getElem_cons_succ, Act.put, List.setIfInBounds_toArray, List.set_cons_succ, List.set_cons_zero]
  refine wpAnyH_take (i := 8) (v := .agg #[.int .i64 y0.kind, .string y0.text, .int .i64 y0.num, .int .i64 y0.at_, .slice y0.ptr y0.kids.length y0.cap]) rfl (by kernel_rfl) (by kernel_rfl) (by kernel_rfl) (fun _ _ _ h => h) (Or.inl ⟨by rfl, ?r⟩) hS ?_
  case r => intro W hW; obtain ⟨k0, k1, k2, k3, k4, kp, c00, c01, c02, c03, c04⟩ := hW; simp [go_sem, execOp, Act.eval, c00, c01, c02, c03, c04]
  simp only [List.getElem_toArray, List.getElem_cons_zero, List.getElem_cons_succ, Act.put, List.setIfInBounds_toArray, List.set_cons_succ, List.set_cons_zero]
  refine wpAnyH_all (rs := [9]) (by kernel_rfl) (by simp) (fun i2 hi2 => ?_)
  obtain rfl : i2 = 9 := by simpa using hi2
  clear hi2
  refine wpOp_step rfl (fun K hK => ite_yes rfl ?_)
  simp only [List.getElem_toArray, List.getElem_cons_zero, List.getElem_cons_succ]
  go_simp
  refine (HLX.out _).mono ?_
  rintro r' W5 ⟨rfl, bq⟩
  have hB5 : Below w1.heap.size w1 W5 := hB4.trans (bq.mono hB4.size)
  go_simp
  refine hK _ _ ⟨HK.out _ (PK.of hB5 hBW), ?_⟩
  clear hK K hS bq hB4
  have hS := HK.out _ (PK.of hB5 hBW)
  try simp only [Act.put, List.setIfInBounds_toArray, List.set_cons_succ, List.set_cons_zero]
  refine wpAnyH_take (i := 10) (v := .bool false) rfl (by kernel_rfl) (by kernel_rfl) (by kernel_rfl) (fun _ _ _ h => h) (Or.inl ⟨by rfl, ?r⟩) hS ?_
  case r => intro W hW; obtain ⟨k0, k1, k2, k3, k4, kp, c00, c01, c02, c03, c04⟩ := hW; simp [go_sem, execOp, Act.eval, hl]
  simp only [List.getElem_toArray, List.getElem_cons_zero, List.getElem_cons_succ, Act.put, List.setIfInBounds_toArray, List.set_cons_succ, List.set_cons_zero]
  refine wpAnyH_take (i := 11) (v := .bool false) rfl (by kernel_rfl) (by kernel_rfl) (by kernel_rfl) (fun _ _ _ h => h) (Or.inl ⟨by rfl, ?r⟩) hS ?_
  case r => intro W hW; obtain ⟨k0, k1, k2, k3, k4, kp, c00, c01, c02, c03, c04⟩ := hW; simp [go_sem, execOp, Act.eval]
  simp only [List.getElem_toArray, List.getElem_cons_zero, List.getElem_cons_succ, Act.put, List.setIfInBounds_toArray, List.set_cons_succ, List.set_cons_zero]
  refine wpAnyH_take (i := 12) (v := .pointer (some ⟨w.heap.size + 1, 1, none⟩)) rfl (by kernel_rfl) (by kernel_rfl) (by kernel_rfl) (fun _ _ _ h => h) (Or.inl ⟨by rfl, ?r⟩) hS ?_
  case r => intro W hW; obtain ⟨k0, k1, k2, k3, k4, kp, c00, c01, c02, c03, c04⟩ := hW; simp [go_sem, execOp, Act.eval]
  simp only [List.getElem_toArray, List.getElem_cons_zero, List.getElem_cons_succ, Act.put, List.setIfInBounds_toArray, List.set_cons_succ, List.set_cons_zero]
  refine wpAnyH_take (i := 13) (v := .string t) rfl (by kernel_rfl) (by kernel_rfl) (by kernel_rfl) (fun _ _ _ h => h) (Or.inl ⟨by rfl, ?r⟩) hS ?_
  case r => intro W hW; obtain ⟨k0, k1, k2, k3, k4, kp, c00, c01, c02, c03, c04⟩ := hW; simp [go_sem, execOp, Act.eval, k1]
  simp only [List.getElem_toArray, List.getElem_cons_zero, List.getElem_cons_succ, Act.put, List.setIfInBounds_toArray, List.set_cons_succ, List.set_cons_zero]
  refine wpAnyH_take (i := 14) (v := .bool false) rfl (by kernel_rfl) (by kernel_rfl) (by kernel_rfl) (fun _ _ _ h => h) (Or.inl ⟨by rfl, ?r⟩) hS ?_
  case r => intro W hW; obtain ⟨k0, k1, k2, k3, k4, kp, c00, c01, c02, c03, c04⟩ := hW; simp [go_sem, execOp, Act.eval, ht1]
  simp only [List.getElem_toArray, List.getElem_cons_zero, List.getElem_cons_succ, Act.put, List.setIfInBounds_toArray, List.set_cons_succ, List.set_cons_zero]
  refine wpAnyH_take (i := 15) (v := .bool false) rfl (by kernel_rfl) (by kernel_rfl) (by kernel_rfl) (fun _ _ _ h => h) (Or.inl ⟨by rfl, ?r⟩) hS ?_
  case r => intro W hW; obtain ⟨k0, k1, k2, k3, k4, kp, c00, c01, c02, c03, c04⟩ := hW; simp [go_sem, execOp, Act.eval]
  simp only [List.getElem_toArray, List.getElem_cons_zero, List.getElem_cons_succ, Act.put, List.setIfInBounds_toArray, List.set_cons_succ, List.set_cons_zero]
  refine wpAnyH_take (i := 16) (v := undef) rfl (by kernel_rfl) (by kernel_rfl) (by kernel_rfl) (fun _ _ _ h => h) (Or.inr ⟨rfl, rfl⟩) hS ?_
  simp only [List.getElem_toArray, List.getElem_cons_zero, List.getElem_cons_succ, Act.put, List.setIfInBounds_toArray, List.set_cons_succ, List.set_cons_zero]
  refine wpAnyH_take (i := 17) (v := undef) rfl (by kernel_rfl) (by kernel_rfl) (by kernel_rfl) (fun _ _ _ h => h) (Or.inr ⟨rfl, rfl⟩) hS ?_
  simp only [List.getElem_toArray, List.getElem_cons_zero, List.getElem_cons_succ, Act.put, List.setIfInBounds_toArray, List.set_cons_succ, List.set_cons_zero]
  refine wpAnyH_take (i := 18) (v := undef) rfl (by kernel_rfl) (by kernel_rfl) (by kernel_rfl) (fun _ _ _ h => h) (Or.inr ⟨rfl, rfl⟩) hS ?_
  simp only [List.getElem_toArray, List.getElem_cons_zero, List.getElem_cons_succ, Act.put, List.setIfInBounds_toArray, List.set_cons_succ, List.set_cons_zero]
  refine wpAnyH_take (i := 19) (v := undef) rfl (by kernel_rfl) (by kernel_rfl) (by kernel_rfl) (fun _ _ _ h => h) (Or.inr ⟨rfl, rfl⟩) hS ?_
  simp only [List.getElem_toArray, List.getElem_cons_zero, List.getElem_cons_succ, Act.put, List.setIfInBounds_toArray, List.set_cons_succ, List.set_cons_zero]
  refine wpAnyH_take (i := 20) (v := undef) rfl (by kernel_rfl) (by kernel_rfl) (by kernel_rfl) (fun _ _ _ h => h) (Or.inr ⟨rfl, rfl⟩) hS ?_
  simp only [List.getElem_toArray, List.getElem_cons_zero, List.getElem_cons_succ, Act.put, List.setIfInBounds_toArray, List.set_cons_succ, List.set_cons_zero]
  refine wpAnyH_take (i := 21) (v := undef) rfl (by kernel_rfl) (by kernel_rfl) (by kernel_rfl) (fun _ _ _ h => h) (Or.inr ⟨rfl, rfl⟩) hS ?_
  simp only [List.getElem_toArray, List.getElem_cons_zero, List.getElem_cons_succ, Act.put, List.setIfInBounds_toArray, List.set_cons_succ, List.set_cons_zero]
  refine wpAnyH_take (i := 22) (v := .bool false) rfl (by kernel_rfl) (by kernel_rfl) (by kernel_rfl) (fun _ _ _ h => h) (Or.inl ⟨by rfl, ?r⟩) hS ?_
  case r => intro W hW; obtain ⟨k0, k1, k2, k3, k4, kp, c00, c01, c02, c03, c04⟩ := hW; simp [go_sem, execOp, Act.eval]
  simp only [List.getElem_toArray, List.getElem_cons_zero, List.getElem_cons_succ, Act.put, List.setIfInBounds_toArray, List.set_cons_succ, List.set_cons_zero]
  refine wpAnyH_take (i := 23) (v := .bool false) rfl (by kernel_rfl) (by kernel_rfl) (by kernel_rfl) (fun _ _ _ h => h) (Or.inl ⟨by rfl, ?r⟩) hS ?_
  case r => intro W hW; obtain ⟨k0, k1, k2, k3, k4, kp, c00, c01, c02, c03, c04⟩ := hW; simp [go_sem, execOp, Act.eval]
  simp only [List.getElem_toArray, List.getElem_cons_zero, List.getElem_cons_succ, Act.put, List.setIfInBounds_toArray, List.set_cons_succ, List.set_cons_zero]
  refine wpAnyH_all (rs := [24]) (by kernel_rfl) (by simp) (fun i2 hi2 => ?_)
  obtain rfl : i2 = 24 := by simpa using hi2
  clear hi2
  refine wpOp_step rfl (fun K hK => ite_yes rfl ?_)
  simp only [List.getElem_toArray, List.getElem_cons_zero, List.getElem_cons_succ]
  go_simp
  refine (HPX.out _ _ _ (Nat.le_trans (Nat.le_of_eq HJ1.out) hi) (HD1.out.1.below hB5) (Nat.le_trans hBW hB5.size) (In.pk (HL1.out.get 0 (by simp)).2 (PK.of (pb := pb) (base := base) hB5 hBW) hpb)).mono ?_
  rintro e w2 ⟨⟨u2, rfl⟩, v2, hP2, hi2, hq2⟩
  have hk2 : PK pb base w1 w2 := (PK.of hB5 hBW).trans hq2
  clear hq2
  go_simp
  refine hK _ _ ⟨HK.out _ hk2, ?_⟩
  clear hK K hS hB5
  refine wpAnyH_done (by kernel_rfl) ?_ _
  refine NoPanic.normal ?_
  try simp only [Act.put, List.setIfInBounds_toArray, List.set_cons_succ, List.set_cons_zero]
  have HJ2 : Hid ((partG false y0.kind g0 (putS [t] s)).ind = s.ind) := hi2.trans HJ1.out
  have HE : Hid (_ ∧ PK pb base w w2) := ⟨hP2, HD1.out.2.1.trans hk2⟩
  clear hP2 hk2 hBW HK
  go_wp2_with fail
  go_end0
  exact ⟨⟨_, rfl⟩, v2, HE.out.1, HJ2.out, HE.out.2⟩
end Go.Proofs.YthbnegggohegkaaGreatDoor
