/-
  Calls.
-/
import Derived.Test.YthbnegggohegkaaGreatDoorWgJ
namespace Go.Proofs.YthbnegggohegkaaGreatDoor
open Go.RowKit
variable {pb base L : Nat} {s : PS} {v : Value} {w w' : World}
set_option maxRecDepth 100000 in
set_option maxHeartbeats 4000000 in
theorem post_48an  {t : ByteArray} {n : Int} {a : Int} {p : Option Addr} {c : Nat} {y0 : MT} {ks : List MT}  {g0 g1 : PS → PS} (h0 : Wf 132 pb base L y0 g0) (h1 : ∀ p', Wc 70 #[.pointer (some ⟨pb, 0, none⟩), .slice p' ks.length (c - 1), .func (.func 71) #[.pointer (some ⟨pb, 0, none⟩)] #[]] pb base L (Kd pb p' ks) g1) (hl : levK y0 < 7) (hc1 : c ≠ 1) (hpb : pb < base) : Wf 148 pb base L (.node 48 t n a p c (y0 :: ks)) (fun s => (brG ⟨#[40]⟩ ⟨#[41]⟩ g1 (partG true y0.kind g0 s))) := by
  intro s v w hi hP hB hin
  have hkk := hin.kidsL
  simp only [MT.kids_node, MT.ptr_node] at hkk
  rcases hkk with hkk | ⟨b, o, rfl, hbp, hL⟩
  · cases hkk
  have Hh1 : Hid _ := h1
  clear h1
  have hb0 : Below w.heap.size w (((w.alloc (.cells #[.pointer (some ⟨pb, 0, none⟩)] 114)).alloc (.cells #[.int .i64 48, .string t, .int .i64 n, .int .i64 a, .slice (some ⟨b, o, none⟩) (ks.length + 1) c] 24)).alloc (.cells #[.int .i64 y0.kind, .string y0.text, .int .i64 y0.num, .int .i64 y0.at_, .slice y0.ptr y0.kids.length y0.cap] 24)) := (below2 _ _ _).alloc (by simp only [World.size_alloc]; omega) _
  have hP0 := hP.below hb0
  have hK0 : PK pb base w _ := PK.of (pb := pb) hb0 hB
  have HI0 : Hid _ := In.pk hin hK0 hpb
  have pd0 := (hb0x_ w (.cells #[.pointer (some ⟨pb, 0, none⟩)] 114) (.cells #[.int .i64 48, .string t, .int .i64 n, .int .i64 a, .slice (some ⟨b, o, none⟩) (ks.length + 1) c] 24) (.cells #[.int .i64 y0.kind, .string y0.text, .int .i64 y0.num, .int .i64 y0.at_, .slice y0.ptr y0.kids.length y0.cap] 24))
  have nd0 := (nb0x_ w (.cells #[.pointer (some ⟨pb, 0, none⟩)] 114) (.cells #[.int .i64 48, .string t, .int .i64 n, .int .i64 a, .slice (some ⟨b, o, none⟩) (ks.length + 1) c] 24) (.cells #[.int .i64 y0.kind, .string y0.text, .int .i64 y0.num, .int .i64 y0.at_, .slice y0.ptr y0.kids.length y0.cap] 24))
  have HL0 : Hid (MT.InL pb _ b o (y0 :: ks)) := MT.InL.below (hb0.mono (by omega)) b o hbp _ hL
  have hz0 := lt_of nd0
  have HD0 : Hid (_ ∧ _ ∧ _ ∧ _) := ⟨hP0, hK0, nd0, pd0⟩
  have hbz : b < w.heap.size := by omega
  have i90 : (0 : Int) < (ks.length : Int) + 1 := by omega
  have XD0 : Hid ((((w.alloc (.cells #[.pointer (some ⟨pb, 0, none⟩)] 114)).alloc (.cells #[.int .i64 48, .string t, .int .i64 n, .int .i64 a, .slice (some ⟨b, o, none⟩) (ks.length + 1) c] 24)).alloc (.cells #[.int .i64 y0.kind, .string y0.text, .int .i64 y0.num, .int .i64 y0.at_, .slice y0.ptr y0.kids.length y0.cap] 24)).heap[w.heap.size + 1 + 1]? = some (.cells #[.int .i64 y0.kind, .string y0.text, .int .i64 y0.num, .int .i64 y0.at_, .slice y0.ptr y0.kids.length y0.cap] 24 (0, 0))) := by have := heap_alloc_new ((w.alloc (.cells #[.pointer (some ⟨pb, 0, none⟩)] 114)).alloc (.cells #[.int .i64 48, .string t, .int .i64 n, .int .i64 a, .slice (some ⟨b, o, none⟩) (ks.length + 1) c] 24)) (.cells #[.int .i64 y0.kind, .string y0.text, .int .i64 y0.num, .int .i64 y0.at_, .slice y0.ptr y0.kids.length y0.cap] 24); simp only [World.size_alloc] at this; exact this
  obtain ⟨c00, c01, c02, c03, c04⟩ : MT.CellsAt w b o y0 := (hL.get 0 (by simp)).1
  clear hP hin hb0 hP0 hK0 nd0 pd0 hL
  rw [nvt1]
  go_enter Tryz.func148, Tryz.ntmps148
  go_wp2_with fail
  have HLX : Hid _ := level_all y0
  have HPX : Hid _ := part_all true hpb h0
  clear h0
  obtain ⟨w0, hw0⟩ : ∃ W, W = (((w.alloc (.cells #[.pointer (some ⟨pb, 0, none⟩)] 114)).alloc (.cells #[.int .i64 48, .string t, .int .i64 n, .int .i64 a, .slice (some ⟨b, o, none⟩) (ks.length + 1) c] 24)).alloc (.cells #[.int .i64 y0.kind, .string y0.text, .int .i64 y0.num, .int .i64 y0.at_, .slice y0.ptr y0.kids.length y0.cap] 24)) := ⟨_, rfl⟩
  rw [← hw0] at HD0 HI0 hz0 HL0 XD0 ⊢
  clear hw0
  have hbz0 : b < w0.heap.size := by omega
  clear c00 c01 c02 c03 c04
  have HK : Hid (∀ W, PK pb base w0 W → (W.cell? ⟨w.heap.size + 1, 0, none⟩ = some (.int .i64 48) ∧ W.cell? ⟨w.heap.size + 1, 1, none⟩ = some (.string t) ∧ W.cell? ⟨w.heap.size + 1, 2, none⟩ = some (.int .i64 n) ∧ W.cell? ⟨w.heap.size + 1, 3, none⟩ = some (.int .i64 a) ∧ W.cell? ⟨w.heap.size + 1, 4, none⟩ = some (.slice (some ⟨b, o, none⟩) (ks.length + 1) c) ∧ W.cell? ⟨w.heap.size, 0, none⟩ = some (.pointer (some ⟨pb, 0, none⟩)) ∧ W.cell? ⟨w.heap.size + 1 + 1, 0, none⟩ = some (.int .i64 y0.kind) ∧ W.cell? ⟨w.heap.size + 1 + 1, 1, none⟩ = some (.string y0.text) ∧ W.cell? ⟨w.heap.size + 1 + 1, 2, none⟩ = some (.int .i64 y0.num) ∧ W.cell? ⟨w.heap.size + 1 + 1, 3, none⟩ = some (.int .i64 y0.at_) ∧ W.cell? ⟨w.heap.size + 1 + 1, 4, none⟩ = some (.slice y0.ptr y0.kids.length y0.cap))) := fun W hW => by
    have nd := hW.high (w.heap.size + 1) _ _ _ (by omega) HD0.out.2.2.1 (by decide)
    have pd := hW.high w.heap.size _ _ _ (by omega) HD0.out.2.2.2 (by decide)
    have hLW := MT.InL.below (hW.below (by omega) (Nat.le_refl _)) b o hbp _ HL0.out
    have xd := hW.high (w.heap.size + 1 + 1) _ _ _ (by omega) XD0.out (by decide)
    obtain ⟨k0, k1, k2, k3, k4⟩ := cells5 nd
    exact ⟨k0, k1, k2, k3, k4, cells1 pd, (cells5 xd).1, (cells5 xd).2.1, (cells5 xd).2.2.1, (cells5 xd).2.2.2.1, (cells5 xd).2.2.2.2⟩
  have hBW : base ≤ w0.heap.size := by omega
  obtain ⟨k0, k1, k2, k3, k4, kp, x0, x1, x2, x3, x4⟩ := HK.out w0 (PK.refl _ _ _)
  refine wp_region_noPanic ?_
  refine wp_region_held (S := fun W => W.cell? ⟨w.heap.size + 1, 0, none⟩ = some (.int .i64 48) ∧ W.cell? ⟨w.heap.size + 1, 1, none⟩ = some (.string t) ∧ W.cell? ⟨w.heap.size + 1, 2, none⟩ = some (.int .i64 n) ∧ W.cell? ⟨w.heap.size + 1, 3, none⟩ = some (.int .i64 a) ∧ W.cell? ⟨w.heap.size + 1, 4, none⟩ = some (.slice (some ⟨b, o, none⟩) (ks.length + 1) c) ∧ W.cell? ⟨w.heap.size, 0, none⟩ = some (.pointer (some ⟨pb, 0, none⟩)) ∧ W.cell? ⟨w.heap.size + 1 + 1, 0, none⟩ = some (.int .i64 y0.kind) ∧ W.cell? ⟨w.heap.size + 1 + 1, 1, none⟩ = some (.string y0.text) ∧ W.cell? ⟨w.heap.size + 1 + 1, 2, none⟩ = some (.int .i64 y0.num) ∧ W.cell? ⟨w.heap.size + 1 + 1, 3, none⟩ = some (.int .i64 y0.at_) ∧ W.cell? ⟨w.heap.size + 1 + 1, 4, none⟩ = some (.slice y0.ptr y0.kids.length y0.cap)) (by kernel_rfl) ?_
  obtain ⟨W4, hW4⟩ : ∃ W4, W4 = (w0).drew := ⟨_, rfl⟩
  have e4 : ({ w0 with drawn := (w0).drawn + 1 } : World) = W4 := hW4.symm
  rw [e4]
  have hB4 : Below w0.heap.size w0 W4 := by rw [hW4]; exact (Below.refl _ _).drew
  have hS := HK.out _ (PK.of hB4 hBW)
  clear e4 hW4 k0 k1 k2 k3 k4 kp x0 x1 x2 x3 x4
  refine wpAnyH_take (i := 0) (v := .pointer (some ⟨pb, 0, none⟩)) rfl (by kernel_rfl) (by kernel_rfl) (by kernel_rfl) (fun _ _ _ h => h) (Or.inl ⟨by rfl, ?r⟩) hS ?_
  case r => intro W hW; obtain ⟨k0, k1, k2, k3, k4, kp, x0, x1, x2, x3, x4⟩ := hW; simp [go_sem, execOp, Act.eval, kp]
  simp only [List.getElem_toArray, List.getElem_cons_zero, Act.put, List.setIfInBounds_toArray, List.set_cons_succ, List.set_cons_zero]
  refine wpAnyH_take (i := 1) (v := .agg #[.int .i64 y0.kind, .string y0.text, .int .i64 y0.num, .int .i64 y0.at_, .slice y0.ptr y0.kids.length y0.cap]) rfl (by kernel_rfl) (by kernel_rfl) (by kernel_rfl) (fun _ _ _ h => h) (Or.inl ⟨by rfl, ?r⟩) hS ?_
  case r => intro W hW; obtain ⟨k0, k1, k2, k3, k4, kp, x0, x1, x2, x3, x4⟩ := hW; simp [go_sem, execOp, Act.eval, x0, x1, x2, x3, x4]
  simp only [List.getElem_toArray, List.getElem_cons_zero, List.getElem_cons_succ, Act.put, List.setIfInBounds_toArray, List.set_cons_succ, List.set_cons_zero]
  refine wpAnyH_take (i := 2) (v := .agg #[.int .i64 y0.kind, .string y0.text, .int .i64 y0.num, .int .i64 y0.at_, .slice y0.ptr y0.kids.length y0.cap]) rfl (by kernel_rfl) (by kernel_rfl) (by kernel_rfl) (fun _ _ _ h => h) (Or.inl ⟨by rfl, ?r⟩) hS ?_
  case r => intro W hW; obtain ⟨k0, k1, k2, k3, k4, kp, x0, x1, x2, x3, x4⟩ := hW; simp [go_sem, execOp, Act.eval, x0, x1, x2, x3, x4]
  simp only [List.getElem_toArray, List.getElem_cons_zero, List.getElem_cons_succ, Act.put, List.setIfInBounds_toArray, List.set_cons_succ, List.set_cons_zero]
  refine wpAnyH_all (rs := [3]) (by kernel_rfl) (by simp) (fun i2 hi2 => ?_)
  obtain rfl : i2 = 3 := by simpa using hi2
  clear hi2
  refine wpOp_step rfl (fun K hK => ite_yes rfl ?_)
  simp only [List.getElem_toArray, List.getElem_cons_zero, List.getElem_cons_succ]
  go_simp
  refine (HLX.out _).mono ?_
  rintro r' W5 ⟨rfl, bq⟩
  have hB5 : Below w0.heap.size w0 W5 := hB4.trans (bq.mono hB4.size)
  go_simp
  refine hK _ _ ⟨HK.out _ (PK.of hB5 hBW), ?_⟩
  clear hK K hS bq hB4
  have hS := HK.out _ (PK.of hB5 hBW)
  try simp only [Act.put, List.setIfInBounds_toArray, List.set_cons_succ, List.set_cons_zero]
  refine wpAnyH_take (i := 4) (v := .bool true) rfl (by kernel_rfl) (by kernel_rfl) (by kernel_rfl) (fun _ _ _ h => h) (Or.inl ⟨by rfl, ?r⟩) hS ?_
  case r => intro W hW; obtain ⟨k0, k1, k2, k3, k4, kp, x0, x1, x2, x3, x4⟩ := hW; simp [go_sem, execOp, Act.eval, hl]
  simp only [List.getElem_toArray, List.getElem_cons_zero, List.getElem_cons_succ, Act.put, List.setIfInBounds_toArray, List.set_cons_succ, List.set_cons_zero]
  refine wpAnyH_take (i := 5) (v := .bool true) rfl (by kernel_rfl) (by kernel_rfl) (by kernel_rfl) (fun _ _ _ h => h) (Or.inl ⟨by rfl, ?r⟩) hS ?_
  case r => intro W hW; obtain ⟨k0, k1, k2, k3, k4, kp, x0, x1, x2, x3, x4⟩ := hW; simp [go_sem, execOp, Act.eval]
  simp only [List.getElem_toArray, List.getElem_cons_zero, List.getElem_cons_succ, Act.put, List.setIfInBounds_toArray, List.set_cons_succ, List.set_cons_zero]
  refine wpAnyH_take (i := 6) (v := undef) rfl (by kernel_rfl) (by kernel_rfl) (by kernel_rfl) (fun _ _ _ h => h) (Or.inr ⟨rfl, rfl⟩) hS ?_
  simp only [List.getElem_toArray, List.getElem_cons_zero, List.getElem_cons_succ, Act.put, List.setIfInBounds_toArray, List.set_cons_succ, List.set_cons_zero]
  refine wpAnyH_take (i := 7) (v := undef) rfl (by kernel_rfl) (by kernel_rfl) (by kernel_rfl) (fun _ _ _ h => h) (Or.inr ⟨rfl, rfl⟩) hS ?_
  simp only [List.getElem_toArray, List.getElem_cons_zero, List.getElem_cons_succ, Act.put, List.setIfInBounds_toArray, List.set_cons_succ, List.set_cons_zero]
  refine wpAnyH_take (i := 8) (v := undef) rfl (by kernel_rfl) (by kernel_rfl) (by kernel_rfl) (fun _ _ _ h => h) (Or.inr ⟨rfl, rfl⟩) hS ?_
  simp only [List.getElem_toArray, List.getElem_cons_zero, List.getElem_cons_succ, Act.put, List.setIfInBounds_toArray, List.set_cons_succ, List.set_cons_zero]
  refine wpAnyH_take (i := 9) (v := undef) rfl (by kernel_rfl) (by kernel_rfl) (by kernel_rfl) (fun _ _ _ h => h) (Or.inr ⟨rfl, rfl⟩) hS ?_
  simp only [List.getElem_toArray, List.getElem_cons_zero, List.getElem_cons_succ, Act.put, List.setIfInBounds_toArray, List.set_cons_succ, List.set_cons_zero]
  refine wpAnyH_take (i := 10) (v := undef) rfl (by kernel_rfl) (by kernel_rfl) (by kernel_rfl) (fun _ _ _ h => h) (Or.inr ⟨rfl, rfl⟩) hS ?_
  simp only [List.getElem_toArray, List.getElem_cons_zero, List.getElem_cons_succ, Act.put, List.setIfInBounds_toArray, List.set_cons_succ, List.set_cons_zero]
  refine wpAnyH_take (i := 11) (v := undef) rfl (by kernel_rfl) (by kernel_rfl) (by kernel_rfl) (fun _ _ _ h => h) (Or.inr ⟨rfl, rfl⟩) hS ?_
  simp only [List.getElem_toArray, List.getElem_cons_zero, List.getElem_cons_succ, Act.put, List.setIfInBounds_toArray, List.set_cons_succ, List.set_cons_zero]
  refine wpAnyH_take (i := 12) (v := undef) rfl (by kernel_rfl) (by kernel_rfl) (by kernel_rfl) (fun _ _ _ h => h) (Or.inr ⟨rfl, rfl⟩) hS ?_
  simp only [List.getElem_toArray, List.getElem_cons_zero, List.getElem_cons_succ, Act.put, List.setIfInBounds_toArray, List.set_cons_succ, List.set_cons_zero]
  refine wpAnyH_take (i := 13) (v := undef) rfl (by kernel_rfl) (by kernel_rfl) (by kernel_rfl) (fun _ _ _ h => h) (Or.inr ⟨rfl, rfl⟩) hS ?_
  simp only [List.getElem_toArray, List.getElem_cons_zero, List.getElem_cons_succ, Act.put, List.setIfInBounds_toArray, List.set_cons_succ, List.set_cons_zero]
  refine wpAnyH_take (i := 14) (v := .bool true) rfl (by kernel_rfl) (by kernel_rfl) (by kernel_rfl) (fun _ _ _ h => h) (Or.inl ⟨by rfl, ?r⟩) hS ?_
  case r => intro W hW; obtain ⟨k0, k1, k2, k3, k4, kp, x0, x1, x2, x3, x4⟩ := hW; simp [go_sem, execOp, Act.eval]
  simp only [List.getElem_toArray, List.getElem_cons_zero, List.getElem_cons_succ, Act.put, List.setIfInBounds_toArray, List.set_cons_succ, List.set_cons_zero]
  refine wpAnyH_all (rs := [15]) (by kernel_rfl) (by simp) (fun i2 hi2 => ?_)
  obtain rfl : i2 = 15 := by simpa using hi2
  clear hi2
  refine wpOp_step rfl (fun K hK => ite_yes rfl ?_)
  simp only [List.getElem_toArray, List.getElem_cons_zero, List.getElem_cons_succ]
  go_simp
  refine (HPX.out _ _ _ (Nat.le_trans (Nat.le_of_eq (Eq.refl s.ind)) hi) (HD0.out.1.below hB5) (Nat.le_trans hBW hB5.size) (In.pk (HL0.out.get 0 (by simp)).2 (PK.of (pb := pb) (base := base) hB5 hBW) hpb)).mono ?_
  rintro e w1 ⟨⟨u1, rfl⟩, v1, hP1, hi1, hq1⟩
  have hk1 : PK pb base w0 w1 := (PK.of hB5 hBW).trans hq1
  clear hq1
  go_simp
  refine hK _ _ ⟨HK.out _ hk1, ?_⟩
  clear hK K hS hB5
  refine wpAnyH_done (by kernel_rfl) ?_ _
  refine NoPanic.normal ?_
  try simp only [Act.put, List.setIfInBounds_toArray, List.set_cons_succ, List.set_cons_zero]
  have HJ1 : Hid ((partG true y0.kind g0 s).ind = s.ind) := hi1.trans (Eq.refl s.ind)
  have hK1 : PK pb base w w1 := HD0.out.2.1.trans hk1
  have nd1 := hk1.high (w.heap.size + 1) _ _ _ (by omega) HD0.out.2.2.1 (by decide)
  have pd1 := hk1.high w.heap.size _ _ _ (by omega) HD0.out.2.2.2 (by decide)
  have HI1 : Hid _ := In.pk HI0.out hk1 hpb
  have HL1 : Hid (MT.InL pb w1 b o (y0 :: ks)) := MT.InL.below (hk1.below (by omega) (Nat.le_refl _)) b o hbp _ HL0.out
  have hz1 := lt_of nd1
  have HD1 : Hid (_ ∧ _ ∧ _ ∧ _) := ⟨hP1, hK1, nd1, pd1⟩
  clear hBW HK
  obtain ⟨k0, k1, k2, k3, k4⟩ := cells5 nd1
  have kp := cells1 pd1
  have hbz1 : b < w1.heap.size := by omega
  clear hP1 hK1 nd1 hk1 HD0 HI0 pd1 HL0
  go_wp2_with fail
  refine ((brack_any (o := ⟨#[40]⟩) (c := ⟨#[41]⟩) hpb (by decide) (by decide) (c167n (t := t) (n := n) (a := a) (p := some ⟨b, o, none⟩) (y0 := y0) (c := c) (ks := ks) hpb ⟨by omega, by omega⟩ hc1 Hh1.out) (fun _ _ h1 h2 => h1.pk hpb (by omega) (by omega) h2) Tryz.call167) _ _ _ (Nat.le_trans (Nat.le_of_eq HJ1.out) hi) HD1.out.1 (Nat.le_trans hB HD1.out.2.1.size) ⟨HD1.out.2.2.2, HD1.out.2.2.1, HI1.out⟩).mono ?_
  rintro e w2 ⟨⟨u2, rfl⟩, v2, hP2, hi2, hk2⟩
  have HJ2 : Hid ((brG ⟨#[40]⟩ ⟨#[41]⟩ g1 (partG true y0.kind g0 s)).ind = s.ind) := hi2.trans HJ1.out
  clear hi2
  have HE : Hid (_ ∧ PK pb base w w2) := ⟨hP2, HD1.out.2.1.trans hk2⟩
  clear hP2 hk2 k0 k1 k2 k3 k4 kp
  go_wp2_with fail
  go_end0
  exact ⟨⟨_, rfl⟩, v2, HE.out.1, HJ2.out, HE.out.2⟩
set_option maxRecDepth 100000 in
set_option maxHeartbeats 4000000 in
theorem post_48bn  {t : ByteArray} {n : Int} {a : Int} {p : Option Addr} {c : Nat} {y0 : MT} {ks : List MT}  {g0 g1 : PS → PS} (h0 : Wf 132 pb base L y0 g0) (h1 : ∀ p', Wc 70 #[.pointer (some ⟨pb, 0, none⟩), .slice p' ks.length (c - 1), .func (.func 71) #[.pointer (some ⟨pb, 0, none⟩)] #[]] pb base L (Kd pb p' ks) g1) (hl : ¬ levK y0 < 7) (hk : y0.kind = 14) (hc1 : c ≠ 1) (hpb : pb < base) : Wf 148 pb base L (.node 48 t n a p c (y0 :: ks)) (fun s => (brG ⟨#[40]⟩ ⟨#[41]⟩ g1 (partG (y0.text.toList == [110, 105, 108]) y0.kind g0 s))) := by
  intro s v w hi hP hB hin
  have hkk := hin.kidsL
  simp only [MT.kids_node, MT.ptr_node] at hkk
  rcases hkk with hkk | ⟨b, o, rfl, hbp, hL⟩
  · cases hkk
  have Hh1 : Hid _ := h1
  clear h1
  have Hhk : Hid _ := hk
  clear hk
  have hb0 : Below w.heap.size w (((w.alloc (.cells #[.pointer (some ⟨pb, 0, none⟩)] 114)).alloc (.cells #[.int .i64 48, .string t, .int .i64 n, .int .i64 a, .slice (some ⟨b, o, none⟩) (ks.length + 1) c] 24)).alloc (.cells #[.int .i64 y0.kind, .string y0.text, .int .i64 y0.num, .int .i64 y0.at_, .slice y0.ptr y0.kids.length y0.cap] 24)) := (below2 _ _ _).alloc (by simp only [World.size_alloc]; omega) _
  have hP0 := hP.below hb0
  have hK0 : PK pb base w _ := PK.of (pb := pb) hb0 hB
  have HI0 : Hid _ := In.pk hin hK0 hpb
  have pd0 := (hb0x_ w (.cells #[.pointer (some ⟨pb, 0, none⟩)] 114) (.cells #[.int .i64 48, .string t, .int .i64 n, .int .i64 a, .slice (some ⟨b, o, none⟩) (ks.length + 1) c] 24) (.cells #[.int .i64 y0.kind, .string y0.text, .int .i64 y0.num, .int .i64 y0.at_, .slice y0.ptr y0.kids.length y0.cap] 24))
  have nd0 := (nb0x_ w (.cells #[.pointer (some ⟨pb, 0, none⟩)] 114) (.cells #[.int .i64 48, .string t, .int .i64 n, .int .i64 a, .slice (some ⟨b, o, none⟩) (ks.length + 1) c] 24) (.cells #[.int .i64 y0.kind, .string y0.text, .int .i64 y0.num, .int .i64 y0.at_, .slice y0.ptr y0.kids.length y0.cap] 24))
  have HL0 : Hid (MT.InL pb _ b o (y0 :: ks)) := MT.InL.below (hb0.mono (by omega)) b o hbp _ hL
  have hz0 := lt_of nd0
  have HD0 : Hid (_ ∧ _ ∧ _ ∧ _) := ⟨hP0, hK0, nd0, pd0⟩
  have hbz : b < w.heap.size := by omega
  have i90 : (0 : Int) < (ks.length : Int) + 1 := by omega
  have XD0 : Hid ((((w.alloc (.cells #[.pointer (some ⟨pb, 0, none⟩)] 114)).alloc (.cells #[.int .i64 48, .string t, .int .i64 n, .int .i64 a, .slice (some ⟨b, o, none⟩) (ks.length + 1) c] 24)).alloc (.cells #[.int .i64 y0.kind, .string y0.text, .int .i64 y0.num, .int .i64 y0.at_, .slice y0.ptr y0.kids.length y0.cap] 24)).heap[w.heap.size + 1 + 1]? = some (.cells #[.int .i64 y0.kind, .string y0.text, .int .i64 y0.num, .int .i64 y0.at_, .slice y0.ptr y0.kids.length y0.cap] 24 (0, 0))) := by have := heap_alloc_new ((w.alloc (.cells #[.pointer (some ⟨pb, 0, none⟩)] 114)).alloc (.cells #[.int .i64 48, .string t, .int .i64 n, .int .i64 a, .slice (some ⟨b, o, none⟩) (ks.length + 1) c] 24)) (.cells #[.int .i64 y0.kind, .string y0.text, .int .i64 y0.num, .int .i64 y0.at_, .slice y0.ptr y0.kids.length y0.cap] 24); simp only [World.size_alloc] at this; exact this
  obtain ⟨c00, c01, c02, c03, c04⟩ : MT.CellsAt w b o y0 := (hL.get 0 (by simp)).1
  clear hP hin hb0 hP0 hK0 nd0 pd0 hL
  rw [nvt1]
  go_enter Tryz.func148, Tryz.ntmps148
  go_wp2_with fail
  have HLX : Hid _ := level_all y0
  have HPX : Hid _ := part_all (y0.text.toList == [110, 105, 108]) hpb h0
  clear h0
  obtain ⟨w0, hw0⟩ : ∃ W, W = (((w.alloc (.cells #[.pointer (some ⟨pb, 0, none⟩)] 114)).alloc (.cells #[.int .i64 48, .string t, .int .i64 n, .int .i64 a, .slice (some ⟨b, o, none⟩) (ks.length + 1) c] 24)).alloc (.cells #[.int .i64 y0.kind, .string y0.text, .int .i64 y0.num, .int .i64 y0.at_, .slice y0.ptr y0.kids.length y0.cap] 24)) := ⟨_, rfl⟩
  rw [← hw0] at HD0 HI0 hz0 HL0 XD0 ⊢
  clear hw0
  have hbz0 : b < w0.heap.size := by omega
  clear c00 c01 c02 c03 c04
  have HK : Hid (∀ W, PK pb base w0 W → (W.cell? ⟨w.heap.size + 1, 0, none⟩ = some (.int .i64 48) ∧ W.cell? ⟨w.heap.size + 1, 1, none⟩ = some (.string t) ∧ W.cell? ⟨w.heap.size + 1, 2, none⟩ = some (.int .i64 n) ∧ W.cell? ⟨w.heap.size + 1, 3, none⟩ = some (.int .i64 a) ∧ W.cell? ⟨w.heap.size + 1, 4, none⟩ = some (.slice (some ⟨b, o, none⟩) (ks.length + 1) c) ∧ W.cell? ⟨w.heap.size, 0, none⟩ = some (.pointer (some ⟨pb, 0, none⟩)) ∧ W.cell? ⟨w.heap.size + 1 + 1, 0, none⟩ = some (.int .i64 y0.kind) ∧ W.cell? ⟨w.heap.size + 1 + 1, 1, none⟩ = some (.string y0.text) ∧ W.cell? ⟨w.heap.size + 1 + 1, 2, none⟩ = some (.int .i64 y0.num) ∧ W.cell? ⟨w.heap.size + 1 + 1, 3, none⟩ = some (.int .i64 y0.at_) ∧ W.cell? ⟨w.heap.size + 1 + 1, 4, none⟩ = some (.slice y0.ptr y0.kids.length y0.cap))) := fun W hW => by
    have nd := hW.high (w.heap.size + 1) _ _ _ (by omega) HD0.out.2.2.1 (by decide)
    have pd := hW.high w.heap.size _ _ _ (by omega) HD0.out.2.2.2 (by decide)
    have hLW := MT.InL.below (hW.below (by omega) (Nat.le_refl _)) b o hbp _ HL0.out
    have xd := hW.high (w.heap.size + 1 + 1) _ _ _ (by omega) XD0.out (by decide)
    obtain ⟨k0, k1, k2, k3, k4⟩ := cells5 nd
    exact ⟨k0, k1, k2, k3, k4, cells1 pd, (cells5 xd).1, (cells5 xd).2.1, (cells5 xd).2.2.1, (cells5 xd).2.2.2.1, (cells5 xd).2.2.2.2⟩
  have hBW : base ≤ w0.heap.size := by omega
  obtain ⟨k0, k1, k2, k3, k4, kp, x0, x1, x2, x3, x4⟩ := HK.out w0 (PK.refl _ _ _)
  refine wp_region_noPanic ?_
  refine wp_region_held (S := fun W => W.cell? ⟨w.heap.size + 1, 0, none⟩ = some (.int .i64 48) ∧ W.cell? ⟨w.heap.size + 1, 1, none⟩ = some (.string t) ∧ W.cell? ⟨w.heap.size + 1, 2, none⟩ = some (.int .i64 n) ∧ W.cell? ⟨w.heap.size + 1, 3, none⟩ = some (.int .i64 a) ∧ W.cell? ⟨w.heap.size + 1, 4, none⟩ = some (.slice (some ⟨b, o, none⟩) (ks.length + 1) c) ∧ W.cell? ⟨w.heap.size, 0, none⟩ = some (.pointer (some ⟨pb, 0, none⟩)) ∧ W.cell? ⟨w.heap.size + 1 + 1, 0, none⟩ = some (.int .i64 y0.kind) ∧ W.cell? ⟨w.heap.size + 1 + 1, 1, none⟩ = some (.string y0.text) ∧ W.cell? ⟨w.heap.size + 1 + 1, 2, none⟩ = some (.int .i64 y0.num) ∧ W.cell? ⟨w.heap.size + 1 + 1, 3, none⟩ = some (.int .i64 y0.at_) ∧ W.cell? ⟨w.heap.size + 1 + 1, 4, none⟩ = some (.slice y0.ptr y0.kids.length y0.cap)) (by kernel_rfl) ?_
  obtain ⟨W4, hW4⟩ : ∃ W4, W4 = (w0).drew := ⟨_, rfl⟩
  have e4 : ({ w0 with drawn := (w0).drawn + 1 } : World) = W4 := hW4.symm
  rw [e4]
  have hB4 : Below w0.heap.size w0 W4 := by rw [hW4]; exact (Below.refl _ _).drew
  have hS := HK.out _ (PK.of hB4 hBW)
  clear e4 hW4 k0 k1 k2 k3 k4 kp x0 x1 x2 x3 x4
  refine wpAnyH_take (i := 0) (v := .pointer (some ⟨pb, 0, none⟩)) rfl (by kernel_rfl) (by kernel_rfl) (by kernel_rfl) (fun _ _ _ h => h) (Or.inl ⟨by rfl, ?r⟩) hS ?_
  case r => intro W hW; obtain ⟨k0, k1, k2, k3, k4, kp, x0, x1, x2, x3, x4⟩ := hW; simp [go_sem, execOp, Act.eval, kp]
  simp only [List.getElem_toArray, List.getElem_cons_zero, Act.put, List.setIfInBounds_toArray, List.set_cons_succ, List.set_cons_zero]
  refine wpAnyH_take (i := 1) (v := .agg #[.int .i64 y0.kind, .string y0.text, .int .i64 y0.num, .int .i64 y0.at_, .slice y0.ptr y0.kids.length y0.cap]) rfl (by kernel_rfl) (by kernel_rfl) (by kernel_rfl) (fun _ _ _ h => h) (Or.inl ⟨by rfl, ?r⟩) hS ?_
  case r => intro W hW; obtain ⟨k0, k1, k2, k3, k4, kp, x0, x1, x2, x3, x4⟩ := hW; simp [go_sem, execOp, Act.eval, x0, x1, x2, x3, x4]
  simp only [List.getElem_toArray, List.getElem_cons_zero, List.getElem_cons_succ, Act.put, List.setIfInBounds_toArray, List.set_cons_succ, List.set_cons_zero]
  refine wpAnyH_take (i := 2) (v := .agg #[.int .i64 y0.kind, .string y0.text, .int .i64 y0.num, .int .i64 y0.at_, .slice y0.ptr y0.kids.length y0.cap]) rfl (by kernel_rfl) (by kernel_rfl) (by kernel_rfl) (fun _ _ _ h => h) (Or.inl ⟨by rfl, ?r⟩) hS ?_
  case r => intro W hW; obtain ⟨k0, k1, k2, k3, k4, kp, x0, x1, x2, x3, x4⟩ := hW; simp [go_sem, execOp, Act.eval, x0, x1, x2, x3, x4]
  simp only [List.getElem_toArray, List.getElem_cons_zero, List.getElem_cons_succ, Act.put, List.setIfInBounds_toArray, List.set_cons_succ, List.set_cons_zero]
  refine wpAnyH_all (rs := [3]) (by kernel_rfl) (by simp) (fun i2 hi2 => ?_)
  obtain rfl : i2 = 3 := by simpa using hi2
  clear hi2
  refine wpOp_step rfl (fun K hK => ite_yes rfl ?_)
  simp only [List.getElem_toArray, List.getElem_cons_zero, List.getElem_cons_succ]
  go_simp
  refine (HLX.out _).mono ?_
  rintro r' W5 ⟨rfl, bq⟩
  have hB5 : Below w0.heap.size w0 W5 := hB4.trans (bq.mono hB4.size)
  go_simp
  refine hK _ _ ⟨HK.out _ (PK.of hB5 hBW), ?_⟩
  clear hK K hS bq hB4
  have hS := HK.out _ (PK.of hB5 hBW)
  try simp only [Act.put, List.setIfInBounds_toArray, List.set_cons_succ, List.set_cons_zero]
  refine wpAnyH_take (i := 4) (v := .bool false) rfl (by kernel_rfl) (by kernel_rfl) (by kernel_rfl) (fun _ _ _ h => h) (Or.inl ⟨by rfl, ?r⟩) hS ?_
  case r => intro W hW; obtain ⟨k0, k1, k2, k3, k4, kp, x0, x1, x2, x3, x4⟩ := hW; simp [go_sem, execOp, Act.eval, hl]
  simp only [List.getElem_toArray, List.getElem_cons_zero, List.getElem_cons_succ, Act.put, List.setIfInBounds_toArray, List.set_cons_succ, List.set_cons_zero]
  refine wpAnyH_take (i := 5) (v := .bool false) rfl (by kernel_rfl) (by kernel_rfl) (by kernel_rfl) (fun _ _ _ h => h) (Or.inl ⟨by rfl, ?r⟩) hS ?_
  case r => intro W hW; obtain ⟨k0, k1, k2, k3, k4, kp, x0, x1, x2, x3, x4⟩ := hW; simp [go_sem, execOp, Act.eval]
  simp only [List.getElem_toArray, List.getElem_cons_zero, List.getElem_cons_succ, Act.put, List.setIfInBounds_toArray, List.set_cons_succ, List.set_cons_zero]
  refine wpAnyH_take (i := 6) (v := .pointer (some ⟨w.heap.size + 1 + 1, 0, none⟩)) rfl (by kernel_rfl) (by kernel_rfl) (by kernel_rfl) (fun _ _ _ h => h) (Or.inl ⟨by rfl, ?r⟩) hS ?_
  case r => intro W hW; obtain ⟨k0, k1, k2, k3, k4, kp, x0, x1, x2, x3, x4⟩ := hW; simp [go_sem, execOp, Act.eval]
  simp only [List.getElem_toArray, List.getElem_cons_zero, List.getElem_cons_succ, Act.put, List.setIfInBounds_toArray, List.set_cons_succ, List.set_cons_zero]
  refine wpAnyH_take (i := 7) (v := .int .i64 y0.kind) rfl (by kernel_rfl) (by kernel_rfl) (by kernel_rfl) (fun _ _ _ h => h) (Or.inl ⟨by rfl, ?r⟩) hS ?_
  case r => intro W hW; obtain ⟨k0, k1, k2, k3, k4, kp, x0, x1, x2, x3, x4⟩ := hW; simp [go_sem, execOp, Act.eval, x0]
  simp only [List.getElem_toArray, List.getElem_cons_zero, List.getElem_cons_succ, Act.put, List.setIfInBounds_toArray, List.set_cons_succ, List.set_cons_zero]
  refine wpAnyH_take (i := 8) (v := .bool true) rfl (by kernel_rfl) (by kernel_rfl) (by kernel_rfl) (fun _ _ _ h => h) (Or.inl ⟨by rfl, ?r⟩) hS ?_
  case r => intro W hW; obtain ⟨k0, k1, k2, k3, k4, kp, x0, x1, x2, x3, x4⟩ := hW; simp [go_sem, execOp, Act.eval, Hhk.out]
  simp only [List.getElem_toArray, List.getElem_cons_zero, List.getElem_cons_succ, Act.put, List.setIfInBounds_toArray, List.set_cons_succ, List.set_cons_zero]
  refine wpAnyH_take (i := 9) (v := .bool true) rfl (by kernel_rfl) (by kernel_rfl) (by kernel_rfl) (fun _ _ _ h => h) (Or.inl ⟨by rfl, ?r⟩) hS ?_
  case r => intro W hW; obtain ⟨k0, k1, k2, k3, k4, kp, x0, x1, x2, x3, x4⟩ := hW; simp [go_sem, execOp, Act.eval]
  simp only [List.getElem_toArray, List.getElem_cons_zero, List.getElem_cons_succ, Act.put, List.setIfInBounds_toArray, List.set_cons_succ, List.set_cons_zero]
  refine wpAnyH_take (i := 10) (v := .pointer (some ⟨w.heap.size + 1 + 1, 1, none⟩)) rfl (by kernel_rfl) (by kernel_rfl) (by kernel_rfl) (fun _ _ _ h => h) (Or.inl ⟨by rfl, ?r⟩) hS ?_
  case r => intro W hW; obtain ⟨k0, k1, k2, k3, k4, kp, x0, x1, x2, x3, x4⟩ := hW; simp [go_sem, execOp, Act.eval]
  simp only [List.getElem_toArray, List.getElem_cons_zero, List.getElem_cons_succ, Act.put, List.setIfInBounds_toArray, List.set_cons_succ, List.set_cons_zero]
  refine wpAnyH_take (i := 11) (v := .string y0.text) rfl (by kernel_rfl) (by kernel_rfl) (by kernel_rfl) (fun _ _ _ h => h) (Or.inl ⟨by rfl, ?r⟩) hS ?_
  case r => intro W hW; obtain ⟨k0, k1, k2, k3, k4, kp, x0, x1, x2, x3, x4⟩ := hW; simp [go_sem, execOp, Act.eval, x1]
  simp only [List.getElem_toArray, List.getElem_cons_zero, List.getElem_cons_succ, Act.put, List.setIfInBounds_toArray, List.set_cons_succ, List.set_cons_zero]
  refine wpAnyH_take (i := 12) (v := .bool (y0.text.toList == [110, 105, 108])) rfl (by kernel_rfl) (by kernel_rfl) (by kernel_rfl) (fun _ _ _ h => h) (Or.inl ⟨by rfl, ?r⟩) hS ?_
  case r => intro W hW; obtain ⟨k0, k1, k2, k3, k4, kp, x0, x1, x2, x3, x4⟩ := hW; simp [go_sem, execOp, Act.eval]
  simp only [List.getElem_toArray, List.getElem_cons_zero, List.getElem_cons_succ, Act.put, List.setIfInBounds_toArray, List.set_cons_succ, List.set_cons_zero]
  refine wpAnyH_take (i := 13) (v := .bool (y0.text.toList == [110, 105, 108])) rfl (by kernel_rfl) (by kernel_rfl) (by kernel_rfl) (fun _ _ _ h => h) (Or.inl ⟨by rfl, ?r⟩) hS ?_
  case r => intro W hW; obtain ⟨k0, k1, k2, k3, k4, kp, x0, x1, x2, x3, x4⟩ := hW; simp [go_sem, execOp, Act.eval]
  simp only [List.getElem_toArray, List.getElem_cons_zero, List.getElem_cons_succ, Act.put, List.setIfInBounds_toArray, List.set_cons_succ, List.set_cons_zero]
  refine wpAnyH_take (i := 14) (v := .bool (y0.text.toList == [110, 105, 108])) rfl (by kernel_rfl) (by kernel_rfl) (by kernel_rfl) (fun _ _ _ h => h) (Or.inl ⟨by rfl, ?r⟩) hS ?_
  case r => intro W hW; obtain ⟨k0, k1, k2, k3, k4, kp, x0, x1, x2, x3, x4⟩ := hW; simp [go_sem, execOp, Act.eval]
  simp only [List.getElem_toArray, List.getElem_cons_zero, List.getElem_cons_succ, Act.put, List.setIfInBounds_toArray, List.set_cons_succ, List.set_cons_zero]
  refine wpAnyH_all (rs := [15]) (by kernel_rfl) (by simp) (fun i2 hi2 => ?_)
  obtain rfl : i2 = 15 := by simpa using hi2
  clear hi2
  refine wpOp_step rfl (fun K hK => ite_yes rfl ?_)
  simp only [List.getElem_toArray, List.getElem_cons_zero, List.getElem_cons_succ]
  go_simp
  refine (HPX.out _ _ _ (Nat.le_trans (Nat.le_of_eq (Eq.refl s.ind)) hi) (HD0.out.1.below hB5) (Nat.le_trans hBW hB5.size) (In.pk (HL0.out.get 0 (by simp)).2 (PK.of (pb := pb) (base := base) hB5 hBW) hpb)).mono ?_
  rintro e w1 ⟨⟨u1, rfl⟩, v1, hP1, hi1, hq1⟩
  have hk1 : PK pb base w0 w1 := (PK.of hB5 hBW).trans hq1
  clear hq1
  go_simp
  refine hK _ _ ⟨HK.out _ hk1, ?_⟩
  clear hK K hS hB5
  refine wpAnyH_done (by kernel_rfl) ?_ _
  refine NoPanic.normal ?_
  try simp only [Act.put, List.setIfInBounds_toArray, List.set_cons_succ, List.set_cons_zero]
  have HJ1 : Hid ((partG (y0.text.toList == [110, 105, 108]) y0.kind g0 s).ind = s.ind) := hi1.trans (Eq.refl s.ind)
  have hK1 : PK pb base w w1 := HD0.out.2.1.trans hk1
  have nd1 := hk1.high (w.heap.size + 1) _ _ _ (by omega) HD0.out.2.2.1 (by decide)
  have pd1 := hk1.high w.heap.size _ _ _ (by omega) HD0.out.2.2.2 (by decide)
  have HI1 : Hid _ := In.pk HI0.out hk1 hpb
  have HL1 : Hid (MT.InL pb w1 b o (y0 :: ks)) := MT.InL.below (hk1.below (by omega) (Nat.le_refl _)) b o hbp _ HL0.out
  have hz1 := lt_of nd1
  have HD1 : Hid (_ ∧ _ ∧ _ ∧ _) := ⟨hP1, hK1, nd1, pd1⟩
  clear hBW HK
  obtain ⟨k0, k1, k2, k3, k4⟩ := cells5 nd1
  have kp := cells1 pd1
  have hbz1 : b < w1.heap.size := by omega
  clear hP1 hK1 nd1 hk1 HD0 HI0 pd1 HL0
  go_wp2_with fail
  refine ((brack_any (o := ⟨#[40]⟩) (c := ⟨#[41]⟩) hpb (by decide) (by decide) (c167n (t := t) (n := n) (a := a) (p := some ⟨b, o, none⟩) (y0 := y0) (c := c) (ks := ks) hpb ⟨by omega, by omega⟩ hc1 Hh1.out) (fun _ _ h1 h2 => h1.pk hpb (by omega) (by omega) h2) Tryz.call167) _ _ _ (Nat.le_trans (Nat.le_of_eq HJ1.out) hi) HD1.out.1 (Nat.le_trans hB HD1.out.2.1.size) ⟨HD1.out.2.2.2, HD1.out.2.2.1, HI1.out⟩).mono ?_
  rintro e w2 ⟨⟨u2, rfl⟩, v2, hP2, hi2, hk2⟩
  have HJ2 : Hid ((brG ⟨#[40]⟩ ⟨#[41]⟩ g1 (partG (y0.text.toList == [110, 105, 108]) y0.kind g0 s)).ind = s.ind) := hi2.trans HJ1.out
  clear hi2
  have HE : Hid (_ ∧ PK pb base w w2) := ⟨hP2, HD1.out.2.1.trans hk2⟩
  clear hP2 hk2 k0 k1 k2 k3 k4 kp
  go_wp2_with fail
  go_end0
  exact ⟨⟨_, rfl⟩, v2, HE.out.1, HJ2.out, HE.out.2⟩
set_option maxRecDepth 100000 in
set_option maxHeartbeats 4000000 in
theorem post_48cn  {t : ByteArray} {n : Int} {a : Int} {p : Option Addr} {c : Nat} {y0 : MT} {ks : List MT}  {g0 g1 : PS → PS} (h0 : Wf 132 pb base L y0 g0) (h1 : ∀ p', Wc 70 #[.pointer (some ⟨pb, 0, none⟩), .slice p' ks.length (c - 1), .func (.func 71) #[.pointer (some ⟨pb, 0, none⟩)] #[]] pb base L (Kd pb p' ks) g1) (hl : ¬ levK y0 < 7) (hk : ¬ y0.kind = 14) (hc1 : c ≠ 1) (hpb : pb < base) : Wf 148 pb base L (.node 48 t n a p c (y0 :: ks)) (fun s => (brG ⟨#[40]⟩ ⟨#[41]⟩ g1 (partG false y0.kind g0 s))) := by
  intro s v w hi hP hB hin
  have hkk := hin.kidsL
  simp only [MT.kids_node, MT.ptr_node] at hkk
  rcases hkk with hkk | ⟨b, o, rfl, hbp, hL⟩
  · cases hkk
  have Hh1 : Hid _ := h1
  clear h1
  have hb0 : Below w.heap.size w (((w.alloc (.cells #[.pointer (some ⟨pb, 0, none⟩)] 114)).alloc (.cells #[.int .i64 48, .string t, .int .i64 n, .int .i64 a, .slice (some ⟨b, o, none⟩) (ks.length + 1) c] 24)).alloc (.cells #[.int .i64 y0.kind, .string y0.text, .int .i64 y0.num, .int .i64 y0.at_, .slice y0.ptr y0.kids.length y0.cap] 24)) := (below2 _ _ _).alloc (by simp only [World.size_alloc]; omega) _
  have hP0 := hP.below hb0
  have hK0 : PK pb base w _ := PK.of (pb := pb) hb0 hB
  have HI0 : Hid _ := In.pk hin hK0 hpb
  have pd0 := (hb0x_ w (.cells #[.pointer (some ⟨pb, 0, none⟩)] 114) (.cells #[.int .i64 48, .string t, .int .i64 n, .int .i64 a, .slice (some ⟨b, o, none⟩) (ks.length + 1) c] 24) (.cells #[.int .i64 y0.kind, .string y0.text, .int .i64 y0.num, .int .i64 y0.at_, .slice y0.ptr y0.kids.length y0.cap] 24))
  have nd0 := (nb0x_ w (.cells #[.pointer (some ⟨pb, 0, none⟩)] 114) (.cells #[.int .i64 48, .string t, .int .i64 n, .int .i64 a, .slice (some ⟨b, o, none⟩) (ks.length + 1) c] 24) (.cells #[.int .i64 y0.kind, .string y0.text, .int .i64 y0.num, .int .i64 y0.at_, .slice y0.ptr y0.kids.length y0.cap] 24))
  have HL0 : Hid (MT.InL pb _ b o (y0 :: ks)) := MT.InL.below (hb0.mono (by omega)) b o hbp _ hL
  have hz0 := lt_of nd0
  have HD0 : Hid (_ ∧ _ ∧ _ ∧ _) := ⟨hP0, hK0, nd0, pd0⟩
  have hbz : b < w.heap.size := by omega
  have i90 : (0 : Int) < (ks.length : Int) + 1 := by omega
  have XD0 : Hid ((((w.alloc (.cells #[.pointer (some ⟨pb, 0, none⟩)] 114)).alloc (.cells #[.int .i64 48, .string t, .int .i64 n, .int .i64 a, .slice (some ⟨b, o, none⟩) (ks.length + 1) c] 24)).alloc (.cells #[.int .i64 y0.kind, .string y0.text, .int .i64 y0.num, .int .i64 y0.at_, .slice y0.ptr y0.kids.length y0.cap] 24)).heap[w.heap.size + 1 + 1]? = some (.cells #[.int .i64 y0.kind, .string y0.text, .int .i64 y0.num, .int .i64 y0.at_, .slice y0.ptr y0.kids.length y0.cap] 24 (0, 0))) := by have := heap_alloc_new ((w.alloc (.cells #[.pointer (some ⟨pb, 0, none⟩)] 114)).alloc (.cells #[.int .i64 48, .string t, .int .i64 n, .int .i64 a, .slice (some ⟨b, o, none⟩) (ks.length + 1) c] 24)) (.cells #[.int .i64 y0.kind, .string y0.text, .int .i64 y0.num, .int .i64 y0.at_, .slice y0.ptr y0.kids.length y0.cap] 24); simp only [World.size_alloc] at this; exact this
  obtain ⟨c00, c01, c02, c03, c04⟩ : MT.CellsAt w b o y0 := (hL.get 0 (by simp)).1
  clear hP hin hb0 hP0 hK0 nd0 pd0 hL
  rw [nvt1]
  go_enter Tryz.func148, Tryz.ntmps148
  go_wp2_with fail
  have HLX : Hid _ := level_all y0
  have HPX : Hid _ := part_all false hpb h0
  clear h0
  obtain ⟨w0, hw0⟩ : ∃ W, W = (((w.alloc (.cells #[.pointer (some ⟨pb, 0, none⟩)] 114)).alloc (.cells #[.int .i64 48, .string t, .int .i64 n, .int .i64 a, .slice (some ⟨b, o, none⟩) (ks.length + 1) c] 24)).alloc (.cells #[.int .i64 y0.kind, .string y0.text, .int .i64 y0.num, .int .i64 y0.at_, .slice y0.ptr y0.kids.length y0.cap] 24)) := ⟨_, rfl⟩
  rw [← hw0] at HD0 HI0 hz0 HL0 XD0 ⊢
  clear hw0
  have hbz0 : b < w0.heap.size := by omega
  clear c00 c01 c02 c03 c04
  have HK : Hid (∀ W, PK pb base w0 W → (W.cell? ⟨w.heap.size + 1, 0, none⟩ = some (.int .i64 48) ∧ W.cell? ⟨w.heap.size + 1, 1, none⟩ = some (.string t) ∧ W.cell? ⟨w.heap.size + 1, 2, none⟩ = some (.int .i64 n) ∧ W.cell? ⟨w.heap.size + 1, 3, none⟩ = some (.int .i64 a) ∧ W.cell? ⟨w.heap.size + 1, 4, none⟩ = some (.slice (some ⟨b, o, none⟩) (ks.length + 1) c) ∧ W.cell? ⟨w.heap.size, 0, none⟩ = some (.pointer (some ⟨pb, 0, none⟩)) ∧ W.cell? ⟨w.heap.size + 1 + 1, 0, none⟩ = some (.int .i64 y0.kind) ∧ W.cell? ⟨w.heap.size + 1 + 1, 1, none⟩ = some (.string y0.text) ∧ W.cell? ⟨w.heap.size + 1 + 1, 2, none⟩ = some (.int .i64 y0.num) ∧ W.cell? ⟨w.heap.size + 1 + 1, 3, none⟩ = some (.int .i64 y0.at_) ∧ W.cell? ⟨w.heap.size + 1 + 1, 4, none⟩ = some (.slice y0.ptr y0.kids.length y0.cap))) := fun W hW => by
    have nd := hW.high (w.heap.size + 1) _ _ _ (by omega) HD0.out.2.2.1 (by decide)
    have pd := hW.high w.heap.size _ _ _ (by omega) HD0.out.2.2.2 (by decide)
    have hLW := MT.InL.below (hW.below (by omega) (Nat.le_refl _)) b o hbp _ HL0.out
    have xd := hW.high (w.heap.size + 1 + 1) _ _ _ (by omega) XD0.out (by decide)
    obtain ⟨k0, k1, k2, k3, k4⟩ := cells5 nd
    exact ⟨k0, k1, k2, k3, k4, cells1 pd, (cells5 xd).1, (cells5 xd).2.1, (cells5 xd).2.2.1, (cells5 xd).2.2.2.1, (cells5 xd).2.2.2.2⟩
  have hBW : base ≤ w0.heap.size := by omega
  obtain ⟨k0, k1, k2, k3, k4, kp, x0, x1, x2, x3, x4⟩ := HK.out w0 (PK.refl _ _ _)
  refine wp_region_noPanic ?_
  refine wp_region_held (S := fun W => W.cell? ⟨w.heap.size + 1, 0, none⟩ = some (.int .i64 48) ∧ W.cell? ⟨w.heap.size + 1, 1, none⟩ = some (.string t) ∧ W.cell? ⟨w.heap.size + 1, 2, none⟩ = some (.int .i64 n) ∧ W.cell? ⟨w.heap.size + 1, 3, none⟩ = some (.int .i64 a) ∧ W.cell? ⟨w.heap.size + 1, 4, none⟩ = some (.slice (some ⟨b, o, none⟩) (ks.length + 1) c) ∧ W.cell? ⟨w.heap.size, 0, none⟩ = some (.pointer (some ⟨pb, 0, none⟩)) ∧ W.cell? ⟨w.heap.size + 1 + 1, 0, none⟩ = some (.int .i64 y0.kind) ∧ W.cell? ⟨w.heap.size + 1 + 1, 1, none⟩ = some (.string y0.text) ∧ W.cell? ⟨w.heap.size + 1 + 1, 2, none⟩ = some (.int .i64 y0.num) ∧ W.cell? ⟨w.heap.size + 1 + 1, 3, none⟩ = some (.int .i64 y0.at_) ∧ W.cell? ⟨w.heap.size + 1 + 1, 4, none⟩ = some (.slice y0.ptr y0.kids.length y0.cap)) (by kernel_rfl) ?_
  obtain ⟨W4, hW4⟩ : ∃ W4, W4 = (w0).drew := ⟨_, rfl⟩
  have e4 : ({ w0 with drawn := (w0).drawn + 1 } : World) = W4 := hW4.symm
  rw [e4]
  have hB4 : Below w0.heap.size w0 W4 := by rw [hW4]; exact (Below.refl _ _).drew
  have hS := HK.out _ (PK.of hB4 hBW)
  clear e4 hW4 k0 k1 k2 k3 k4 kp x0 x1 x2 x3 x4
  refine wpAnyH_take (i := 0) (v := .pointer (some ⟨pb, 0, none⟩)) rfl (by kernel_rfl) (by kernel_rfl) (by kernel_rfl) (fun _ _ _ h => h) (Or.inl ⟨by rfl, ?r⟩) hS ?_
  case r => intro W hW; obtain ⟨k0, k1, k2, k3, k4, kp, x0, x1, x2, x3, x4⟩ := hW; simp [go_sem, execOp, Act.eval, kp]
  simp only [List.getElem_toArray, List.getElem_cons_zero, Act.put, List.setIfInBounds_toArray, List.set_cons_succ, List.set_cons_zero]
  refine wpAnyH_take (i := 1) (v := .agg #[.int .i64 y0.kind, .string y0.text, .int .i64 y0.num, .int .i64 y0.at_, .slice y0.ptr y0.kids.length y0.cap]) rfl (by kernel_rfl) (by kernel_rfl) (by kernel_rfl) (fun _ _ _ h => h) (Or.inl ⟨by rfl, ?r⟩) hS ?_
  case r => intro W hW; obtain ⟨k0, k1, k2, k3, k4, kp, x0, x1, x2, x3, x4⟩ := hW; simp [go_sem, execOp, Act.eval, x0, x1, x2, x3, x4]
  simp only [List.getElem_toArray, List.getElem_cons_zero, List.getElem_cons_succ, Act.put, List.setIfInBounds_toArray, List.set_cons_succ, List.set_cons_zero]
  refine wpAnyH_take (i := 2) (v := .agg #[.int .i64 y0.kind, .string y0.text, .int .i64 y0.num, .int .i64 y0.at_, .slice y0.ptr y0.kids.length y0.cap]) rfl (by kernel_rfl) (by kernel_rfl) (by kernel_rfl) (fun _ _ _ h => h) (Or.inl ⟨by rfl, ?r⟩) hS ?_
  case r => intro W hW; obtain ⟨k0, k1, k2, k3, k4, kp, x0, x1, x2, x3, x4⟩ := hW; simp [go_sem, execOp, Act.eval, x0, x1, x2, x3, x4]
  simp only [List.getElem_toArray, List.getElem_cons_zero, List.getElem_cons_succ, Act.put, List.setIfInBounds_toArray, List.set_cons_succ, List.set_cons_zero]
  refine wpAnyH_all (rs := [3]) (by kernel_rfl) (by simp) (fun i2 hi2 => ?_)
  obtain rfl : i2 = 3 := by simpa using hi2
  clear hi2
  refine wpOp_step rfl (fun K hK => ite_yes rfl ?_)
  simp only [List.getElem_toArray, List.getElem_cons_zero, List.getElem_cons_succ]
  go_simp
  refine (HLX.out _).mono ?_
  rintro r' W5 ⟨rfl, bq⟩
  have hB5 : Below w0.heap.size w0 W5 := hB4.trans (bq.mono hB4.size)
  go_simp
  refine hK _ _ ⟨HK.out _ (PK.of hB5 hBW), ?_⟩
  clear hK K hS bq hB4
  have hS := HK.out _ (PK.of hB5 hBW)
  try simp only [Act.put, List.setIfInBounds_toArray, List.set_cons_succ, List.set_cons_zero]
  refine wpAnyH_take (i := 4) (v := .bool false) rfl (by kernel_rfl) (by kernel_rfl) (by kernel_rfl) (fun _ _ _ h => h) (Or.inl ⟨by rfl, ?r⟩) hS ?_
  case r => intro W hW; obtain ⟨k0, k1, k2, k3, k4, kp, x0, x1, x2, x3, x4⟩ := hW; simp [go_sem, execOp, Act.eval, hl]
  simp only [List.getElem_toArray, List.getElem_cons_zero, List.getElem_cons_succ, Act.put, List.setIfInBounds_toArray, List.set_cons_succ, List.set_cons_zero]
  refine wpAnyH_take (i := 5) (v := .bool false) rfl (by kernel_rfl) (by kernel_rfl) (by kernel_rfl) (fun _ _ _ h => h) (Or.inl ⟨by rfl, ?r⟩) hS ?_
  case r => intro W hW; obtain ⟨k0, k1, k2, k3, k4, kp, x0, x1, x2, x3, x4⟩ := hW; simp [go_sem, execOp, Act.eval]
  simp only [List.getElem_toArray, List.getElem_cons_zero, List.getElem_cons_succ, Act.put, List.setIfInBounds_toArray, List.set_cons_succ, List.set_cons_zero]
  refine wpAnyH_take (i := 6) (v := .pointer (some ⟨w.heap.size + 1 + 1, 0, none⟩)) rfl (by kernel_rfl) (by kernel_rfl) (by kernel_rfl) (fun _ _ _ h => h) (Or.inl ⟨by rfl, ?r⟩) hS ?_
  case r => intro W hW; obtain ⟨k0, k1, k2, k3, k4, kp, x0, x1, x2, x3, x4⟩ := hW; simp [go_sem, execOp, Act.eval]
  simp only [List.getElem_toArray, List.getElem_cons_zero, List.getElem_cons_succ, Act.put, List.setIfInBounds_toArray, List.set_cons_succ, List.set_cons_zero]
  refine wpAnyH_take (i := 7) (v := .int .i64 y0.kind) rfl (by kernel_rfl) (by kernel_rfl) (by kernel_rfl) (fun _ _ _ h => h) (Or.inl ⟨by rfl, ?r⟩) hS ?_
  case r => intro W hW; obtain ⟨k0, k1, k2, k3, k4, kp, x0, x1, x2, x3, x4⟩ := hW; simp [go_sem, execOp, Act.eval, x0]
  simp only [List.getElem_toArray, List.getElem_cons_zero, List.getElem_cons_succ, Act.put, List.setIfInBounds_toArray, List.set_cons_succ, List.set_cons_zero]
  refine wpAnyH_take (i := 8) (v := .bool false) rfl (by kernel_rfl) (by kernel_rfl) (by kernel_rfl) (fun _ _ _ h => h) (Or.inl ⟨by rfl, ?r⟩) hS ?_
  case r => intro W hW; obtain ⟨k0, k1, k2, k3, k4, kp, x0, x1, x2, x3, x4⟩ := hW; simp [go_sem, execOp, Act.eval, hk]
  simp only [List.getElem_toArray, List.getElem_cons_zero, List.getElem_cons_succ, Act.put, List.setIfInBounds_toArray, List.set_cons_succ, List.set_cons_zero]
  refine wpAnyH_take (i := 9) (v := .bool false) rfl (by kernel_rfl) (by kernel_rfl) (by kernel_rfl) (fun _ _ _ h => h) (Or.inl ⟨by rfl, ?r⟩) hS ?_
  case r => intro W hW; obtain ⟨k0, k1, k2, k3, k4, kp, x0, x1, x2, x3, x4⟩ := hW; simp [go_sem, execOp, Act.eval]
  simp only [List.getElem_toArray, List.getElem_cons_zero, List.getElem_cons_succ, Act.put, List.setIfInBounds_toArray, List.set_cons_succ, List.set_cons_zero]
  refine wpAnyH_take (i := 10) (v := undef) rfl (by kernel_rfl) (by kernel_rfl) (by kernel_rfl) (fun _ _ _ h => h) (Or.inr ⟨rfl, rfl⟩) hS ?_
  simp only [List.getElem_toArray, List.getElem_cons_zero, List.getElem_cons_succ, Act.put, List.setIfInBounds_toArray, List.set_cons_succ, List.set_cons_zero]
  refine wpAnyH_take (i := 11) (v := undef) rfl (by kernel_rfl) (by kernel_rfl) (by kernel_rfl) (fun _ _ _ h => h) (Or.inr ⟨rfl, rfl⟩) hS ?_
  simp only [List.getElem_toArray, List.getElem_cons_zero, List.getElem_cons_succ, Act.put, List.setIfInBounds_toArray, List.set_cons_succ, List.set_cons_zero]
  refine wpAnyH_take (i := 12) (v := undef) rfl (by kernel_rfl) (by kernel_rfl) (by kernel_rfl) (fun _ _ _ h => h) (Or.inr ⟨rfl, rfl⟩) hS ?_
  simp only [List.getElem_toArray, List.getElem_cons_zero, List.getElem_cons_succ, Act.put, List.setIfInBounds_toArray, List.set_cons_succ, List.set_cons_zero]
  refine wpAnyH_take (i := 13) (v := .bool false) rfl (by kernel_rfl) (by kernel_rfl) (by kernel_rfl) (fun _ _ _ h => h) (Or.inl ⟨by rfl, ?r⟩) hS ?_
  case r => intro W hW; obtain ⟨k0, k1, k2, k3, k4, kp, x0, x1, x2, x3, x4⟩ := hW; simp [go_sem, execOp, Act.eval]
  simp only [List.getElem_toArray, List.getElem_cons_zero, List.getElem_cons_succ, Act.put, List.setIfInBounds_toArray, List.set_cons_succ, List.set_cons_zero]
  refine wpAnyH_take (i := 14) (v := .bool false) rfl (by kernel_rfl) (by kernel_rfl) (by kernel_rfl) (fun _ _ _ h => h) (Or.inl ⟨by rfl, ?r⟩) hS ?_
  case r => intro W hW; obtain ⟨k0, k1, k2, k3, k4, kp, x0, x1, x2, x3, x4⟩ := hW; simp [go_sem, execOp, Act.eval]
  simp only [List.getElem_toArray, List.getElem_cons_zero, List.getElem_cons_succ, Act.put, List.setIfInBounds_toArray, List.set_cons_succ, List.set_cons_zero]
  refine wpAnyH_all (rs := [15]) (by kernel_rfl) (by simp) (fun i2 hi2 => ?_)
  obtain rfl : i2 = 15 := by simpa using hi2
  clear hi2
  refine wpOp_step rfl (fun K hK => ite_yes rfl ?_)
  simp only [List.getElem_toArray, List.getElem_cons_zero, List.getElem_cons_succ]
  go_simp
  refine (HPX.out _ _ _ (Nat.le_trans (Nat.le_of_eq (Eq.refl s.ind)) hi) (HD0.out.1.below hB5) (Nat.le_trans hBW hB5.size) (In.pk (HL0.out.get 0 (by simp)).2 (PK.of (pb := pb) (base := base) hB5 hBW) hpb)).mono ?_
  rintro e w1 ⟨⟨u1, rfl⟩, v1, hP1, hi1, hq1⟩
  have hk1 : PK pb base w0 w1 := (PK.of hB5 hBW).trans hq1
  clear hq1
  go_simp
  refine hK _ _ ⟨HK.out _ hk1, ?_⟩
  clear hK K hS hB5
  refine wpAnyH_done (by kernel_rfl) ?_ _
  refine NoPanic.normal ?_
  try simp only [Act.put, List.setIfInBounds_toArray, List.set_cons_succ, List.set_cons_zero]
  have HJ1 : Hid ((partG false y0.kind g0 s).ind = s.ind) := hi1.trans (Eq.refl s.ind)
  have hK1 : PK pb base w w1 := HD0.out.2.1.trans hk1
  have nd1 := hk1.high (w.heap.size + 1) _ _ _ (by omega) HD0.out.2.2.1 (by decide)
  have pd1 := hk1.high w.heap.size _ _ _ (by omega) HD0.out.2.2.2 (by decide)
  have HI1 : Hid _ := In.pk HI0.out hk1 hpb
  have HL1 : Hid (MT.InL pb w1 b o (y0 :: ks)) := MT.InL.below (hk1.below (by omega) (Nat.le_refl _)) b o hbp _ HL0.out
  have hz1 := lt_of nd1
  have HD1 : Hid (_ ∧ _ ∧ _ ∧ _) := ⟨hP1, hK1, nd1, pd1⟩
  clear hBW HK
  obtain ⟨k0, k1, k2, k3, k4⟩ := cells5 nd1
  have kp := cells1 pd1
  have hbz1 : b < w1.heap.size := by omega
  clear hP1 hK1 nd1 hk1 HD0 HI0 pd1 HL0
  go_wp2_with fail
  refine ((brack_any (o := ⟨#[40]⟩) (c := ⟨#[41]⟩) hpb (by decide) (by decide) (c167n (t := t) (n := n) (a := a) (p := some ⟨b, o, none⟩) (y0 := y0) (c := c) (ks := ks) hpb ⟨by omega, by omega⟩ hc1 Hh1.out) (fun _ _ h1 h2 => h1.pk hpb (by omega) (by omega) h2) Tryz.call167) _ _ _ (Nat.le_trans (Nat.le_of_eq HJ1.out) hi) HD1.out.1 (Nat.le_trans hB HD1.out.2.1.size) ⟨HD1.out.2.2.2, HD1.out.2.2.1, HI1.out⟩).mono ?_
  rintro e w2 ⟨⟨u2, rfl⟩, v2, hP2, hi2, hk2⟩
  have HJ2 : Hid ((brG ⟨#[40]⟩ ⟨#[41]⟩ g1 (partG false y0.kind g0 s)).ind = s.ind) := hi2.trans HJ1.out
  clear hi2
  have HE : Hid (_ ∧ PK pb base w w2) := ⟨hP2, HD1.out.2.1.trans hk2⟩
  clear hP2 hk2 k0 k1 k2 k3 k4 kp
  go_wp2_with fail
  go_end0
  exact ⟨⟨_, rfl⟩, v2, HE.out.1, HJ2.out, HE.out.2⟩
set_option maxRecDepth 100000 in
set_option maxHeartbeats 4000000 in
theorem post_48ae  {t : ByteArray} {n : Int} {a : Int} {p : Option Addr} {y0 : MT}  {g0 g1 : PS → PS} (h0 : Wf 132 pb base L y0 g0) (h1 : ∀ p', Wc 70 #[.pointer (some ⟨pb, 0, none⟩), .slice p' 0 0, .func (.func 71) #[.pointer (some ⟨pb, 0, none⟩)] #[]] pb base L (Kd pb p' []) g1) (hl : levK y0 < 7) (hpb : pb < base) : Wf 148 pb base L (.node 48 t n a p 1 [y0]) (fun s => (brG ⟨#[40]⟩ ⟨#[41]⟩ g1 (partG true y0.kind g0 s))) := by
  intro s v w hi hP hB hin
  have hkk := hin.kidsL
  simp only [MT.kids_node, MT.ptr_node] at hkk
  rcases hkk with hkk | ⟨b, o, rfl, hbp, hL⟩
  · cases hkk
  have Hh1 : Hid _ := h1
  clear h1
  have hb0 : Below w.heap.size w (((w.alloc (.cells #[.pointer (some ⟨pb, 0, none⟩)] 114)).alloc (.cells #[.int .i64 48, .string t, .int .i64 n, .int .i64 a, .slice (some ⟨b, o, none⟩) 1 1] 24)).alloc (.cells #[.int .i64 y0.kind, .string y0.text, .int .i64 y0.num, .int .i64 y0.at_, .slice y0.ptr y0.kids.length y0.cap] 24)) := (below2 _ _ _).alloc (by simp only [World.size_alloc]; omega) _
  have hP0 := hP.below hb0
  have hK0 : PK pb base w _ := PK.of (pb := pb) hb0 hB
  have HI0 : Hid _ := In.pk hin hK0 hpb
  have pd0 := (hb0x_ w (.cells #[.pointer (some ⟨pb, 0, none⟩)] 114) (.cells #[.int .i64 48, .string t, .int .i64 n, .int .i64 a, .slice (some ⟨b, o, none⟩) 1 1] 24) (.cells #[.int .i64 y0.kind, .string y0.text, .int .i64 y0.num, .int .i64 y0.at_, .slice y0.ptr y0.kids.length y0.cap] 24))
  have nd0 := (nb0x_ w (.cells #[.pointer (some ⟨pb, 0, none⟩)] 114) (.cells #[.int .i64 48, .string t, .int .i64 n, .int .i64 a, .slice (some ⟨b, o, none⟩) 1 1] 24) (.cells #[.int .i64 y0.kind, .string y0.text, .int .i64 y0.num, .int .i64 y0.at_, .slice y0.ptr y0.kids.length y0.cap] 24))
  have HL0 : Hid (MT.InL pb _ b o [y0]) := MT.InL.below (hb0.mono (by omega)) b o hbp _ hL
  have hz0 := lt_of nd0
  have HD0 : Hid (_ ∧ _ ∧ _ ∧ _) := ⟨hP0, hK0, nd0, pd0⟩
  have hbz : b < w.heap.size := by omega
  have XD0 : Hid ((((w.alloc (.cells #[.pointer (some ⟨pb, 0, none⟩)] 114)).alloc (.cells #[.int .i64 48, .string t, .int .i64 n, .int .i64 a, .slice (some ⟨b, o, none⟩) 1 1] 24)).alloc (.cells #[.int .i64 y0.kind, .string y0.text, .int .i64 y0.num, .int .i64 y0.at_, .slice y0.ptr y0.kids.length y0.cap] 24)).heap[w.heap.size + 1 + 1]? = some (.cells #[.int .i64 y0.kind, .string y0.text, .int .i64 y0.num, .int .i64 y0.at_, .slice y0.ptr y0.kids.length y0.cap] 24 (0, 0))) := by have := heap_alloc_new ((w.alloc (.cells #[.pointer (some ⟨pb, 0, none⟩)] 114)).alloc (.cells #[.int .i64 48, .string t, .int .i64 n, .int .i64 a, .slice (some ⟨b, o, none⟩) 1 1] 24)) (.cells #[.int .i64 y0.kind, .string y0.text, .int .i64 y0.num, .int .i64 y0.at_, .slice y0.ptr y0.kids.length y0.cap] 24); simp only [World.size_alloc] at this; exact this
  obtain ⟨c00, c01, c02, c03, c04⟩ : MT.CellsAt w b o y0 := (hL.get 0 (by simp)).1
  clear hP hin hb0 hP0 hK0 nd0 pd0 hL
  rw [nv1]
  go_enter Tryz.func148, Tryz.ntmps148
  go_wp2_with fail
  have HLX : Hid _ := level_all y0
  have HPX : Hid _ := part_all true hpb h0
  clear h0
  obtain ⟨w0, hw0⟩ : ∃ W, W = (((w.alloc (.cells #[.pointer (some ⟨pb, 0, none⟩)] 114)).alloc (.cells #[.int .i64 48, .string t, .int .i64 n, .int .i64 a, .slice (some ⟨b, o, none⟩) 1 1] 24)).alloc (.cells #[.int .i64 y0.kind, .string y0.text, .int .i64 y0.num, .int .i64 y0.at_, .slice y0.ptr y0.kids.length y0.cap] 24)) := ⟨_, rfl⟩
  rw [← hw0] at HD0 HI0 hz0 HL0 XD0 ⊢
  clear hw0
  have hbz0 : b < w0.heap.size := by omega
  clear c00 c01 c02 c03 c04
  have HK : Hid (∀ W, PK pb base w0 W → (W.cell? ⟨w.heap.size + 1, 0, none⟩ = some (.int .i64 48) ∧ W.cell? ⟨w.heap.size + 1, 1, none⟩ = some (.string t) ∧ W.cell? ⟨w.heap.size + 1, 2, none⟩ = some (.int .i64 n) ∧ W.cell? ⟨w.heap.size + 1, 3, none⟩ = some (.int .i64 a) ∧ W.cell? ⟨w.heap.size + 1, 4, none⟩ = some (.slice (some ⟨b, o, none⟩) 1 1) ∧ W.cell? ⟨w.heap.size, 0, none⟩ = some (.pointer (some ⟨pb, 0, none⟩)) ∧ W.cell? ⟨w.heap.size + 1 + 1, 0, none⟩ = some (.int .i64 y0.kind) ∧ W.cell? ⟨w.heap.size + 1 + 1, 1, none⟩ = some (.string y0.text) ∧ W.cell? ⟨w.heap.size + 1 + 1, 2, none⟩ = some (.int .i64 y0.num) ∧ W.cell? ⟨w.heap.size + 1 + 1, 3, none⟩ = some (.int .i64 y0.at_) ∧ W.cell? ⟨w.heap.size + 1 + 1, 4, none⟩ = some (.slice y0.ptr y0.kids.length y0.cap))) := fun W hW => by
    have nd := hW.high (w.heap.size + 1) _ _ _ (by omega) HD0.out.2.2.1 (by decide)
    have pd := hW.high w.heap.size _ _ _ (by omega) HD0.out.2.2.2 (by decide)
    have hLW := MT.InL.below (hW.below (by omega) (Nat.le_refl _)) b o hbp _ HL0.out
    have xd := hW.high (w.heap.size + 1 + 1) _ _ _ (by omega) XD0.out (by decide)
    obtain ⟨k0, k1, k2, k3, k4⟩ := cells5 nd
    exact ⟨k0, k1, k2, k3, k4, cells1 pd, (cells5 xd).1, (cells5 xd).2.1, (cells5 xd).2.2.1, (cells5 xd).2.2.2.1, (cells5 xd).2.2.2.2⟩
  have hBW : base ≤ w0.heap.size := by omega
  obtain ⟨k0, k1, k2, k3, k4, kp, x0, x1, x2, x3, x4⟩ := HK.out w0 (PK.refl _ _ _)
  refine wp_region_noPanic ?_
  refine wp_region_held (S := fun W => W.cell? ⟨w.heap.size + 1, 0, none⟩ = some (.int .i64 48) ∧ W.cell? ⟨w.heap.size + 1, 1, none⟩ = some (.string t) ∧ W.cell? ⟨w.heap.size + 1, 2, none⟩ = some (.int .i64 n) ∧ W.cell? ⟨w.heap.size + 1, 3, none⟩ = some (.int .i64 a) ∧ W.cell? ⟨w.heap.size + 1, 4, none⟩ = some (.slice (some ⟨b, o, none⟩) 1 1) ∧ W.cell? ⟨w.heap.size, 0, none⟩ = some (.pointer (some ⟨pb, 0, none⟩)) ∧ W.cell? ⟨w.heap.size + 1 + 1, 0, none⟩ = some (.int .i64 y0.kind) ∧ W.cell? ⟨w.heap.size + 1 + 1, 1, none⟩ = some (.string y0.text) ∧ W.cell? ⟨w.heap.size + 1 + 1, 2, none⟩ = some (.int .i64 y0.num) ∧ W.cell? ⟨w.heap.size + 1 + 1, 3, none⟩ = some (.int .i64 y0.at_) ∧ W.cell? ⟨w.heap.size + 1 + 1, 4, none⟩ = some (.slice y0.ptr y0.kids.length y0.cap)) (by kernel_rfl) ?_
  obtain ⟨W4, hW4⟩ : ∃ W4, W4 = (w0).drew := ⟨_, rfl⟩
  have e4 : ({ w0 with drawn := (w0).drawn + 1 } : World) = W4 := hW4.symm
  rw [e4]
  have hB4 : Below w0.heap.size w0 W4 := by rw [hW4]; exact (Below.refl _ _).drew
  have hS := HK.out _ (PK.of hB4 hBW)
  clear e4 hW4 k0 k1 k2 k3 k4 kp x0 x1 x2 x3 x4
  refine wpAnyH_take (i := 0) (v := .pointer (some ⟨pb, 0, none⟩)) rfl (by kernel_rfl) (by kernel_rfl) (by kernel_rfl) (fun _ _ _ h => h) (Or.inl ⟨by rfl, ?r⟩) hS ?_
  case r => intro W hW; obtain ⟨k0, k1, k2, k3, k4, kp, x0, x1, x2, x3, x4⟩ := hW; simp [go_sem, execOp, Act.eval, kp]
  simp only [List.getElem_toArray, List.getElem_cons_zero, Act.put, List.setIfInBounds_toArray, List.set_cons_succ, List.set_cons_zero]
  refine wpAnyH_take (i := 1) (v := .agg #[.int .i64 y0.kind, .string y0.text, .int .i64 y0.num, .int .i64 y0.at_, .slice y0.ptr y0.kids.length y0.cap]) rfl (by kernel_rfl) (by kernel_rfl) (by kernel_rfl) (fun _ _ _ h => h) (Or.inl ⟨by rfl, ?r⟩) hS ?_
  case r => intro W hW; obtain ⟨k0, k1, k2, k3, k4, kp, x0, x1, x2, x3, x4⟩ := hW; simp [go_sem, execOp, Act.eval, x0, x1, x2, x3, x4]
  simp only [List.getElem_toArray, List.getElem_cons_zero, List.getElem_cons_succ, Act.put, List.setIfInBounds_toArray, List.set_cons_succ, List.set_cons_zero]
  refine wpAnyH_take (i := 2) (v := .agg #[.int .i64 y0.kind, .string y0.text, .int .i64 y0.num, .int .i64 y0.at_, .slice y0.ptr y0.kids.length y0.cap]) rfl (by kernel_rfl) (by kernel_rfl) (by kernel_rfl) (fun _ _ _ h => h) (Or.inl ⟨by rfl, ?r⟩) hS ?_
  case r => intro W hW; obtain ⟨k0, k1, k2, k3, k4, kp, x0, x1, x2, x3, x4⟩ := hW; simp [go_sem, execOp, Act.eval, x0, x1, x2, x3, x4]
  simp only [List.getElem_toArray, List.getElem_cons_zero, List.getElem_cons_succ, Act.put, List.setIfInBounds_toArray, List.set_cons_succ, List.set_cons_zero]
  refine wpAnyH_all (rs := [3]) (by kernel_rfl) (by simp) (fun i2 hi2 => ?_)
  obtain rfl : i2 = 3 := by simpa using hi2
  clear hi2
  refine wpOp_step rfl (fun K hK => ite_yes rfl ?_)
  simp only [List.getElem_toArray, List.getElem_cons_zero, List.getElem_cons_succ]
  go_simp
  refine (HLX.out _).mono ?_
  rintro r' W5 ⟨rfl, bq⟩
  have hB5 : Below w0.heap.size w0 W5 := hB4.trans (bq.mono hB4.size)
  go_simp
  refine hK _ _ ⟨HK.out _ (PK.of hB5 hBW), ?_⟩
  clear hK K hS bq hB4
  have hS := HK.out _ (PK.of hB5 hBW)
  try simp only [Act.put, List.setIfInBounds_toArray, List.set_cons_succ, List.set_cons_zero]
  refine wpAnyH_take (i := 4) (v := .bool true) rfl (by kernel_rfl) (by kernel_rfl) (by kernel_rfl) (fun _ _ _ h => h) (Or.inl ⟨by rfl, ?r⟩) hS ?_
  case r => intro W hW; obtain ⟨k0, k1, k2, k3, k4, kp, x0, x1, x2, x3, x4⟩ := hW; simp [go_sem, execOp, Act.eval, hl]
  simp only [List.getElem_toArray, List.getElem_cons_zero, List.getElem_cons_succ, Act.put, List.setIfInBounds_toArray, List.set_cons_succ, List.set_cons_zero]
  refine wpAnyH_take (i := 5) (v := .bool true) rfl (by kernel_rfl) (by kernel_rfl) (by kernel_rfl) (fun _ _ _ h => h) (Or.inl ⟨by rfl, ?r⟩) hS ?_
  case r => intro W hW; obtain ⟨k0, k1, k2, k3, k4, kp, x0, x1, x2, x3, x4⟩ := hW; simp [go_sem, execOp, Act.eval]
  simp only [List.getElem_toArray, List.getElem_cons_zero, List.getElem_cons_succ, Act.put, List.setIfInBounds_toArray, List.set_cons_succ, List.set_cons_zero]
  refine wpAnyH_take (i := 6) (v := undef) rfl (by kernel_rfl) (by kernel_rfl) (by kernel_rfl) (fun _ _ _ h => h) (Or.inr ⟨rfl, rfl⟩) hS ?_
  simp only [List.getElem_toArray, List.getElem_cons_zero, List.getElem_cons_succ, Act.put, List.setIfInBounds_toArray, List.set_cons_succ, List.set_cons_zero]
  refine wpAnyH_take (i := 7) (v := undef) rfl (by kernel_rfl) (by kernel_rfl) (by kernel_rfl) (fun _ _ _ h => h) (Or.inr ⟨rfl, rfl⟩) hS ?_
  simp only [List.getElem_toArray, List.getElem_cons_zero, List.getElem_cons_succ, Act.put, List.setIfInBounds_toArray, List.set_cons_succ, List.set_cons_zero]
  refine wpAnyH_take (i := 8) (v := undef) rfl (by kernel_rfl) (by kernel_rfl) (by kernel_rfl) (fun _ _ _ h => h) (Or.inr ⟨rfl, rfl⟩) hS ?_
  simp only [List.getElem_toArray, List.getElem_cons_zero, List.getElem_cons_succ, Act.put, List.setIfInBounds_toArray, List.set_cons_succ, List.set_cons_zero]
  refine wpAnyH_take (i := 9) (v := undef) rfl (by kernel_rfl) (by kernel_rfl) (by kernel_rfl) (fun _ _ _ h => h) (Or.inr ⟨rfl, rfl⟩) hS ?_
  simp only [List.getElem_toArray, List.getElem_cons_zero, List.getElem_cons_succ, Act.put, List.setIfInBounds_toArray, List.set_cons_succ, List.set_cons_zero]
  refine wpAnyH_take (i := 10) (v := undef) rfl (by kernel_rfl) (by kernel_rfl) (by kernel_rfl) (fun _ _ _ h => h) (Or.inr ⟨rfl, rfl⟩) hS ?_
  simp only [List.getElem_toArray, List.getElem_cons_zero, List.getElem_cons_succ, Act.put, List.setIfInBounds_toArray, List.set_cons_succ, List.set_cons_zero]
  refine wpAnyH_take (i := 11) (v := undef) rfl (by kernel_rfl) (by kernel_rfl) (by kernel_rfl) (fun _ _ _ h => h) (Or.inr ⟨rfl, rfl⟩) hS ?_
  simp only [List.getElem_toArray, List.getElem_cons_zero, List.getElem_cons_succ, Act.put, List.setIfInBounds_toArray, List.set_cons_succ, List.set_cons_zero]
  refine wpAnyH_take (i := 12) (v := undef) rfl (by kernel_rfl) (by kernel_rfl) (by kernel_rfl) (fun _ _ _ h => h) (Or.inr ⟨rfl, rfl⟩) hS ?_
  simp only [List.getElem_toArray, List.getElem_cons_zero, List.getElem_cons_succ, Act.put, List.setIfInBounds_toArray, List.set_cons_succ, List.set_cons_zero]
  refine wpAnyH_take (i := 13) (v := undef) rfl (by kernel_rfl) (by kernel_rfl) (by kernel_rfl) (fun _ _ _ h => h) (Or.inr ⟨rfl, rfl⟩) hS ?_
  simp only [List.getElem_toArray, List.getElem_cons_zero, List.getElem_cons_succ, Act.put, List.setIfInBounds_toArray, List.set_cons_succ, List.set_cons_zero]
  refine wpAnyH_take (i := 14) (v := .bool true) rfl (by kernel_rfl) (by kernel_rfl) (by kernel_rfl) (fun _ _ _ h => h) (Or.inl ⟨by rfl, ?r⟩) hS ?_
  case r => intro W hW; obtain ⟨k0, k1, k2, k3, k4, kp, x0, x1, x2, x3, x4⟩ := hW; simp [go_sem, execOp, Act.eval]
  simp only [List.getElem_toArray, List.getElem_cons_zero, List.getElem_cons_succ, Act.put, List.setIfInBounds_toArray, List.set_cons_succ, List.set_cons_zero]
  refine wpAnyH_all (rs := [15]) (by kernel_rfl) (by simp) (fun i2 hi2 => ?_)
  obtain rfl : i2 = 15 := by simpa using hi2
  clear hi2
  refine wpOp_step rfl (fun K hK => ite_yes rfl ?_)
  simp only [List.getElem_toArray, List.getElem_cons_zero, List.getElem_cons_succ]
  go_simp
  refine (HPX.out _ _ _ (Nat.le_trans (Nat.le_of_eq (Eq.refl s.ind)) hi) (HD0.out.1.below hB5) (Nat.le_trans hBW hB5.size) (In.pk (HL0.out.get 0 (by simp)).2 (PK.of (pb := pb) (base := base) hB5 hBW) hpb)).mono ?_
  rintro e w1 ⟨⟨u1, rfl⟩, v1, hP1, hi1, hq1⟩
  have hk1 : PK pb base w0 w1 := (PK.of hB5 hBW).trans hq1
  clear hq1
  go_simp
  refine hK _ _ ⟨HK.out _ hk1, ?_⟩
  clear hK K hS hB5
  refine wpAnyH_done (by kernel_rfl) ?_ _
  refine NoPanic.normal ?_
  try simp only [Act.put, List.setIfInBounds_toArray, List.set_cons_succ, List.set_cons_zero]
  have HJ1 : Hid ((partG true y0.kind g0 s).ind = s.ind) := hi1.trans (Eq.refl s.ind)
  have hK1 : PK pb base w w1 := HD0.out.2.1.trans hk1
  have nd1 := hk1.high (w.heap.size + 1) _ _ _ (by omega) HD0.out.2.2.1 (by decide)
  have pd1 := hk1.high w.heap.size _ _ _ (by omega) HD0.out.2.2.2 (by decide)
  have HI1 : Hid _ := In.pk HI0.out hk1 hpb
  have HL1 : Hid (MT.InL pb w1 b o [y0]) := MT.InL.below (hk1.below (by omega) (Nat.le_refl _)) b o hbp _ HL0.out
  have hz1 := lt_of nd1
  have HD1 : Hid (_ ∧ _ ∧ _ ∧ _) := ⟨hP1, hK1, nd1, pd1⟩
  clear hBW HK
  obtain ⟨k0, k1, k2, k3, k4⟩ := cells5 nd1
  have kp := cells1 pd1
  have hbz1 : b < w1.heap.size := by omega
  clear hP1 hK1 nd1 hk1 HD0 HI0 pd1 HL0
  go_wp2_with fail
  refine ((brack_any (o := ⟨#[40]⟩) (c := ⟨#[41]⟩) hpb (by decide) (by decide) (c167e (t := t) (n := n) (a := a) (p := some ⟨b, o, none⟩) (y0 := y0) hpb ⟨by omega, by omega⟩ Hh1.out) (fun _ _ h1 h2 => h1.pk hpb (by omega) (by omega) h2) Tryz.call167) _ _ _ (Nat.le_trans (Nat.le_of_eq HJ1.out) hi) HD1.out.1 (Nat.le_trans hB HD1.out.2.1.size) ⟨HD1.out.2.2.2, HD1.out.2.2.1, HI1.out⟩).mono ?_
  rintro e w2 ⟨⟨u2, rfl⟩, v2, hP2, hi2, hk2⟩
  have HJ2 : Hid ((brG ⟨#[40]⟩ ⟨#[41]⟩ g1 (partG true y0.kind g0 s)).ind = s.ind) := hi2.trans HJ1.out
  clear hi2
  have HE : Hid (_ ∧ PK pb base w w2) := ⟨hP2, HD1.out.2.1.trans hk2⟩
  clear hP2 hk2 k0 k1 k2 k3 k4 kp
  go_wp2_with fail
  go_end0
  exact ⟨⟨_, rfl⟩, v2, HE.out.1, HJ2.out, HE.out.2⟩
set_option maxRecDepth 100000 in
set_option maxHeartbeats 4000000 in
theorem post_48be  {t : ByteArray} {n : Int} {a : Int} {p : Option Addr} {y0 : MT}  {g0 g1 : PS → PS} (h0 : Wf 132 pb base L y0 g0) (h1 : ∀ p', Wc 70 #[.pointer (some ⟨pb, 0, none⟩), .slice p' 0 0, .func (.func 71) #[.pointer (some ⟨pb, 0, none⟩)] #[]] pb base L (Kd pb p' []) g1) (hl : ¬ levK y0 < 7) (hk : y0.kind = 14) (hpb : pb < base) : Wf 148 pb base L (.node 48 t n a p 1 [y0]) (fun s => (brG ⟨#[40]⟩ ⟨#[41]⟩ g1 (partG (y0.text.toList == [110, 105, 108]) y0.kind g0 s))) := by
  intro s v w hi hP hB hin
  have hkk := hin.kidsL
  simp only [MT.kids_node, MT.ptr_node] at hkk
  rcases hkk with hkk | ⟨b, o, rfl, hbp, hL⟩
  · cases hkk
  have Hh1 : Hid _ := h1
  clear h1
  have Hhk : Hid _ := hk
  clear hk
  have hb0 : Below w.heap.size w (((w.alloc (.cells #[.pointer (some ⟨pb, 0, none⟩)] 114)).alloc (.cells #[.int .i64 48, .string t, .int .i64 n, .int .i64 a, .slice (some ⟨b, o, none⟩) 1 1] 24)).alloc (.cells #[.int .i64 y0.kind, .string y0.text, .int .i64 y0.num, .int .i64 y0.at_, .slice y0.ptr y0.kids.length y0.cap] 24)) := (below2 _ _ _).alloc (by simp only [World.size_alloc]; omega) _
  have hP0 := hP.below hb0
  have hK0 : PK pb base w _ := PK.of (pb := pb) hb0 hB
  have HI0 : Hid _ := In.pk hin hK0 hpb
  have pd0 := (hb0x_ w (.cells #[.pointer (some ⟨pb, 0, none⟩)] 114) (.cells #[.int .i64 48, .string t, .int .i64 n, .int .i64 a, .slice (some ⟨b, o, none⟩) 1 1] 24) (.cells #[.int .i64 y0.kind, .string y0.text, .int .i64 y0.num, .int .i64 y0.at_, .slice y0.ptr y0.kids.length y0.cap] 24))
  have nd0 := (nb0x_ w (.cells #[.pointer (some ⟨pb, 0, none⟩)] 114) (.cells #[.int .i64 48, .string t, .int .i64 n, .int .i64 a, .slice (some ⟨b, o, none⟩) 1 1] 24) (.cells #[.int .i64 y0.kind, .string y0.text, .int .i64 y0.num, .int .i64 y0.at_, .slice y0.ptr y0.kids.length y0.cap] 24))
  have HL0 : Hid (MT.InL pb _ b o [y0]) := MT.InL.below (hb0.mono (by omega)) b o hbp _ hL
  have hz0 := lt_of nd0
  have HD0 : Hid (_ ∧ _ ∧ _ ∧ _) := ⟨hP0, hK0, nd0, pd0⟩
  have hbz : b < w.heap.size := by omega
  have XD0 : Hid ((((w.alloc (.cells #[.pointer (some ⟨pb, 0, none⟩)] 114)).alloc (.cells #[.int .i64 48, .string t, .int .i64 n, .int .i64 a, .slice (some ⟨b, o, none⟩) 1 1] 24)).alloc (.cells #[.int .i64 y0.kind, .string y0.text, .int .i64 y0.num, .int .i64 y0.at_, .slice y0.ptr y0.kids.length y0.cap] 24)).heap[w.heap.size + 1 + 1]? = some (.cells #[.int .i64 y0.kind, .string y0.text, .int .i64 y0.num, .int .i64 y0.at_, .slice y0.ptr y0.kids.length y0.cap] 24 (0, 0))) := by have := heap_alloc_new ((w.alloc (.cells #[.pointer (some ⟨pb, 0, none⟩)] 114)).alloc (.cells #[.int .i64 48, .string t, .int .i64 n, .int .i64 a, .slice (some ⟨b, o, none⟩) 1 1] 24)) (.cells #[.int .i64 y0.kind, .string y0.text, .int .i64 y0.num, .int .i64 y0.at_, .slice y0.ptr y0.kids.length y0.cap] 24); simp only [World.size_alloc] at this; exact this
  obtain ⟨c00, c01, c02, c03, c04⟩ : MT.CellsAt w b o y0 := (hL.get 0 (by simp)).1
  clear hP hin hb0 hP0 hK0 nd0 pd0 hL
  rw [nv1]
  go_enter Tryz.func148, Tryz.ntmps148
  go_wp2_with fail
  have HLX : Hid _ := level_all y0
  have HPX : Hid _ := part_all (y0.text.toList == [110, 105, 108]) hpb h0
  clear h0
  obtain ⟨w0, hw0⟩ : ∃ W, W = (((w.alloc (.cells #[.pointer (some ⟨pb, 0, none⟩)] 114)).alloc (.cells #[.int .i64 48, .string t, .int .i64 n, .int .i64 a, .slice (some ⟨b, o, none⟩) 1 1] 24)).alloc (.cells #[.int .i64 y0.kind, .string y0.text, .int .i64 y0.num, .int .i64 y0.at_, .slice y0.ptr y0.kids.length y0.cap] 24)) := ⟨_, rfl⟩
  rw [← hw0] at HD0 HI0 hz0 HL0 XD0 ⊢
  clear hw0
  have hbz0 : b < w0.heap.size := by omega
  clear c00 c01 c02 c03 c04
  have HK : Hid (∀ W, PK pb base w0 W → (W.cell? ⟨w.heap.size + 1, 0, none⟩ = some (.int .i64 48) ∧ W.cell? ⟨w.heap.size + 1, 1, none⟩ = some (.string t) ∧ W.cell? ⟨w.heap.size + 1, 2, none⟩ = some (.int .i64 n) ∧ W.cell? ⟨w.heap.size + 1, 3, none⟩ = some (.int .i64 a) ∧ W.cell? ⟨w.heap.size + 1, 4, none⟩ = some (.slice (some ⟨b, o, none⟩) 1 1) ∧ W.cell? ⟨w.heap.size, 0, none⟩ = some (.pointer (some ⟨pb, 0, none⟩)) ∧ W.cell? ⟨w.heap.size + 1 + 1, 0, none⟩ = some (.int .i64 y0.kind) ∧ W.cell? ⟨w.heap.size + 1 + 1, 1, none⟩ = some (.string y0.text) ∧ W.cell? ⟨w.heap.size + 1 + 1, 2, none⟩ = some (.int .i64 y0.num) ∧ W.cell? ⟨w.heap.size + 1 + 1, 3, none⟩ = some (.int .i64 y0.at_) ∧ W.cell? ⟨w.heap.size + 1 + 1, 4, none⟩ = some (.slice y0.ptr y0.kids.length y0.cap))) := fun W hW => by
    have nd := hW.high (w.heap.size + 1) _ _ _ (by omega) HD0.out.2.2.1 (by decide)
    have pd := hW.high w.heap.size _ _ _ (by omega) HD0.out.2.2.2 (by decide)
    have hLW := MT.InL.below (hW.below (by omega) (Nat.le_refl _)) b o hbp _ HL0.out
    have xd := hW.high (w.heap.size + 1 + 1) _ _ _ (by omega) XD0.out (by decide)
    obtain ⟨k0, k1, k2, k3, k4⟩ := cells5 nd
    exact ⟨k0, k1, k2, k3, k4, cells1 pd, (cells5 xd).1, (cells5 xd).2.1, (cells5 xd).2.2.1, (cells5 xd).2.2.2.1, (cells5 xd).2.2.2.2⟩
  have hBW : base ≤ w0.heap.size := by omega
  obtain ⟨k0, k1, k2, k3, k4, kp, x0, x1, x2, x3, x4⟩ := HK.out w0 (PK.refl _ _ _)
  refine wp_region_noPanic ?_
  refine wp_region_held (S := fun W => W.cell? ⟨w.heap.size + 1, 0, none⟩ = some (.int .i64 48) ∧ W.cell? ⟨w.heap.size + 1, 1, none⟩ = some (.string t) ∧ W.cell? ⟨w.heap.size + 1, 2, none⟩ = some (.int .i64 n) ∧ W.cell? ⟨w.heap.size + 1, 3, none⟩ = some (.int .i64 a) ∧ W.cell? ⟨w.heap.size + 1, 4, none⟩ = some (.slice (some ⟨b, o, none⟩) 1 1) ∧ W.cell? ⟨w.heap.size, 0, none⟩ = some (.pointer (some ⟨pb, 0, none⟩)) ∧ W.cell? ⟨w.heap.size + 1 + 1, 0, none⟩ = some (.int .i64 y0.kind) ∧ W.cell? ⟨w.heap.size + 1 + 1, 1, none⟩ = some (.string y0.text) ∧ W.cell? ⟨w.heap.size + 1 + 1, 2, none⟩ = some (.int .i64 y0.num) ∧ W.cell? ⟨w.heap.size + 1 + 1, 3, none⟩ = some (.int .i64 y0.at_) ∧ W.cell? ⟨w.heap.size + 1 + 1, 4, none⟩ = some (.slice y0.ptr y0.kids.length y0.cap)) (by kernel_rfl) ?_
  obtain ⟨W4, hW4⟩ : ∃ W4, W4 = (w0).drew := ⟨_, rfl⟩
  have e4 : ({ w0 with drawn := (w0).drawn + 1 } : World) = W4 := hW4.symm
  rw [e4]
  have hB4 : Below w0.heap.size w0 W4 := by rw [hW4]; exact (Below.refl _ _).drew
  have hS := HK.out _ (PK.of hB4 hBW)
  clear e4 hW4 k0 k1 k2 k3 k4 kp x0 x1 x2 x3 x4
  refine wpAnyH_take (i := 0) (v := .pointer (some ⟨pb, 0, none⟩)) rfl (by kernel_rfl) (by kernel_rfl) (by kernel_rfl) (fun _ _ _ h => h) (Or.inl ⟨by rfl, ?r⟩) hS ?_
  case r => intro W hW; obtain ⟨k0, k1, k2, k3, k4, kp, x0, x1, x2, x3, x4⟩ := hW; simp [go_sem, execOp, Act.eval, kp]
  simp only [List.getElem_toArray, List.getElem_cons_zero, Act.put, List.setIfInBounds_toArray, List.set_cons_succ, List.set_cons_zero]
  refine wpAnyH_take (i := 1) (v := .agg #[.int .i64 y0.kind, .string y0.text, .int .i64 y0.num, .int .i64 y0.at_, .slice y0.ptr y0.kids.length y0.cap]) rfl (by kernel_rfl) (by kernel_rfl) (by kernel_rfl) (fun _ _ _ h => h) (Or.inl ⟨by rfl, ?r⟩) hS ?_
  case r => intro W hW; obtain ⟨k0, k1, k2, k3, k4, kp, x0, x1, x2, x3, x4⟩ := hW; simp [go_sem, execOp, Act.eval, x0, x1, x2, x3, x4]
  simp only [List.getElem_toArray, List.getElem_cons_zero, List.getElem_cons_succ, Act.put, List.setIfInBounds_toArray, List.set_cons_succ, List.set_cons_zero]
  refine wpAnyH_take (i := 2) (v := .agg #[.int .i64 y0.kind, .string y0.text, .int .i64 y0.num, .int .i64 y0.at_, .slice y0.ptr y0.kids.length y0.cap]) rfl (by kernel_rfl) (by kernel_rfl) (by kernel_rfl) (fun _ _ _ h => h) (Or.inl ⟨by rfl, ?r⟩) hS ?_
  case r => intro W hW; obtain ⟨k0, k1, k2, k3, k4, kp, x0, x1, x2, x3, x4⟩ := hW; simp [go_sem, execOp, Act.eval, x0, x1, x2, x3, x4]
  simp only [List.getElem_toArray, List.getElem_cons_zero, List.getElem_cons_succ, Act.put, List.setIfInBounds_toArray, List.set_cons_succ, List.set_cons_zero]
  refine wpAnyH_all (rs := [3]) (by kernel_rfl) (by simp) (fun i2 hi2 => ?_)
  obtain rfl : i2 = 3 := by simpa using hi2
  clear hi2
  refine wpOp_step rfl (fun K hK => ite_yes rfl ?_)
  simp only [List.getElem_toArray, List.getElem_cons_zero, List.getElem_cons_succ]
  go_simp
  refine (HLX.out _).mono ?_
  rintro r' W5 ⟨rfl, bq⟩
  have hB5 : Below w0.heap.size w0 W5 := hB4.trans (bq.mono hB4.size)
  go_simp
  refine hK _ _ ⟨HK.out _ (PK.of hB5 hBW), ?_⟩
  clear hK K hS bq hB4
  have hS := HK.out _ (PK.of hB5 hBW)
  try simp only [Act.put, List.setIfInBounds_toArray, List.set_cons_succ, List.set_cons_zero]
  refine wpAnyH_take (i := 4) (v := .bool false) rfl (by kernel_rfl) (by kernel_rfl) (by kernel_rfl) (fun _ _ _ h => h) (Or.inl ⟨by rfl, ?r⟩) hS ?_
  case r => intro W hW; obtain ⟨k0, k1, k2, k3, k4, kp, x0, x1, x2, x3, x4⟩ := hW; simp [go_sem, execOp, Act.eval, hl]
  simp only [List.getElem_toArray, List.getElem_cons_zero, List.getElem_cons_succ, Act.put, List.setIfInBounds_toArray, List.set_cons_succ, List.set_cons_zero]
  refine wpAnyH_take (i := 5) (v := .bool false) rfl (by kernel_rfl) (by kernel_rfl) (by kernel_rfl) (fun _ _ _ h => h) (Or.inl ⟨by rfl, ?r⟩) hS ?_
  case r => intro W hW; obtain ⟨k0, k1, k2, k3, k4, kp, x0, x1, x2, x3, x4⟩ := hW; simp [go_sem, execOp, Act.eval]
  simp only [List.getElem_toArray, List.getElem_cons_zero, List.getElem_cons_succ, Act.put, List.setIfInBounds_toArray, List.set_cons_succ, List.set_cons_zero]
  refine wpAnyH_take (i := 6) (v := .pointer (some ⟨w.heap.size + 1 + 1, 0, none⟩)) rfl (by kernel_rfl) (by kernel_rfl) (by kernel_rfl) (fun _ _ _ h => h) (Or.inl ⟨by rfl, ?r⟩) hS ?_
  case r => intro W hW; obtain ⟨k0, k1, k2, k3, k4, kp, x0, x1, x2, x3, x4⟩ := hW; simp [go_sem, execOp, Act.eval]
  simp only [List.getElem_toArray, List.getElem_cons_zero, List.getElem_cons_succ, Act.put, List.setIfInBounds_toArray, List.set_cons_succ, List.set_cons_zero]
  refine wpAnyH_take (i := 7) (v := .int .i64 y0.kind) rfl (by kernel_rfl) (by kernel_rfl) (by kernel_rfl) (fun _ _ _ h => h) (Or.inl ⟨by rfl, ?r⟩) hS ?_
  case r => intro W hW; obtain ⟨k0, k1, k2, k3, k4, kp, x0, x1, x2, x3, x4⟩ := hW; simp [go_sem, execOp, Act.eval, x0]
  simp only [List.getElem_toArray, List.getElem_cons_zero, List.getElem_cons_succ, Act.put, List.setIfInBounds_toArray, List.set_cons_succ, List.set_cons_zero]
  refine wpAnyH_take (i := 8) (v := .bool true) rfl (by kernel_rfl) (by kernel_rfl) (by kernel_rfl) (fun _ _ _ h => h) (Or.inl ⟨by rfl, ?r⟩) hS ?_
  case r => intro W hW; obtain ⟨k0, k1, k2, k3, k4, kp, x0, x1, x2, x3, x4⟩ := hW; simp [go_sem, execOp, Act.eval, Hhk.out]
  simp only [List.getElem_toArray, List.getElem_cons_zero, List.getElem_cons_succ, Act.put, List.setIfInBounds_toArray, List.set_cons_succ, List.set_cons_zero]
  refine wpAnyH_take (i := 9) (v := .bool true) rfl (by kernel_rfl) (by kernel_rfl) (by kernel_rfl) (fun _ _ _ h => h) (Or.inl ⟨by rfl, ?r⟩) hS ?_
  case r => intro W hW; obtain ⟨k0, k1, k2, k3, k4, kp, x0, x1, x2, x3, x4⟩ := hW; simp [go_sem, execOp, Act.eval]
  simp only [List.getElem_toArray, List.getElem_cons_zero, List.getElem_cons_succ, Act.put, List.setIfInBounds_toArray, List.set_cons_succ, List.set_cons_zero]
  refine wpAnyH_take (i := 10) (v := .pointer (some ⟨w.heap.size + 1 + 1, 1, none⟩)) rfl (by kernel_rfl) (by kernel_rfl) (by kernel_rfl) (fun _ _ _ h => h) (Or.inl ⟨by rfl, ?r⟩) hS ?_
  case r => intro W hW; obtain ⟨k0, k1, k2, k3, k4, kp, x0, x1, x2, x3, x4⟩ := hW; simp [go_sem, execOp, Act.eval]
  simp only [List.getElem_toArray, List.getElem_cons_zero, List.getElem_cons_succ, Act.put, List.setIfInBounds_toArray, List.set_cons_succ, List.set_cons_zero]
  refine wpAnyH_take (i := 11) (v := .string y0.text) rfl (by kernel_rfl) (by kernel_rfl) (by kernel_rfl) (fun _ _ _ h => h) (Or.inl ⟨by rfl, ?r⟩) hS ?_
  case r => intro W hW; obtain ⟨k0, k1, k2, k3, k4, kp, x0, x1, x2, x3, x4⟩ := hW; simp [go_sem, execOp, Act.eval, x1]
  simp only [List.getElem_toArray, List.getElem_cons_zero, List.getElem_cons_succ, Act.put, List.setIfInBounds_toArray, List.set_cons_succ, List.set_cons_zero]
  refine wpAnyH_take (i := 12) (v := .bool (y0.text.toList == [110, 105, 108])) rfl (by kernel_rfl) (by kernel_rfl) (by kernel_rfl) (fun _ _ _ h => h) (Or.inl ⟨by rfl, ?r⟩) hS ?_
  case r => intro W hW; obtain ⟨k0, k1, k2, k3, k4, kp, x0, x1, x2, x3, x4⟩ := hW; simp [go_sem, execOp, Act.eval]
  simp only [List.getElem_toArray, List.getElem_cons_zero, List.getElem_cons_succ, Act.put, List.setIfInBounds_toArray, List.set_cons_succ, List.set_cons_zero]
  refine wpAnyH_take (i := 13) (v := .bool (y0.text.toList == [110, 105, 108])) rfl (by kernel_rfl) (by kernel_rfl) (by kernel_rfl) (fun _ _ _ h => h) (Or.inl ⟨by rfl, ?r⟩) hS ?_
  case r => intro W hW; obtain ⟨k0, k1, k2, k3, k4, kp, x0, x1, x2, x3, x4⟩ := hW; simp [go_sem, execOp, Act.eval]
  simp only [List.getElem_toArray, List.getElem_cons_zero, List.getElem_cons_succ, Act.put, List.setIfInBounds_toArray, List.set_cons_succ, List.set_cons_zero]
  refine wpAnyH_take (i := 14) (v := .bool (y0.text.toList == [110, 105, 108])) rfl (by kernel_rfl) (by kernel_rfl) (by kernel_rfl) (fun _ _ _ h => h) (Or.inl ⟨by rfl, ?r⟩) hS ?_
  case r => intro W hW; obtain ⟨k0, k1, k2, k3, k4, kp, x0, x1, x2, x3, x4⟩ := hW; simp [go_sem, execOp, Act.eval]
  simp only [List.getElem_toArray, List.getElem_cons_zero, List.getElem_cons_succ, Act.put, List.setIfInBounds_toArray, List.set_cons_succ, List.set_cons_zero]
  refine wpAnyH_all (rs := [15]) (by kernel_rfl) (by simp) (fun i2 hi2 => ?_)
  obtain rfl : i2 = 15 := by simpa using hi2
  clear hi2
  refine wpOp_step rfl (fun K hK => ite_yes rfl ?_)
  simp only [List.getElem_toArray, List.getElem_cons_zero, List.getElem_cons_succ]
  go_simp
  refine (HPX.out _ _ _ (Nat.le_trans (Nat.le_of_eq (Eq.refl s.ind)) hi) (HD0.out.1.below hB5) (Nat.le_trans hBW hB5.size) (In.pk (HL0.out.get 0 (by simp)).2 (PK.of (pb := pb) (base := base) hB5 hBW) hpb)).mono ?_
  rintro e w1 ⟨⟨u1, rfl⟩, v1, hP1, hi1, hq1⟩
  have hk1 : PK pb base w0 w1 := (PK.of hB5 hBW).trans hq1
  clear hq1
  go_simp
  refine hK _ _ ⟨HK.out _ hk1, ?_⟩
  clear hK K hS hB5
  refine wpAnyH_done (by kernel_rfl) ?_ _
  refine NoPanic.normal ?_
  try simp only [Act.put, List.setIfInBounds_toArray, List.set_cons_succ, List.set_cons_zero]
  have HJ1 : Hid ((partG (y0.text.toList == [110, 105, 108]) y0.kind g0 s).ind = s.ind) := hi1.trans (Eq.refl s.ind)
  have hK1 : PK pb base w w1 := HD0.out.2.1.trans hk1
  have nd1 := hk1.high (w.heap.size + 1) _ _ _ (by omega) HD0.out.2.2.1 (by decide)
  have pd1 := hk1.high w.heap.size _ _ _ (by omega) HD0.out.2.2.2 (by decide)
  have HI1 : Hid _ := In.pk HI0.out hk1 hpb
  have HL1 : Hid (MT.InL pb w1 b o [y0]) := MT.InL.below (hk1.below (by omega) (Nat.le_refl _)) b o hbp _ HL0.out
  have hz1 := lt_of nd1
  have HD1 : Hid (_ ∧ _ ∧ _ ∧ _) := ⟨hP1, hK1, nd1, pd1⟩
  clear hBW HK
  obtain ⟨k0, k1, k2, k3, k4⟩ := cells5 nd1
  have kp := cells1 pd1
  have hbz1 : b < w1.heap.size := by omega
  clear hP1 hK1 nd1 hk1 HD0 HI0 pd1 HL0
  go_wp2_with fail
  refine ((brack_any (o := ⟨#[40]⟩) (c := ⟨#[41]⟩) hpb (by decide) (by decide) (c167e (t := t) (n := n) (a := a) (p := some ⟨b, o, none⟩) (y0 := y0) hpb ⟨by omega, by omega⟩ Hh1.out) (fun _ _ h1 h2 => h1.pk hpb (by omega) (by omega) h2) Tryz.call167) _ _ _ (Nat.le_trans (Nat.le_of_eq HJ1.out) hi) HD1.out.1 (Nat.le_trans hB HD1.out.2.1.size) ⟨HD1.out.2.2.2, HD1.out.2.2.1, HI1.out⟩).mono ?_
  rintro e w2 ⟨⟨u2, rfl⟩, v2, hP2, hi2, hk2⟩
  have HJ2 : Hid ((brG ⟨#[40]⟩ ⟨#[41]⟩ g1 (partG (y0.text.toList == [110, 105, 108]) y0.kind g0 s)).ind = s.ind) := hi2.trans HJ1.out
  clear hi2
  have HE : Hid (_ ∧ PK pb base w w2) := ⟨hP2, HD1.out.2.1.trans hk2⟩
  clear hP2 hk2 k0 k1 k2 k3 k4 kp
  go_wp2_with fail
  go_end0
  exact ⟨⟨_, rfl⟩, v2, HE.out.1, HJ2.out, HE.out.2⟩
set_option maxRecDepth 100000 in
set_option maxHeartbeats 4000000 in
theorem post_48ce  {t : ByteArray} {n : Int} {a : Int} {p : Option Addr} {y0 : MT}  {g0 g1 : PS → PS} (h0 : Wf 132 pb base L y0 g0) (h1 : ∀ p', Wc 70 #[.pointer (some ⟨pb, 0, none⟩), .slice p' 0 0, .func (.func 71) #[.pointer (some ⟨pb, 0, none⟩)] #[]] pb base L (Kd pb p' []) g1) (hl : ¬ levK y0 < 7) (hk : ¬ y0.kind = 14) (hpb : pb < base) : Wf 148 pb base L (.node 48 t n a p 1 [y0]) (fun s => (brG ⟨#[40]⟩ ⟨#[41]⟩ g1 (partG false y0.kind g0 s))) := by
  intro s v w hi hP hB hin
  have hkk := hin.kidsL
  simp only [MT.kids_node, MT.ptr_node] at hkk
  rcases hkk with hkk | ⟨b, o, rfl, hbp, hL⟩
  · cases hkk
  have Hh1 : Hid _ := h1
  clear h1
  have hb0 : Below w.heap.size w (((w.alloc (.cells #[.pointer (some ⟨pb, 0, none⟩)] 114)).alloc (.cells #[.int .i64 48, .string t, .int .i64 n, .int .i64 a, .slice (some ⟨b, o, none⟩) 1 1] 24)).alloc (.cells #[.int .i64 y0.kind, .string y0.text, .int .i64 y0.num, .int .i64 y0.at_, .slice y0.ptr y0.kids.length y0.cap] 24)) := (below2 _ _ _).alloc (by simp only [World.size_alloc]; omega) _
  have hP0 := hP.below hb0
  have hK0 : PK pb base w _ := PK.of (pb := pb) hb0 hB
  have HI0 : Hid _ := In.pk hin hK0 hpb
  have pd0 := (hb0x_ w (.cells #[.pointer (some ⟨pb, 0, none⟩)] 114) (.cells #[.int .i64 48, .string t, .int .i64 n, .int .i64 a, .slice (some ⟨b, o, none⟩) 1 1] 24) (.cells #[.int .i64 y0.kind, .string y0.text, .int .i64 y0.num, .int .i64 y0.at_, .slice y0.ptr y0.kids.length y0.cap] 24))
  have nd0 := (nb0x_ w (.cells #[.pointer (some ⟨pb, 0, none⟩)] 114) (.cells #[.int .i64 48, .string t, .int .i64 n, .int .i64 a, .slice (some ⟨b, o, none⟩) 1 1] 24) (.cells #[.int .i64 y0.kind, .string y0.text, .int .i64 y0.num, .int .i64 y0.at_, .slice y0.ptr y0.kids.length y0.cap] 24))
  have HL0 : Hid (MT.InL pb _ b o [y0]) := MT.InL.below (hb0.mono (by omega)) b o hbp _ hL
  have hz0 := lt_of nd0
  have HD0 : Hid (_ ∧ _ ∧ _ ∧ _) := ⟨hP0, hK0, nd0, pd0⟩
  have hbz : b < w.heap.size := by omega
  have XD0 : Hid ((((w.alloc (.cells #[.pointer (some ⟨pb, 0, none⟩)] 114)).alloc (.cells #[.int .i64 48, .string t, .int .i64 n, .int .i64 a, .slice (some ⟨b, o, none⟩) 1 1] 24)).alloc (.cells #[.int .i64 y0.kind, .string y0.text, .int .i64 y0.num, .int .i64 y0.at_, .slice y0.ptr y0.kids.length y0.cap] 24)).heap[w.heap.size + 1 + 1]? = some (.cells #[.int .i64 y0.kind, .string y0.text, .int .i64 y0.num, .int .i64 y0.at_, .slice y0.ptr y0.kids.length y0.cap] 24 (0, 0))) := by have := heap_alloc_new ((w.alloc (.cells #[.pointer (some ⟨pb, 0, none⟩)] 114)).alloc (.cells #[.int .i64 48, .string t, .int .i64 n, .int .i64 a, .slice (some ⟨b, o, none⟩) 1 1] 24)) (.cells #[.int .i64 y0.kind, .string y0.text, .int .i64 y0.num, .int .i64 y0.at_, .slice y0.ptr y0.kids.length y0.cap] 24); simp only [World.size_alloc] at this; exact this
  obtain ⟨c00, c01, c02, c03, c04⟩ : MT.CellsAt w b o y0 := (hL.get 0 (by simp)).1
  clear hP hin hb0 hP0 hK0 nd0 pd0 hL
  rw [nv1]
  go_enter Tryz.func148, Tryz.ntmps148
  go_wp2_with fail
  have HLX : Hid _ := level_all y0
  have HPX : Hid _ := part_all false hpb h0
  clear h0
  obtain ⟨w0, hw0⟩ : ∃ W, W = (((w.alloc (.cells #[.pointer (some ⟨pb, 0, none⟩)] 114)).alloc (.cells #[.int .i64 48, .string t, .int .i64 n, .int .i64 a, .slice (some ⟨b, o, none⟩) 1 1] 24)).alloc (.cells #[.int .i64 y0.kind, .string y0.text, .int .i64 y0.num, .int .i64 y0.at_, .slice y0.ptr y0.kids.length y0.cap] 24)) := ⟨_, rfl⟩
  rw [← hw0] at HD0 HI0 hz0 HL0 XD0 ⊢
  clear hw0
  have hbz0 : b < w0.heap.size := by omega
  clear c00 c01 c02 c03 c04
  have HK : Hid (∀ W, PK pb base w0 W → (W.cell? ⟨w.heap.size + 1, 0, none⟩ = some (.int .i64 48) ∧ W.cell? ⟨w.heap.size + 1, 1, none⟩ = some (.string t) ∧ W.cell? ⟨w.heap.size + 1, 2, none⟩ = some (.int .i64 n) ∧ W.cell? ⟨w.heap.size + 1, 3, none⟩ = some (.int .i64 a) ∧ W.cell? ⟨w.heap.size + 1, 4, none⟩ = some (.slice (some ⟨b, o, none⟩) 1 1) ∧ W.cell? ⟨w.heap.size, 0, none⟩ = some (.pointer (some ⟨pb, 0, none⟩)) ∧ W.cell? ⟨w.heap.size + 1 + 1, 0, none⟩ = some (.int .i64 y0.kind) ∧ W.cell? ⟨w.heap.size + 1 + 1, 1, none⟩ = some (.string y0.text) ∧ W.cell? ⟨w.heap.size + 1 + 1, 2, none⟩ = some (.int .i64 y0.num) ∧ W.cell? ⟨w.heap.size + 1 + 1, 3, none⟩ = some (.int .i64 y0.at_) ∧ W.cell? ⟨w.heap.size + 1 + 1, 4, none⟩ = some (.slice y0.ptr y0.kids.length y0.cap))) := fun W hW => by
    have nd := hW.high (w.heap.size + 1) _ _ _ (by omega) HD0.out.2.2.1 (by decide)
    have pd := hW.high w.heap.size _ _ _ (by omega) HD0.out.2.2.2 (by decide)
    have hLW := MT.InL.below (hW.below (by omega) (Nat.le_refl _)) b o hbp _ HL0.out
    have xd := hW.high (w.heap.size + 1 + 1) _ _ _ (by omega) XD0.out (by decide)
    obtain ⟨k0, k1, k2, k3, k4⟩ := cells5 nd
    exact ⟨k0, k1, k2, k3, k4, cells1 pd, (cells5 xd).1, (cells5 xd).2.1, (cells5 xd).2.2.1, (cells5 xd).2.2.2.1, (cells5 xd).2.2.2.2⟩
  have hBW : base ≤ w0.heap.size := by omega
  obtain ⟨k0, k1, k2, k3, k4, kp, x0, x1, x2, x3, x4⟩ := HK.out w0 (PK.refl _ _ _)
  refine wp_region_noPanic ?_
  refine wp_region_held (S := fun W => W.cell? ⟨w.heap.size + 1, 0, none⟩ = some (.int .i64 48) ∧ W.cell? ⟨w.heap.size + 1, 1, none⟩ = some (.string t) ∧ W.cell? ⟨w.heap.size + 1, 2, none⟩ = some (.int .i64 n) ∧ W.cell? ⟨w.heap.size + 1, 3, none⟩ = some (.int .i64 a) ∧ W.cell? ⟨w.heap.size + 1, 4, none⟩ = some (.slice (some ⟨b, o, none⟩) 1 1) ∧ W.cell? ⟨w.heap.size, 0, none⟩ = some (.pointer (some ⟨pb, 0, none⟩)) ∧ W.cell? ⟨w.heap.size + 1 + 1, 0, none⟩ = some (.int .i64 y0.kind) ∧ W.cell? ⟨w.heap.size + 1 + 1, 1, none⟩ = some (.string y0.text) ∧ W.cell? ⟨w.heap.size + 1 + 1, 2, none⟩ = some (.int .i64 y0.num) ∧ W.cell? ⟨w.heap.size + 1 + 1, 3, none⟩ = some (.int .i64 y0.at_) ∧ W.cell? ⟨w.heap.size + 1 + 1, 4, none⟩ = some (.slice y0.ptr y0.kids.length y0.cap)) (by kernel_rfl) ?_
  obtain ⟨W4, hW4⟩ : ∃ W4, W4 = (w0).drew := ⟨_, rfl⟩
  have e4 : ({ w0 with drawn := (w0).drawn + 1 } : World) = W4 := hW4.symm
  rw [e4]
  have hB4 : Below w0.heap.size w0 W4 := by rw [hW4]; exact (Below.refl _ _).drew
  have hS := HK.out _ (PK.of hB4 hBW)
  clear e4 hW4 k0 k1 k2 k3 k4 kp x0 x1 x2 x3 x4
  refine wpAnyH_take (i := 0) (v := .pointer (some ⟨pb, 0, none⟩)) rfl (by kernel_rfl) (by kernel_rfl) (by kernel_rfl) (fun _ _ _ h => h) (Or.inl ⟨by rfl, ?r⟩) hS ?_
  case r => intro W hW; obtain ⟨k0, k1, k2, k3, k4, kp, x0, x1, x2, x3, x4⟩ := hW; simp [go_sem, execOp, Act.eval, kp]
  simp only [List.getElem_toArray, List.getElem_cons_zero, Act.put, List.setIfInBounds_toArray, List.set_cons_succ, List.set_cons_zero]
  refine wpAnyH_take (i := 1) (v := .agg #[.int .i64 y0.kind, .string y0.text, .int .i64 y0.num, .int .i64 y0.at_, .slice y0.ptr y0.kids.length y0.cap]) rfl (by kernel_rfl) (by kernel_rfl) (by kernel_rfl) (fun _ _ _ h => h) (Or.inl ⟨by rfl, ?r⟩) hS ?_
  case r => intro W hW; obtain ⟨k0, k1, k2, k3, k4, kp, x0, x1, x2, x3, x4⟩ := hW; simp [go_sem, execOp, Act.eval, x0, x1, x2, x3, x4]
  simp only [List.getElem_toArray, List.getElem_cons_zero, List.getElem_cons_succ, Act.put, List.setIfInBounds_toArray, List.set_cons_succ, List.set_cons_zero]
  refine wpAnyH_take (i := 2) (v := .agg #[.int .i64 y0.kind, .string y0.text, .int .i64 y0.num, .int .i64 y0.at_, .slice y0.ptr y0.kids.length y0.cap]) rfl (by kernel_rfl) (by kernel_rfl) (by kernel_rfl) (fun _ _ _ h => h) (Or.inl ⟨by rfl, ?r⟩) hS ?_
  case r => intro W hW; obtain ⟨k0, k1, k2, k3, k4, kp, x0, x1, x2, x3, x4⟩ := hW; simp [go_sem, execOp, Act.eval, x0, x1, x2, x3, x4]
  simp only [List.getElem_toArray, List.getElem_cons_zero, List.getElem_cons_succ, Act.put, List.setIfInBounds_toArray, List.set_cons_succ, List.set_cons_zero]
  refine wpAnyH_all (rs := [3]) (by kernel_rfl) (by simp) (fun i2 hi2 => ?_)
  obtain rfl : i2 = 3 := by simpa using hi2
  clear hi2
  refine wpOp_step rfl (fun K hK => ite_yes rfl ?_)
  simp only [List.getElem_toArray, List.getElem_cons_zero, List.getElem_cons_succ]
  go_simp
  refine (HLX.out _).mono ?_
  rintro r' W5 ⟨rfl, bq⟩
  have hB5 : Below w0.heap.size w0 W5 := hB4.trans (bq.mono hB4.size)
  go_simp
  refine hK _ _ ⟨HK.out _ (PK.of hB5 hBW), ?_⟩
  clear hK K hS bq hB4
  have hS := HK.out _ (PK.of hB5 hBW)
  try simp only [Act.put, List.setIfInBounds_toArray, List.set_cons_succ, List.set_cons_zero]
  refine wpAnyH_take (i := 4) (v := .bool false) rfl (by kernel_rfl) (by kernel_rfl) (by kernel_rfl) (fun _ _ _ h => h) (Or.inl ⟨by rfl, ?r⟩) hS ?_
  case r => intro W hW; obtain ⟨k0, k1, k2, k3, k4, kp, x0, x1, x2, x3, x4⟩ := hW; simp [go_sem, execOp, Act.eval, hl]
  simp only [List.getElem_toArray, List.getElem_cons_zero, List.getElem_cons_succ, Act.put, List.setIfInBounds_toArray, List.set_cons_succ, List.set_cons_zero]
  refine wpAnyH_take (i := 5) (v := .bool false) rfl (by kernel_rfl) (by kernel_rfl) (by kernel_rfl) (fun _ _ _ h => h) (Or.inl ⟨by rfl, ?r⟩) hS ?_
  case r => intro W hW; obtain ⟨k0, k1, k2, k3, k4, kp, x0, x1, x2, x3, x4⟩ := hW; simp [go_sem, execOp, Act.eval]
  simp only [List.getElem_toArray, List.getElem_cons_zero, List.getElem_cons_succ, Act.put, List.setIfInBounds_toArray, List.set_cons_succ, List.set_cons_zero]
  refine wpAnyH_take (i := 6) (v := .pointer (some ⟨w.heap.size + 1 + 1, 0, none⟩)) rfl (by kernel_rfl) (by kernel_rfl) (by kernel_rfl) (fun _ _ _ h => h) (Or.inl ⟨by rfl, ?r⟩) hS ?_
  case r => intro W hW; obtain ⟨k0, k1, k2, k3, k4, kp, x0, x1, x2, x3, x4⟩ := hW; simp [go_sem, execOp, Act.eval]
  simp only [List.getElem_toArray, List.getElem_cons_zero, List.getElem_cons_succ, Act.put, List.setIfInBounds_toArray, List.set_cons_succ, List.set_cons_zero]
  refine wpAnyH_take (i := 7) (v := .int .i64 y0.kind) rfl (by kernel_rfl) (by kernel_rfl) (by kernel_rfl) (fun _ _ _ h => h) (Or.inl ⟨by rfl, ?r⟩) hS ?_
  case r => intro W hW; obtain ⟨k0, k1, k2, k3, k4, kp, x0, x1, x2, x3, x4⟩ := hW; simp [go_sem, execOp, Act.eval, x0]
  simp only [List.getElem_toArray, List.getElem_cons_zero, List.getElem_cons_succ, Act.put, List.setIfInBounds_toArray, List.set_cons_succ, List.set_cons_zero]
  refine wpAnyH_take (i := 8) (v := .bool false) rfl (by kernel_rfl) (by kernel_rfl) (by kernel_rfl) (fun _ _ _ h => h) (Or.inl ⟨by rfl, ?r⟩) hS ?_
  case r => intro W hW; obtain ⟨k0, k1, k2, k3, k4, kp, x0, x1, x2, x3, x4⟩ := hW; simp [go_sem, execOp, Act.eval, hk]
  simp only [List.getElem_toArray, List.getElem_cons_zero, List.getElem_cons_succ, Act.put, List.setIfInBounds_toArray, List.set_cons_succ, List.set_cons_zero]
  refine wpAnyH_take (i := 9) (v := .bool false) rfl (by kernel_rfl) (by kernel_rfl) (by kernel_rfl) (fun _ _ _ h => h) (Or.inl ⟨by rfl, ?r⟩) hS ?_
  case r => intro W hW; obtain ⟨k0, k1, k2, k3, k4, kp, x0, x1, x2, x3, x4⟩ := hW; simp [go_sem, execOp, Act.eval]
  simp only [List.getElem_toArray, List.getElem_cons_zero, List.getElem_cons_succ, Act.put, List.setIfInBounds_toArray, List.set_cons_succ, List.set_cons_zero]
  refine wpAnyH_take (i := 10) (v := undef) rfl (by kernel_rfl) (by kernel_rfl) (by kernel_rfl) (fun _ _ _ h => h) (Or.inr ⟨rfl, rfl⟩) hS ?_
  simp only [List.getElem_toArray, List.getElem_cons_zero, List.getElem_cons_succ, Act.put, List.setIfInBounds_toArray, List.set_cons_succ, List.set_cons_zero]
  refine wpAnyH_take (i := 11) (v := undef) rfl (by kernel_rfl) (by kernel_rfl) (by kernel_rfl) (fun _ _ _ h => h) (Or.inr ⟨rfl, rfl⟩) hS ?_
  simp only [List.getElem_toArray, List.getElem_cons_zero, List.getElem_cons_succ, Act.put, List.setIfInBounds_toArray, List.set_cons_succ, List.set_cons_zero]
  refine wpAnyH_take (i := 12) (v := undef) rfl (by kernel_rfl) (by kernel_rfl) (by kernel_rfl) (fun _ _ _ h => h) (Or.inr ⟨rfl, rfl⟩) hS ?_
  simp only [List.getElem_toArray, List.getElem_cons_zero, List.getElem_cons_succ, Act.put, List.setIfInBounds_toArray, List.set_cons_succ, List.set_cons_zero]
  refine wpAnyH_take (i := 13) (v := .bool false) rfl (by kernel_rfl) (by kernel_rfl) (by kernel_rfl) (fun _ _ _ h => h) (Or.inl ⟨by rfl, ?r⟩) hS ?_
  case r => intro W hW; obtain ⟨k0, k1, k2, k3, k4, kp, x0, x1, x2, x3, x4⟩ := hW; simp [go_sem, execOp, Act.eval]
  simp only [List.getElem_toArray, List.getElem_cons_zero, List.getElem_cons_succ, Act.put, List.setIfInBounds_toArray, List.set_cons_succ, List.set_cons_zero]
  refine wpAnyH_take (i := 14) (v := .bool false) rfl (by kernel_rfl) (by kernel_rfl) (by kernel_rfl) (fun _ _ _ h => h) (Or.inl ⟨by rfl, ?r⟩) hS ?_
  case r => intro W hW; obtain ⟨k0, k1, k2, k3, k4, kp, x0, x1, x2, x3, x4⟩ := hW; simp [go_sem, execOp, Act.eval]
  simp only [List.getElem_toArray, List.getElem_cons_zero, List.getElem_cons_succ, Act.put, List.setIfInBounds_toArray, List.set_cons_succ, List.set_cons_zero]
  refine wpAnyH_all (rs := [15]) (by kernel_rfl) (by simp) (fun i2 hi2 => ?_)
  obtain rfl : i2 = 15 := by simpa using hi2
  clear hi2
  refine wpOp_step rfl (fun K hK => ite_yes rfl ?_)
  simp only [List.getElem_toArray, List.getElem_cons_zero, List.getElem_cons_succ]
  go_simp
  refine (HPX.out _ _ _ (Nat.le_trans (Nat.le_of_eq (Eq.refl s.ind)) hi) (HD0.out.1.below hB5) (Nat.le_trans hBW hB5.size) (In.pk (HL0.out.get 0 (by simp)).2 (PK.of (pb := pb) (base := base) hB5 hBW) hpb)).mono ?_
  rintro e w1 ⟨⟨u1, rfl⟩, v1, hP1, hi1, hq1⟩
  have hk1 : PK pb base w0 w1 := (PK.of hB5 hBW).trans hq1
  clear hq1
  go_simp
  refine hK _ _ ⟨HK.out _ hk1, ?_⟩
  clear hK K hS hB5
  refine wpAnyH_done (by kernel_rfl) ?_ _
  refine NoPanic.normal ?_
  try simp only [Act.put, List.setIfInBounds_toArray, List.set_cons_succ, List.set_cons_zero]
  have HJ1 : Hid ((partG false y0.kind g0 s).ind = s.ind) := hi1.trans (Eq.refl s.ind)
  have hK1 : PK pb base w w1 := HD0.out.2.1.trans hk1
  have nd1 := hk1.high (w.heap.size + 1) _ _ _ (by omega) HD0.out.2.2.1 (by decide)
  have pd1 := hk1.high w.heap.size _ _ _ (by omega) HD0.out.2.2.2 (by decide)
  have HI1 : Hid _ := In.pk HI0.out hk1 hpb
  have HL1 : Hid (MT.InL pb w1 b o [y0]) := MT.InL.below (hk1.below (by omega) (Nat.le_refl _)) b o hbp _ HL0.out
  have hz1 := lt_of nd1
  have HD1 : Hid (_ ∧ _ ∧ _ ∧ _) := ⟨hP1, hK1, nd1, pd1⟩
  clear hBW HK
  obtain ⟨k0, k1, k2, k3, k4⟩ := cells5 nd1
  have kp := cells1 pd1
  have hbz1 : b < w1.heap.size := by omega
  clear hP1 hK1 nd1 hk1 HD0 HI0 pd1 HL0
  go_wp2_with fail
  refine ((brack_any (o := ⟨#[40]⟩) (c := ⟨#[41]⟩) hpb (by decide) (by decide) (c167e (t := t) (n := n) (a := a) (p := some ⟨b, o, none⟩) (y0 := y0) hpb ⟨by omega, by omega⟩ Hh1.out) (fun _ _ h1 h2 => h1.pk hpb (by omega) (by omega) h2) Tryz.call167) _ _ _ (Nat.le_trans (Nat.le_of_eq HJ1.out) hi) HD1.out.1 (Nat.le_trans hB HD1.out.2.1.size) ⟨HD1.out.2.2.2, HD1.out.2.2.1, HI1.out⟩).mono ?_
  rintro e w2 ⟨⟨u2, rfl⟩, v2, hP2, hi2, hk2⟩
  have HJ2 : Hid ((brG ⟨#[40]⟩ ⟨#[41]⟩ g1 (partG false y0.kind g0 s)).ind = s.ind) := hi2.trans HJ1.out
  clear hi2
  have HE : Hid (_ ∧ PK pb base w w2) := ⟨hP2, HD1.out.2.1.trans hk2⟩
  clear hP2 hk2 k0 k1 k2 k3 k4 kp
  go_wp2_with fail
  go_end0
  exact ⟨⟨_, rfl⟩, v2, HE.out.1, HJ2.out, HE.out.2⟩
end Go.Proofs.YthbnegggohegkaaGreatDoor
