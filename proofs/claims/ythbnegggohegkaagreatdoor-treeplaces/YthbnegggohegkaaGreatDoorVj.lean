/-
  Bounds.
-/
import Derived.Test.YthbnegggohegkaaGreatDoorWgJ
namespace Go.Proofs.YthbnegggohegkaaGreatDoor
open Go.RowKit
variable {pb base L : Nat} {s : PS} {v : Value} {w w' : World}
set_option maxRecDepth 100000 in
set_option maxHeartbeats 4000000 in
theorem bounds_any {f u r : MT} {g0 g1 g2 : PS → PS} (h0 : Wc 107 #[.pointer (some ⟨pb, 0, none⟩), .string ⟨#[]⟩, nodeV f, .func (.func 71) #[.pointer (some ⟨pb, 0, none⟩)] #[]] pb base L (fun w => MT.In pb w f) g0) (h1 : Wc 107 #[.pointer (some ⟨pb, 0, none⟩), .string ⟨#[]⟩, nodeV u, .func (.func 71) #[.pointer (some ⟨pb, 0, none⟩)] #[]] pb base L (fun w => MT.In pb w u) g1) (h2 : Wc 107 #[.pointer (some ⟨pb, 0, none⟩), .string ⟨#[58]⟩, nodeV r, .func (.func 71) #[.pointer (some ⟨pb, 0, none⟩)] #[]] pb base L (fun w => MT.In pb w r) g2) (hpb : pb < base) : Wc 166 #[.pointer (some ⟨pb, 0, none⟩), nodeV f, nodeV u, nodeV r] pb base L (fun w => (MT.In pb w f ∧ MT.In pb w u ∧ MT.In pb w r)) (fun s => (g2 (g1 (putS [⟨#[58]⟩] (g0 s))))) := by
  intro s v w hi hP hB hin
  have Hh0 : Hid _ := h0
  clear h0
  have Hh1 : Hid _ := h1
  clear h1
  have Hh2 : Hid _ := h2
  clear h2
  obtain ⟨w0, hw0⟩ : ∃ W, W = (((w.alloc (.cells #[.int .i64 f.kind, .string f.text, .int .i64 f.num, .int .i64 f.at_, .slice f.ptr f.kids.length f.cap] 24)).alloc (.cells #[.int .i64 u.kind, .string u.text, .int .i64 u.num, .int .i64 u.at_, .slice u.ptr u.kids.length u.cap] 24)).alloc (.cells #[.int .i64 r.kind, .string r.text, .int .i64 r.num, .int .i64 r.at_, .slice r.ptr r.kids.length r.cap] 24)) := ⟨_, rfl⟩
  have hb0 : Below w.heap.size w w0 := by rw [hw0]; exact (below2 _ _ _).alloc (by simp only [World.size_alloc]; omega) _
  have hP0 := hP.below hb0
  have hK0 : PK pb base w w0 := PK.of (pb := pb) hb0 hB
  have nd0_0 : w0.heap[w.heap.size]? = some (.cells #[.int .i64 f.kind, .string f.text, .int .i64 f.num, .int .i64 f.at_, .slice f.ptr f.kids.length f.cap] 24 (0, 0)) := by rw [hw0]; exact ((Below.heap_alloc _ _ _ (by simp only [World.size_alloc]; omega)).trans ((Below.heap_alloc _ _ _ (by simp only [World.size_alloc]; omega)).trans (heap_alloc_new w _)))
  have nd0_1 : w0.heap[w.heap.size + 1]? = some (.cells #[.int .i64 u.kind, .string u.text, .int .i64 u.num, .int .i64 u.at_, .slice u.ptr u.kids.length u.cap] 24 (0, 0)) := by rw [hw0]; exact ((Below.heap_alloc _ _ _ (by simp only [World.size_alloc]; omega)).trans (by have := heap_alloc_new (w.alloc (.cells #[.int .i64 f.kind, .string f.text, .int .i64 f.num, .int .i64 f.at_, .slice f.ptr f.kids.length f.cap] 24)) (.cells #[.int .i64 u.kind, .string u.text, .int .i64 u.num, .int .i64 u.at_, .slice u.ptr u.kids.length u.cap] 24); simp only [World.size_alloc] at this; exact this))
  have nd0_2 : w0.heap[w.heap.size + 2]? = some (.cells #[.int .i64 r.kind, .string r.text, .int .i64 r.num, .int .i64 r.at_, .slice r.ptr r.kids.length r.cap] 24 (0, 0)) := by rw [hw0]; exact (by have := heap_alloc_new ((w.alloc (.cells #[.int .i64 f.kind, .string f.text, .int .i64 f.num, .int .i64 f.at_, .slice f.ptr f.kids.length f.cap] 24)).alloc (.cells #[.int .i64 u.kind, .string u.text, .int .i64 u.num, .int .i64 u.at_, .slice u.ptr u.kids.length u.cap] 24)) (.cells #[.int .i64 r.kind, .string r.text, .int .i64 r.num, .int .i64 r.at_, .slice r.ptr r.kids.length r.cap] 24); simp only [World.size_alloc] at this; exact this)
  have HI0 : Hid (MT.In pb w0 f ∧ MT.In pb w0 u ∧ MT.In pb w0 r) := ⟨In.pk hin.1 hK0 hpb, In.pk hin.2.1 hK0 hpb, In.pk hin.2.2 hK0 hpb⟩
  have hz0 : w.heap.size + 3 ≤ w0.heap.size := by rw [hw0]; simp
  have HD0 : Hid (_ ∧ _ ∧ _ ∧ _ ∧ _) := ⟨hP0, hK0, nd0_0, nd0_1, nd0_2⟩
  clear hP hin hb0 hP0 hK0 nd0_0 nd0_1 nd0_2
  have HW0 : Hid (w0 = _) := hw0
  clear hw0
  go_enter Tryz.func166, Tryz.ntmps166
  go_wp2_with fail
  try rw [← HW0.out]
  refine (Hh0.out _ _ _ (Nat.le_trans (Nat.le_of_eq (Eq.refl s.ind)) hi) HD0.out.1 (by first | omega | (simp only [World.size_alloc, World.size_setCell]; omega)) HI0.out.1).mono ?_
  rintro e w1 ⟨⟨u1, rfl⟩, v1, hP1, hi1, hk1⟩
  have HJ1 : Hid ((g0 s).ind = s.ind) := hi1.trans (Eq.refl s.ind)
  clear hi1
  have hK1 : PK pb base w w1 := HD0.out.2.1.trans hk1
  have nd1_0 := hk1.high (w.heap.size) _ _ _ (by omega) HD0.out.2.2.1 (by decide)
  have nd1_1 := hk1.high (w.heap.size + 1) _ _ _ (by omega) HD0.out.2.2.2.1 (by decide)
  have nd1_2 := hk1.high (w.heap.size + 2) _ _ _ (by omega) HD0.out.2.2.2.2 (by decide)
  have HI1 : Hid (MT.In pb w1 f ∧ MT.In pb w1 u ∧ MT.In pb w1 r) := ⟨In.pk HI0.out.1 hk1 hpb, In.pk HI0.out.2.1 hk1 hpb, In.pk HI0.out.2.2 hk1 hpb⟩
  have hzz1 := hk1.size
  have hz1 : w.heap.size + 3 ≤ w1.heap.size := by omega
  have HD1 : Hid (_ ∧ _ ∧ _ ∧ _ ∧ _) := ⟨hP1, hK1, nd1_0, nd1_1, nd1_2⟩
  have k00 : w1.cell? ⟨w.heap.size, 0, none⟩ = some (.int .i64 f.kind) := by simp [World.cell?, nd1_0]
  have k01 : w1.cell? ⟨w.heap.size, 1, none⟩ = some (.string f.text) := by simp [World.cell?, nd1_0]
  have k02 : w1.cell? ⟨w.heap.size, 2, none⟩ = some (.int .i64 f.num) := by simp [World.cell?, nd1_0]
  have k03 : w1.cell? ⟨w.heap.size, 3, none⟩ = some (.int .i64 f.at_) := by simp [World.cell?, nd1_0]
  have k04 : w1.cell? ⟨w.heap.size, 4, none⟩ = some (.slice f.ptr f.kids.length f.cap) := by simp [World.cell?, nd1_0]
  have k10 : w1.cell? ⟨w.heap.size + 1, 0, none⟩ = some (.int .i64 u.kind) := by simp [World.cell?, nd1_1]
  have k11 : w1.cell? ⟨w.heap.size + 1, 1, none⟩ = some (.string u.text) := by simp [World.cell?, nd1_1]
  have k12 : w1.cell? ⟨w.heap.size + 1, 2, none⟩ = some (.int .i64 u.num) := by simp [World.cell?, nd1_1]
  have k13 : w1.cell? ⟨w.heap.size + 1, 3, none⟩ = some (.int .i64 u.at_) := by simp [World.cell?, nd1_1]
  have k14 : w1.cell? ⟨w.heap.size + 1, 4, none⟩ = some (.slice u.ptr u.kids.length u.cap) := by simp [World.cell?, nd1_1]
  have k20 : w1.cell? ⟨w.heap.size + 2, 0, none⟩ = some (.int .i64 r.kind) := by simp [World.cell?, nd1_2]
  have k21 : w1.cell? ⟨w.heap.size + 2, 1, none⟩ = some (.string r.text) := by simp [World.cell?, nd1_2]
  have k22 : w1.cell? ⟨w.heap.size + 2, 2, none⟩ = some (.int .i64 r.num) := by simp [World.cell?, nd1_2]
  have k23 : w1.cell? ⟨w.heap.size + 2, 3, none⟩ = some (.int .i64 r.at_) := by simp [World.cell?, nd1_2]
  have k24 : w1.cell? ⟨w.heap.size + 2, 4, none⟩ = some (.slice r.ptr r.kids.length r.cap) := by simp [World.cell?, nd1_2]
  clear hP1 hK1 hk1 hzz1 HD0 HI0 nd1_0 nd1_1 nd1_2
  go_wp2_with fail
  refine (putc [⟨#[58]⟩] HD1.out.1 hpb (by first | omega | (simp only [World.size_alloc, World.size_setCell]; omega)) (al_cons (by decide) al_nil) (by simp) (by first | rfl | simp | (rw [HW0.out]; simp))).mono ?_
  rintro e w2 ⟨⟨u2, rfl⟩, v2, hP2, hk2⟩
  have HJ2 : Hid ((putS [⟨#[58]⟩] (g0 s)).ind = s.ind) := (putS_ind _ _).trans HJ1.out
  have hK2 : PK pb base w w2 := HD1.out.2.1.trans hk2
  have nd2_0 := hk2.high (w.heap.size) _ _ _ (by omega) HD1.out.2.2.1 (by decide)
  have nd2_1 := hk2.high (w.heap.size + 1) _ _ _ (by omega) HD1.out.2.2.2.1 (by decide)
  have nd2_2 := hk2.high (w.heap.size + 2) _ _ _ (by omega) HD1.out.2.2.2.2 (by decide)
  have HI2 : Hid (MT.In pb w2 f ∧ MT.In pb w2 u ∧ MT.In pb w2 r) := ⟨In.pk HI1.out.1 hk2 hpb, In.pk HI1.out.2.1 hk2 hpb, In.pk HI1.out.2.2 hk2 hpb⟩
  have hzz2 := hk2.size
  have hz2 : w.heap.size + 3 ≤ w2.heap.size := by omega
  have HD2 : Hid (_ ∧ _ ∧ _ ∧ _ ∧ _) := ⟨hP2, hK2, nd2_0, nd2_1, nd2_2⟩
  clear k00 k01 k02 k03 k04 k10 k11 k12 k13 k14 k20 k21 k22 k23 k24
  have k00 : w2.cell? ⟨w.heap.size, 0, none⟩ = some (.int .i64 f.kind) := by simp [World.cell?, nd2_0]
  have k01 : w2.cell? ⟨w.heap.size, 1, none⟩ = some (.string f.text) := by simp [World.cell?, nd2_0]
  have k02 : w2.cell? ⟨w.heap.size, 2, none⟩ = some (.int .i64 f.num) := by simp [World.cell?, nd2_0]
  have k03 : w2.cell? ⟨w.heap.size, 3, none⟩ = some (.int .i64 f.at_) := by simp [World.cell?, nd2_0]
  have k04 : w2.cell? ⟨w.heap.size, 4, none⟩ = some (.slice f.ptr f.kids.length f.cap) := by simp [World.cell?, nd2_0]
  have k10 : w2.cell? ⟨w.heap.size + 1, 0, none⟩ = some (.int .i64 u.kind) := by simp [World.cell?, nd2_1]
  have k11 : w2.cell? ⟨w.heap.size + 1, 1, none⟩ = some (.string u.text) := by simp [World.cell?, nd2_1]
  have k12 : w2.cell? ⟨w.heap.size + 1, 2, none⟩ = some (.int .i64 u.num) := by simp [World.cell?, nd2_1]
  have k13 : w2.cell? ⟨w.heap.size + 1, 3, none⟩ = some (.int .i64 u.at_) := by simp [World.cell?, nd2_1]
  have k14 : w2.cell? ⟨w.heap.size + 1, 4, none⟩ = some (.slice u.ptr u.kids.length u.cap) := by simp [World.cell?, nd2_1]
  have k20 : w2.cell? ⟨w.heap.size + 2, 0, none⟩ = some (.int .i64 r.kind) := by simp [World.cell?, nd2_2]
  have k21 : w2.cell? ⟨w.heap.size + 2, 1, none⟩ = some (.string r.text) := by simp [World.cell?, nd2_2]
  have k22 : w2.cell? ⟨w.heap.size + 2, 2, none⟩ = some (.int .i64 r.num) := by simp [World.cell?, nd2_2]
  have k23 : w2.cell? ⟨w.heap.size + 2, 3, none⟩ = some (.int .i64 r.at_) := by simp [World.cell?, nd2_2]
  have k24 : w2.cell? ⟨w.heap.size + 2, 4, none⟩ = some (.slice r.ptr r.kids.length r.cap) := by simp [World.cell?, nd2_2]
  clear hP2 hK2 hk2 hzz2 HD1 HI1 nd2_0 nd2_1 nd2_2 HJ1
  go_wp2_with fail
  refine (Hh1.out _ _ _ (Nat.le_trans (Nat.le_of_eq HJ2.out) hi) HD2.out.1 (by first | omega | (simp only [World.size_alloc, World.size_setCell]; omega)) HI2.out.2.1).mono ?_
  rintro e w3 ⟨⟨u3, rfl⟩, v3, hP3, hi3, hk3⟩
  have HJ3 : Hid ((g1 (putS [⟨#[58]⟩] (g0 s))).ind = s.ind) := hi3.trans HJ2.out
  clear hi3
  have hK3 : PK pb base w w3 := HD2.out.2.1.trans hk3
  have nd3_0 := hk3.high (w.heap.size) _ _ _ (by omega) HD2.out.2.2.1 (by decide)
  have nd3_1 := hk3.high (w.heap.size + 1) _ _ _ (by omega) HD2.out.2.2.2.1 (by decide)
  have nd3_2 := hk3.high (w.heap.size + 2) _ _ _ (by omega) HD2.out.2.2.2.2 (by decide)
  have HI3 : Hid (MT.In pb w3 f ∧ MT.In pb w3 u ∧ MT.In pb w3 r) := ⟨In.pk HI2.out.1 hk3 hpb, In.pk HI2.out.2.1 hk3 hpb, In.pk HI2.out.2.2 hk3 hpb⟩
  have hzz3 := hk3.size
  have hz3 : w.heap.size + 3 ≤ w3.heap.size := by omega
  have HD3 : Hid (_ ∧ _ ∧ _ ∧ _ ∧ _) := ⟨hP3, hK3, nd3_0, nd3_1, nd3_2⟩
  clear k00 k01 k02 k03 k04 k10 k11 k12 k13 k14 k20 k21 k22 k23 k24
  have k00 : w3.cell? ⟨w.heap.size, 0, none⟩ = some (.int .i64 f.kind) := by simp [World.cell?, nd3_0]
  have k01 : w3.cell? ⟨w.heap.size, 1, none⟩ = some (.string f.text) := by simp [World.cell?, nd3_0]
  have k02 : w3.cell? ⟨w.heap.size, 2, none⟩ = some (.int .i64 f.num) := by simp [World.cell?, nd3_0]
  have k03 : w3.cell? ⟨w.heap.size, 3, none⟩ = some (.int .i64 f.at_) := by simp [World.cell?, nd3_0]
  have k04 : w3.cell? ⟨w.heap.size, 4, none⟩ = some (.slice f.ptr f.kids.length f.cap) := by simp [World.cell?, nd3_0]
  have k10 : w3.cell? ⟨w.heap.size + 1, 0, none⟩ = some (.int .i64 u.kind) := by simp [World.cell?, nd3_1]
  have k11 : w3.cell? ⟨w.heap.size + 1, 1, none⟩ = some (.string u.text) := by simp [World.cell?, nd3_1]
  have k12 : w3.cell? ⟨w.heap.size + 1, 2, none⟩ = some (.int .i64 u.num) := by simp [World.cell?, nd3_1]
  have k13 : w3.cell? ⟨w.heap.size + 1, 3, none⟩ = some (.int .i64 u.at_) := by simp [World.cell?, nd3_1]
  have k14 : w3.cell? ⟨w.heap.size + 1, 4, none⟩ = some (.slice u.ptr u.kids.length u.cap) := by simp [World.cell?, nd3_1]
  have k20 : w3.cell? ⟨w.heap.size + 2, 0, none⟩ = some (.int .i64 r.kind) := by simp [World.cell?, nd3_2]
  have k21 : w3.cell? ⟨w.heap.size + 2, 1, none⟩ = some (.string r.text) := by simp [World.cell?, nd3_2]
  have k22 : w3.cell? ⟨w.heap.size + 2, 2, none⟩ = some (.int .i64 r.num) := by simp [World.cell?, nd3_2]
  have k23 : w3.cell? ⟨w.heap.size + 2, 3, none⟩ = some (.int .i64 r.at_) := by simp [World.cell?, nd3_2]
  have k24 : w3.cell? ⟨w.heap.size + 2, 4, none⟩ = some (.slice r.ptr r.kids.length r.cap) := by simp [World.cell?, nd3_2]
  clear hP3 hK3 hk3 hzz3 HD2 HI2 nd3_0 nd3_1 nd3_2 HJ2
  go_wp2_with fail
  refine (Hh2.out _ _ _ (Nat.le_trans (Nat.le_of_eq HJ3.out) hi) HD3.out.1 (by first | omega | (simp only [World.size_alloc, World.size_setCell]; omega)) HI3.out.2.2).mono ?_
  rintro e w4 ⟨⟨u4, rfl⟩, v4, hP4, hi4, hk4⟩
  have HJ4 : Hid ((g2 (g1 (putS [⟨#[58]⟩] (g0 s)))).ind = s.ind) := hi4.trans HJ3.out
  clear hi4
  have hK4 : PK pb base w w4 := HD3.out.2.1.trans hk4
  have nd4_0 := hk4.high (w.heap.size) _ _ _ (by omega) HD3.out.2.2.1 (by decide)
  have nd4_1 := hk4.high (w.heap.size + 1) _ _ _ (by omega) HD3.out.2.2.2.1 (by decide)
  have nd4_2 := hk4.high (w.heap.size + 2) _ _ _ (by omega) HD3.out.2.2.2.2 (by decide)
  have HI4 : Hid (MT.In pb w4 f ∧ MT.In pb w4 u ∧ MT.In pb w4 r) := ⟨In.pk HI3.out.1 hk4 hpb, In.pk HI3.out.2.1 hk4 hpb, In.pk HI3.out.2.2 hk4 hpb⟩
  have hzz4 := hk4.size
  have hz4 : w.heap.size + 3 ≤ w4.heap.size := by omega
  have HD4 : Hid (_ ∧ _ ∧ _ ∧ _ ∧ _) := ⟨hP4, hK4, nd4_0, nd4_1, nd4_2⟩
  clear k00 k01 k02 k03 k04 k10 k11 k12 k13 k14 k20 k21 k22 k23 k24
  have k00 : w4.cell? ⟨w.heap.size, 0, none⟩ = some (.int .i64 f.kind) := by simp [World.cell?, nd4_0]
  have k01 : w4.cell? ⟨w.heap.size, 1, none⟩ = some (.string f.text) := by simp [World.cell?, nd4_0]
  have k02 : w4.cell? ⟨w.heap.size, 2, none⟩ = some (.int .i64 f.num) := by simp [World.cell?, nd4_0]
  have k03 : w4.cell? ⟨w.heap.size, 3, none⟩ = some (.int .i64 f.at_) := by simp [World.cell?, nd4_0]
  have k04 : w4.cell? ⟨w.heap.size, 4, none⟩ = some (.slice f.ptr f.kids.length f.cap) := by simp [World.cell?, nd4_0]
  have k10 : w4.cell? ⟨w.heap.size + 1, 0, none⟩ = some (.int .i64 u.kind) := by simp [World.cell?, nd4_1]
  have k11 : w4.cell? ⟨w.heap.size + 1, 1, none⟩ = some (.string u.text) := by simp [World.cell?, nd4_1]
  have k12 : w4.cell? ⟨w.heap.size + 1, 2, none⟩ = some (.int .i64 u.num) := by simp [World.cell?, nd4_1]
  have k13 : w4.cell? ⟨w.heap.size + 1, 3, none⟩ = some (.int .i64 u.at_) := by simp [World.cell?, nd4_1]
  have k14 : w4.cell? ⟨w.heap.size + 1, 4, none⟩ = some (.slice u.ptr u.kids.length u.cap) := by simp [World.cell?, nd4_1]
  have k20 : w4.cell? ⟨w.heap.size + 2, 0, none⟩ = some (.int .i64 r.kind) := by simp [World.cell?, nd4_2]
  have k21 : w4.cell? ⟨w.heap.size + 2, 1, none⟩ = some (.string r.text) := by simp [World.cell?, nd4_2]
  have k22 : w4.cell? ⟨w.heap.size + 2, 2, none⟩ = some (.int .i64 r.num) := by simp [World.cell?, nd4_2]
  have k23 : w4.cell? ⟨w.heap.size + 2, 3, none⟩ = some (.int .i64 r.at_) := by simp [World.cell?, nd4_2]
  have k24 : w4.cell? ⟨w.heap.size + 2, 4, none⟩ = some (.slice r.ptr r.kids.length r.cap) := by simp [World.cell?, nd4_2]
  clear hP4 hK4 hk4 hzz4 HD3 HI3 nd4_0 nd4_1 nd4_2 HJ3
  go_wp2_with fail
  go_end0
  exact ⟨⟨_, rfl⟩, v4, HD4.out.1, HJ4.out, HD4.out.2.1⟩
end Go.Proofs.YthbnegggohegkaaGreatDoor
