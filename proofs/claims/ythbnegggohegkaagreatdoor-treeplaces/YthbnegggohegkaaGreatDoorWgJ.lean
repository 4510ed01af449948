/-
  Expressions, blocks, heads.
  A call's arguments.
  Plain structs.
  Plain expressions.
  Sums and their like.
  Plain expressions.
  Small numbers.
  A program.
-/
import Derived.Test.YthbnegggohegkaaGreatDoorVf
import Derived.Test.YthbnegggohegkaaGreatDoorGiJ
namespace Go.Proofs.YthbnegggohegkaaGreatDoor
open Go.RowKit
variable {pb base L : Nat} {s : PS} {v : Value} {w w' : World}
set_option maxRecDepth 100000 in
set_option maxHeartbeats 4000000 in
theorem expr_any {y : MT}  {g : PS → PS} (h : Wf 132 pb base L y g) (hpb : pb < base) : Wf 71 pb base L y (fun s => (partG false y.kind g s)) := by
  intro s v w hi hP hB hin
  have Hh : Hid _ := h
  clear h
  have hb0 : Below w.heap.size w (w.alloc (.cells #[.int .i64 y.kind, .string y.text, .int .i64 y.num, .int .i64 y.at_, .slice y.ptr y.kids.length y.cap] 24)) := below1 _ _
  have hP0 := hP.below hb0
  have hK0 : PK pb base w _ := PK.of (pb := pb) hb0 hB
  have HI0 : Hid _ := In.pk hin hK0 hpb
  have nd0 := heap_alloc_new w (.cells #[.int .i64 y.kind, .string y.text, .int .i64 y.num, .int .i64 y.at_, .slice y.ptr y.kids.length y.cap] 24)
  have hz0 := lt_of nd0
  have HD0 : Hid (_ ∧ _ ∧ _) := ⟨hP0, hK0, nd0⟩
  clear hP hin hb0 hP0 hK0 nd0
  go_enter Tryz.func71, Tryz.ntmps71
  go_wp2_with fail
  refine ((part_all false hpb Hh.out) _ _ _ (Nat.le_trans (Nat.le_of_eq (Eq.refl s.ind)) hi) HD0.out.1 (Nat.le_trans hB HD0.out.2.1.size) HI0.out).mono ?_
  rintro e w1 ⟨⟨u1, rfl⟩, v1, hP1, hi1, hk1⟩
  have HJ1 : Hid ((partG false y.kind g s).ind = s.ind) := hi1.trans (Eq.refl s.ind)
  clear hi1
  have HE : Hid (_ ∧ PK pb base w w1) := ⟨hP1, HD0.out.2.1.trans hk1⟩
  clear hP1 hk1 
  go_wp2_with fail
  go_end0
  exact ⟨⟨_, rfl⟩, v1, HE.out.1, HJ1.out, HE.out.2⟩
set_option maxRecDepth 100000 in
set_option maxHeartbeats 4000000 in
theorem block_any {y : MT}  {g : PS → PS} (h : Wc 97 #[.pointer (some ⟨pb, 0, none⟩), .slice y.ptr y.kids.length y.cap, .func (.func 73) #[.pointer (some ⟨pb, 0, none⟩)] #[]] pb base L (Kd pb y.ptr y.kids) g) (hpb : pb < base) : Wf 102 pb base L y (fun s => (brG ⟨#[]⟩ ⟨#[]⟩ g s)) := by
  intro s v w hi hP hB hin
  have Hh : Hid _ := h
  clear h
  have hb0 : Below w.heap.size w ((w.alloc (.cells #[.pointer (some ⟨pb, 0, none⟩)] 114)).alloc (.cells #[.int .i64 y.kind, .string y.text, .int .i64 y.num, .int .i64 y.at_, .slice y.ptr y.kids.length y.cap] 24)) := below2 _ _ _
  have hP0 := hP.below hb0
  have hK0 : PK pb base w _ := PK.of (pb := pb) hb0 hB
  have HI0 : Hid _ := In.pk hin hK0 hpb
  have pd0 := (hb0_ w (.cells #[.pointer (some ⟨pb, 0, none⟩)] 114) (.cells #[.int .i64 y.kind, .string y.text, .int .i64 y.num, .int .i64 y.at_, .slice y.ptr y.kids.length y.cap] 24))
  have nd0 := (nb0_ w (.cells #[.pointer (some ⟨pb, 0, none⟩)] 114) (.cells #[.int .i64 y.kind, .string y.text, .int .i64 y.num, .int .i64 y.at_, .slice y.ptr y.kids.length y.cap] 24))
  have hz0 := lt_of nd0
  have HD0 : Hid (_ ∧ _ ∧ _ ∧ _) := ⟨hP0, hK0, nd0, pd0⟩
  clear hP hin hb0 hP0 hK0 nd0 pd0
  go_enter Tryz.func102, Tryz.ntmps102
  go_wp2_with fail
  refine ((brack_any (o := ⟨#[]⟩) (c := ⟨#[]⟩) hpb (by decide) (by decide) (c133 Hh.out) (fun _ _ h1 h2 => h1.pk hpb (by omega) (by omega) h2) Tryz.call133) _ _ _ (Nat.le_trans (Nat.le_of_eq (Eq.refl s.ind)) hi) HD0.out.1 (Nat.le_trans hB HD0.out.2.1.size) ⟨HD0.out.2.2.2, HD0.out.2.2.1, HI0.out⟩).mono ?_
  rintro e w1 ⟨⟨u1, rfl⟩, v1, hP1, hi1, hk1⟩
  have HJ1 : Hid ((brG ⟨#[]⟩ ⟨#[]⟩ g s).ind = s.ind) := hi1.trans (Eq.refl s.ind)
  clear hi1
  have HE : Hid (_ ∧ PK pb base w w1) := ⟨hP1, HD0.out.2.1.trans hk1⟩
  clear hP1 hk1 
  go_wp2_with fail
  go_end0
  exact ⟨⟨_, rfl⟩, v1, HE.out.1, HJ1.out, HE.out.2⟩
set_option maxRecDepth 100000 in
set_option maxHeartbeats 4000000 in
theorem function_any {q y : MT} {g0 g1 : PS → PS} (h0 : Wc 70 #[.pointer (some ⟨pb, 0, none⟩), .slice q.ptr q.kids.length q.cap, .func (.func 71) #[.pointer (some ⟨pb, 0, none⟩)] #[]] pb base L (Kd pb q.ptr q.kids) g0) (h1 : Wf 102 pb base L y g1) (hpb : pb < base) : Wc 98 #[.pointer (some ⟨pb, 0, none⟩), nodeV q, nodeV y] pb base L (fun w => (MT.In pb w q ∧ MT.In pb w y)) (fun s => (g1 (putS [⟨#[41, 32]⟩] (g0 (putS [⟨#[40]⟩] s))))) := by
  intro s v w hi hP hB hin
  have Hh0 : Hid _ := h0
  clear h0
  have Hh1 : Hid _ := h1
  clear h1
  obtain ⟨w0, hw0⟩ : ∃ W, W = ((w.alloc (.cells #[.int .i64 q.kind, .string q.text, .int .i64 q.num, .int .i64 q.at_, .slice q.ptr q.kids.length q.cap] 24)).alloc (.cells #[.int .i64 y.kind, .string y.text, .int .i64 y.num, .int .i64 y.at_, .slice y.ptr y.kids.length y.cap] 24)) := ⟨_, rfl⟩
  have hb0 : Below w.heap.size w w0 := by rw [hw0]; exact below2 _ _ _
  have hP0 := hP.below hb0
  have hK0 : PK pb base w w0 := PK.of (pb := pb) hb0 hB
  have nd0_0 : w0.heap[w.heap.size]? = some (.cells #[.int .i64 q.kind, .string q.text, .int .i64 q.num, .int .i64 q.at_, .slice q.ptr q.kids.length q.cap] 24 (0, 0)) := by rw [hw0]; exact ((Below.heap_alloc _ _ _ (by simp only [World.size_alloc]; omega)).trans (heap_alloc_new w _))
  have nd0_1 : w0.heap[w.heap.size + 1]? = some (.cells #[.int .i64 y.kind, .string y.text, .int .i64 y.num, .int .i64 y.at_, .slice y.ptr y.kids.length y.cap] 24 (0, 0)) := by rw [hw0]; exact (by have := heap_alloc_new (w.alloc (.cells #[.int .i64 q.kind, .string q.text, .int .i64 q.num, .int .i64 q.at_, .slice q.ptr q.kids.length q.cap] 24)) (.cells #[.int .i64 y.kind, .string y.text, .int .i64 y.num, .int .i64 y.at_, .slice y.ptr y.kids.length y.cap] 24); simp only [World.size_alloc] at this; exact this)
  have HI0 : Hid (MT.In pb w0 q ∧ MT.In pb w0 y) := ⟨In.pk hin.1 hK0 hpb, In.pk hin.2 hK0 hpb⟩
  have hz0 : w.heap.size + 2 ≤ w0.heap.size := by rw [hw0]; simp
  have HD0 : Hid (_ ∧ _ ∧ _ ∧ _) := ⟨hP0, hK0, nd0_0, nd0_1⟩
  clear hP hin hb0 hP0 hK0 nd0_0 nd0_1
  have HW0 : Hid (w0 = _) := hw0
  clear hw0
  go_enter Tryz.func98, Tryz.ntmps98
  go_wp2_with fail
  try rw [← HW0.out]
  refine (putc [⟨#[40]⟩] HD0.out.1 hpb (by first | omega | (simp only [World.size_alloc, World.size_setCell]; omega)) (al_cons (by decide) al_nil) (by simp) (by first | rfl | simp | (rw [HW0.out]; simp))).mono ?_
  rintro e w1 ⟨⟨u1, rfl⟩, v1, hP1, hk1⟩
  have HJ1 : Hid ((putS [⟨#[40]⟩] s).ind = s.ind) := (putS_ind _ _).trans (Eq.refl s.ind)
  have hK1 : PK pb base w w1 := HD0.out.2.1.trans hk1
  have nd1_0 := hk1.high (w.heap.size) _ _ _ (by omega) HD0.out.2.2.1 (by decide)
  have nd1_1 := hk1.high (w.heap.size + 1) _ _ _ (by omega) HD0.out.2.2.2 (by decide)
  have HI1 : Hid (MT.In pb w1 q ∧ MT.In pb w1 y) := ⟨In.pk HI0.out.1 hk1 hpb, In.pk HI0.out.2 hk1 hpb⟩
  have hzz1 := hk1.size
  have hz1 : w.heap.size + 2 ≤ w1.heap.size := by omega
  have HD1 : Hid (_ ∧ _ ∧ _ ∧ _) := ⟨hP1, hK1, nd1_0, nd1_1⟩
  have k00 : w1.cell? ⟨w.heap.size, 0, none⟩ = some (.int .i64 q.kind) := by simp [World.cell?, nd1_0]
  have k01 : w1.cell? ⟨w.heap.size, 1, none⟩ = some (.string q.text) := by simp [World.cell?, nd1_0]
  have k02 : w1.cell? ⟨w.heap.size, 2, none⟩ = some (.int .i64 q.num) := by simp [World.cell?, nd1_0]
  have k03 : w1.cell? ⟨w.heap.size, 3, none⟩ = some (.int .i64 q.at_) := by simp [World.cell?, nd1_0]
  have k04 : w1.cell? ⟨w.heap.size, 4, none⟩ = some (.slice q.ptr q.kids.length q.cap) := by simp [World.cell?, nd1_0]
  have k10 : w1.cell? ⟨w.heap.size + 1, 0, none⟩ = some (.int .i64 y.kind) := by simp [World.cell?, nd1_1]
  have k11 : w1.cell? ⟨w.heap.size + 1, 1, none⟩ = some (.string y.text) := by simp [World.cell?, nd1_1]
  have k12 : w1.cell? ⟨w.heap.size + 1, 2, none⟩ = some (.int .i64 y.num) := by simp [World.cell?, nd1_1]
  have k13 : w1.cell? ⟨w.heap.size + 1, 3, none⟩ = some (.int .i64 y.at_) := by simp [World.cell?, nd1_1]
  have k14 : w1.cell? ⟨w.heap.size + 1, 4, none⟩ = some (.slice y.ptr y.kids.length y.cap) := by simp [World.cell?, nd1_1]
  clear hP1 hK1 hk1 hzz1 HD0 HI0 nd1_0 nd1_1
  go_wp2_with fail
  refine (Hh0.out _ _ _ (Nat.le_trans (Nat.le_of_eq HJ1.out) hi) HD1.out.1 (by first | omega | (simp only [World.size_alloc, World.size_setCell]; omega)) (Kd.of HI1.out.1)).mono ?_
  rintro e w2 ⟨⟨u2, rfl⟩, v2, hP2, hi2, hk2⟩
  have HJ2 : Hid ((g0 (putS [⟨#[40]⟩] s)).ind = s.ind) := hi2.trans HJ1.out
  clear hi2
  have hK2 : PK pb base w w2 := HD1.out.2.1.trans hk2
  have nd2_0 := hk2.high (w.heap.size) _ _ _ (by omega) HD1.out.2.2.1 (by decide)
  have nd2_1 := hk2.high (w.heap.size + 1) _ _ _ (by omega) HD1.out.2.2.2 (by decide)
  have HI2 : Hid (MT.In pb w2 q ∧ MT.In pb w2 y) := ⟨In.pk HI1.out.1 hk2 hpb, In.pk HI1.out.2 hk2 hpb⟩
  have hzz2 := hk2.size
  have hz2 : w.heap.size + 2 ≤ w2.heap.size := by omega
  have HD2 : Hid (_ ∧ _ ∧ _ ∧ _) := ⟨hP2, hK2, nd2_0, nd2_1⟩
  clear k00 k01 k02 k03 k04 k10 k11 k12 k13 k14
  have k00 : w2.cell? ⟨w.heap.size, 0, none⟩ = some (.int .i64 q.kind) := by simp [World.cell?, nd2_0]
  have k01 : w2.cell? ⟨w.heap.size, 1, none⟩ = some (.string q.text) := by simp [World.cell?, nd2_0]
  have k02 : w2.cell? ⟨w.heap.size, 2, none⟩ = some (.int .i64 q.num) := by simp [World.cell?, nd2_0]
  have k03 : w2.cell? ⟨w.heap.size, 3, none⟩ = some (.int .i64 q.at_) := by simp [World.cell?, nd2_0]
  have k04 : w2.cell? ⟨w.heap.size, 4, none⟩ = some (.slice q.ptr q.kids.length q.cap) := by simp [World.cell?, nd2_0]
  have k10 : w2.cell? ⟨w.heap.size + 1, 0, none⟩ = some (.int .i64 y.kind) := by simp [World.cell?, nd2_1]
  have k11 : w2.cell? ⟨w.heap.size + 1, 1, none⟩ = some (.string y.text) := by simp [World.cell?, nd2_1]
  have k12 : w2.cell? ⟨w.heap.size + 1, 2, none⟩ = some (.int .i64 y.num) := by simp [World.cell?, nd2_1]
  have k13 : w2.cell? ⟨w.heap.size + 1, 3, none⟩ = some (.int .i64 y.at_) := by simp [World.cell?, nd2_1]
  have k14 : w2.cell? ⟨w.heap.size + 1, 4, none⟩ = some (.slice y.ptr y.kids.length y.cap) := by simp [World.cell?, nd2_1]
  clear hP2 hK2 hk2 hzz2 HD1 HI1 nd2_0 nd2_1 HJ1
  go_wp2_with fail
  refine (putc [⟨#[41, 32]⟩] HD2.out.1 hpb (by first | omega | (simp only [World.size_alloc, World.size_setCell]; omega)) (al_cons (by decide) al_nil) (by simp) (by first | rfl | simp | (rw [HW0.out]; simp))).mono ?_
  rintro e w3 ⟨⟨u3, rfl⟩, v3, hP3, hk3⟩
  have HJ3 : Hid ((putS [⟨#[41, 32]⟩] (g0 (putS [⟨#[40]⟩] s))).ind = s.ind) := (putS_ind _ _).trans HJ2.out
  have hK3 : PK pb base w w3 := HD2.out.2.1.trans hk3
  have nd3_0 := hk3.high (w.heap.size) _ _ _ (by omega) HD2.out.2.2.1 (by decide)
  have nd3_1 := hk3.high (w.heap.size + 1) _ _ _ (by omega) HD2.out.2.2.2 (by decide)
  have HI3 : Hid (MT.In pb w3 q ∧ MT.In pb w3 y) := ⟨In.pk HI2.out.1 hk3 hpb, In.pk HI2.out.2 hk3 hpb⟩
  have hzz3 := hk3.size
  have hz3 : w.heap.size + 2 ≤ w3.heap.size := by omega
  have HD3 : Hid (_ ∧ _ ∧ _ ∧ _) := ⟨hP3, hK3, nd3_0, nd3_1⟩
  clear k00 k01 k02 k03 k04 k10 k11 k12 k13 k14
  have k00 : w3.cell? ⟨w.heap.size, 0, none⟩ = some (.int .i64 q.kind) := by simp [World.cell?, nd3_0]
  have k01 : w3.cell? ⟨w.heap.size, 1, none⟩ = some (.string q.text) := by simp [World.cell?, nd3_0]
  have k02 : w3.cell? ⟨w.heap.size, 2, none⟩ = some (.int .i64 q.num) := by simp [World.cell?, nd3_0]
  have k03 : w3.cell? ⟨w.heap.size, 3, none⟩ = some (.int .i64 q.at_) := by simp [World.cell?, nd3_0]
  have k04 : w3.cell? ⟨w.heap.size, 4, none⟩ = some (.slice q.ptr q.kids.length q.cap) := by simp [World.cell?, nd3_0]
  have k10 : w3.cell? ⟨w.heap.size + 1, 0, none⟩ = some (.int .i64 y.kind) := by simp [World.cell?, nd3_1]
  have k11 : w3.cell? ⟨w.heap.size + 1, 1, none⟩ = some (.string y.text) := by simp [World.cell?, nd3_1]
  have k12 : w3.cell? ⟨w.heap.size + 1, 2, none⟩ = some (.int .i64 y.num) := by simp [World.cell?, nd3_1]
  have k13 : w3.cell? ⟨w.heap.size + 1, 3, none⟩ = some (.int .i64 y.at_) := by simp [World.cell?, nd3_1]
  have k14 : w3.cell? ⟨w.heap.size + 1, 4, none⟩ = some (.slice y.ptr y.kids.length y.cap) := by simp [World.cell?, nd3_1]
  clear hP3 hK3 hk3 hzz3 HD2 HI2 nd3_0 nd3_1 HJ2
  go_wp2_with fail
  refine (Hh1.out _ _ _ (Nat.le_trans (Nat.le_of_eq HJ3.out) hi) HD3.out.1 (by first | omega | (simp only [World.size_alloc, World.size_setCell]; omega)) HI3.out.2).mono ?_
  rintro e w4 ⟨⟨u4, rfl⟩, v4, hP4, hi4, hk4⟩
  have HJ4 : Hid ((g1 (putS [⟨#[41, 32]⟩] (g0 (putS [⟨#[40]⟩] s)))).ind = s.ind) := hi4.trans HJ3.out
  clear hi4
  have hK4 : PK pb base w w4 := HD3.out.2.1.trans hk4
  have nd4_0 := hk4.high (w.heap.size) _ _ _ (by omega) HD3.out.2.2.1 (by decide)
  have nd4_1 := hk4.high (w.heap.size + 1) _ _ _ (by omega) HD3.out.2.2.2 (by decide)
  have HI4 : Hid (MT.In pb w4 q ∧ MT.In pb w4 y) := ⟨In.pk HI3.out.1 hk4 hpb, In.pk HI3.out.2 hk4 hpb⟩
  have hzz4 := hk4.size
  have hz4 : w.heap.size + 2 ≤ w4.heap.size := by omega
  have HD4 : Hid (_ ∧ _ ∧ _ ∧ _) := ⟨hP4, hK4, nd4_0, nd4_1⟩
  clear k00 k01 k02 k03 k04 k10 k11 k12 k13 k14
  have k00 : w4.cell? ⟨w.heap.size, 0, none⟩ = some (.int .i64 q.kind) := by simp [World.cell?, nd4_0]
  have k01 : w4.cell? ⟨w.heap.size, 1, none⟩ = some (.string q.text) := by simp [World.cell?, nd4_0]
  have k02 : w4.cell? ⟨w.heap.size, 2, none⟩ = some (.int .i64 q.num) := by simp [World.cell?, nd4_0]
  have k03 : w4.cell? ⟨w.heap.size, 3, none⟩ = some (.int .i64 q.at_) := by simp [World.cell?, nd4_0]
  have k04 : w4.cell? ⟨w.heap.size, 4, none⟩ = some (.slice q.ptr q.kids.length q.cap) := by simp [World.cell?, nd4_0]
  have k10 : w4.cell? ⟨w.heap.size + 1, 0, none⟩ = some (.int .i64 y.kind) := by simp [World.cell?, nd4_1]
  have k11 : w4.cell? ⟨w.heap.size + 1, 1, none⟩ = some (.string y.text) := by simp [World.cell?, nd4_1]
  have k12 : w4.cell? ⟨w.heap.size + 1, 2, none⟩ = some (.int .i64 y.num) := by simp [World.cell?, nd4_1]
  have k13 : w4.cell? ⟨w.heap.size + 1, 3, none⟩ = some (.int .i64 y.at_) := by simp [World.cell?, nd4_1]
  have k14 : w4.cell? ⟨w.heap.size + 1, 4, none⟩ = some (.slice y.ptr y.kids.length y.cap) := by simp [World.cell?, nd4_1]
  clear hP4 hK4 hk4 hzz4 HD3 HI3 nd4_0 nd4_1 HJ3
  go_wp2_with fail
  go_end0
  exact ⟨⟨_, rfl⟩, v4, HD4.out.1, HJ4.out, HD4.out.2.1⟩
set_option maxRecDepth 100000 in
set_option maxHeartbeats 4000000 in
theorem head_any {y : MT} {g : PS → PS} (hpb : pb < base) (h : Wf 71 pb base L y g) : Wf 134 pb base L y (fun s => { (g { s with bare := true }) with bare := false }) := by
  intro s v w hi hP hB hin
  have H : Hid _ := h
  clear h
  have hb0 := below1 w (nodeO y)
  have hP0 := hP.below hb0
  have hK0 : PK pb base w _ := PK.of (pb := pb) hb0 hB
  have c2 := hP0.c2
  have f2 := hP0.fz 2
  have hP1 := hP0.bare hpb true
  have hK1 := hK0.trans (PK.set pb base _ 2 (.bool true))
  have hi1 := In.pk hin hK1 hpb
  have hz1 := hK1.size
  clear hP hP0 hb0
  go_enter Tryz.func134, Tryz.ntmps134
  go_wp2_with fail
  refine (H.out { s with bare := true } v _ hi hP1 (by omega) hi1).mono ?_
  rintro e w5 ⟨⟨u5, rfl⟩, v5, hP5, hi5, hK5⟩
  have d2 := hP5.c2
  have g2 := hP5.fz 2
  have HE : Hid (Pr2 pb base { (g { s with bare := true }) with bare := false } v5 (w5.setCell ⟨pb, 2, none⟩ (.bool false)) ∧ (g { s with bare := true }).ind = s.ind ∧ PK pb base w (w5.setCell ⟨pb, 2, none⟩ (.bool false))) := ⟨hP5.bare hpb false, hi5, (hK1.trans hK5).trans (PK.set pb base w5 2 _)⟩
  clear hP5 hP1 hi5 hK5 hK1 c2 f2 hK0 hz1 hi1
  go_wp2_with fail
  go_end0
  exact ⟨⟨_, rfl⟩, v5, HE.out⟩
set_option maxRecDepth 100000 in
set_option maxHeartbeats 4000000 in
theorem first_any {y : MT}  {g : PS → PS} (h : Wf 132 pb base L y g) (hpb : pb < base) : Wf 149 pb base L y (fun s => (partG (decide (levK y < 7)) y.kind g s)) := by
  intro s v w hi hP hB hin
  have hb0 : Below w.heap.size w (w.alloc (.cells #[.int .i64 y.kind, .string y.text, .int .i64 y.num, .int .i64 y.at_, .slice y.ptr y.kids.length y.cap] 24)) := below1 _ _
  have hP0 := hP.below hb0
  have hK0 : PK pb base w _ := PK.of (pb := pb) hb0 hB
  have HI0 : Hid _ := In.pk hin hK0 hpb
  have nd0 := heap_alloc_new w (.cells #[.int .i64 y.kind, .string y.text, .int .i64 y.num, .int .i64 y.at_, .slice y.ptr y.kids.length y.cap] 24)
  have hz0 := lt_of nd0
  have HD0 : Hid (_ ∧ _ ∧ _) := ⟨hP0, hK0, nd0⟩
  clear hP hin hb0 hP0 hK0 nd0
  go_enter Tryz.func149, Tryz.ntmps149
  go_wp2_with fail
  have HLV : Hid _ := level_all y
  have HPT : Hid _ := part_all (decide (levK y < 7)) hpb h
  clear h
  obtain ⟨w0, hw0⟩ : ∃ W, W = (w.alloc (.cells #[.int .i64 y.kind, .string y.text, .int .i64 y.num, .int .i64 y.at_, .slice y.ptr y.kids.length y.cap] 24)) := ⟨_, rfl⟩
  rw [← hw0] at HD0 HI0 hz0 ⊢
  clear hw0
  have HK : Hid (∀ W, PK pb base w0 W → (W.cell? ⟨w.heap.size, 0, none⟩ = some (.int .i64 y.kind) ∧ W.cell? ⟨w.heap.size, 1, none⟩ = some (.string y.text) ∧ W.cell? ⟨w.heap.size, 2, none⟩ = some (.int .i64 y.num) ∧ W.cell? ⟨w.heap.size, 3, none⟩ = some (.int .i64 y.at_) ∧ W.cell? ⟨w.heap.size, 4, none⟩ = some (.slice y.ptr y.kids.length y.cap))) := fun W hW => by
    have nd := hW.high (w.heap.size) _ _ _ (by omega) HD0.out.2.2 (by decide)
    obtain ⟨k0, k1, k2, k3, k4⟩ := cells5 nd
    exact ⟨k0, k1, k2, k3, k4⟩
  have hBW : base ≤ w0.heap.size := by omega
  obtain ⟨k0, k1, k2, k3, k4⟩ := HK.out w0 (PK.refl _ _ _)
  go_region_held3 (fun W => W.cell? ⟨w.heap.size, 0, none⟩ = some (.int .i64 y.kind) ∧ W.cell? ⟨w.heap.size, 1, none⟩ = some (.string y.text) ∧ W.cell? ⟨w.heap.size, 2, none⟩ = some (.int .i64 y.num) ∧ W.cell? ⟨w.heap.size, 3, none⟩ = some (.int .i64 y.at_) ∧ W.cell? ⟨w.heap.size, 4, none⟩ = some (.slice y.ptr y.kids.length y.cap))
    (first | exact HK.out _ hk1 | exact HK.out _ (PK.of hl0 hBW) | exact HK.out _ (PK.drw _ _ _))
    (first | (go_at_call 147; refine (HLV.out _).mono ?_; rintro e wl0 ⟨rfl, hm0⟩; have hl0 : Below w0.heap.size w0 wl0 := ((Below.refl _ _).drew.trans (hm0.mono (by simp))); clear hm0) | (go_at_call 101; refine (HPT.out _ _ _ (Nat.le_trans (Nat.le_of_eq (Eq.refl s.ind)) hi) (HD0.out.1.below hl0) (Nat.le_trans hBW hl0.size) (In.pk HI0.out (PK.of (pb := pb) (base := base) hl0 hBW) hpb)).mono ?_; rintro e w1 ⟨⟨u1, rfl⟩, v1, hP1, hi1, hq1⟩; have hk1 : PK pb base w0 w1 := (PK.of hl0 hBW).trans hq1; clear hq1))
  clear hl0
  have HJ1 : Hid ((partG (decide (levK y < 7)) y.kind g s).ind = s.ind) := hi1.trans (Eq.refl s.ind)
  have HE : Hid (_ ∧ PK pb base w w1) := ⟨hP1, HD0.out.2.1.trans hk1⟩
  clear hP1 hk1 k0 k1 k2 k3 k4 hBW HK
  go_wp2_with fail
  go_end0
  exact ⟨⟨_, rfl⟩, v1, HE.out.1, HJ1.out, HE.out.2⟩
end Go.Proofs.YthbnegggohegkaaGreatDoor
namespace Go.Proofs.YthbnegggohegkaaGreatDoor
open Go.RowKit
variable {pb base L : Nat} {s : PS} {v : Value} {w w' : World}
set_option maxRecDepth 100000 in
set_option maxHeartbeats 4000000 in
theorem c167n {bp bn : Nat} {t : ByteArray} {n a : Int} {p : Option Addr} {c : Nat} {y0 : MT} {ks : List MT} {g : PS → PS} (hpb : pb < base) (hnp : bp ≠ pb ∧ bn ≠ pb) (hc1 : c ≠ 1) (h : ∀ p', Wc 70 #[.pointer (some ⟨pb, 0, none⟩), .slice p' ks.length (c - 1), .func (.func 71) #[.pointer (some ⟨pb, 0, none⟩)] #[]] pb base L (Kd pb p' ks) g) : Wc 167 #[.pointer (some ⟨bp, 0, none⟩), .pointer (some ⟨bn, 0, none⟩)] pb base L (Bx pb bp bn (.node 48 t n a p c (y0 :: ks))) g := by
  have HNP : Hid _ := hnp
  clear hnp
  intro s v w hi hP hB hc
  have hkk := hc.inn.kidsL
  simp only [MT.kids_node, MT.ptr_node] at hkk
  rcases hkk with hkk | ⟨b, o, rfl, hbp, hL⟩
  · cases hkk
  have H : Hid _ := h
  have HP : Hid _ := hP
  have HX : Hid (Bx pb bp bn _ w) := hc
  have HLL : Hid (MT.InL pb w b o _) := hL
  have hcl := hc.inn.len_le
  simp only [MT.kids_node, MT.cap_node, List.length_cons] at hcl
  have hcm := hc.inn.cap_le
  simp only [MT.cap_node] at hcm
  have kp : w.cell? ⟨bp, 0, none⟩ = some (.pointer (some ⟨pb, 0, none⟩)) := by simp [World.cell?, hc.p]
  have k4 : w.cell? ⟨bn, 4, none⟩ = some (.slice (some ⟨b, o, none⟩) (ks.length + 1) c) := by simp [World.cell?, hc.n, MT.kind_node, MT.text_node, MT.num_node, MT.at_node, MT.ptr_node, MT.cap_node, MT.kids_node]
  have HBX : Hid (∀ w5 : World, PK pb base w w5 → (w5.cell? ⟨bp, 0, none⟩ = some (.pointer (some ⟨pb, 0, none⟩)) ∧ w5.cell? ⟨bn, 4, none⟩ = some (.slice (some ⟨b, o, none⟩) (ks.length + 1) c))) := fun w5 hk => by
    have x1 := HX.out.pk hpb HNP.out.1 HNP.out.2 hk
    exact ⟨by simp [World.cell?, x1.p], by simp [World.cell?, x1.n, MT.kind_node, MT.text_node, MT.num_node, MT.at_node, MT.ptr_node, MT.cap_node, MT.kids_node]⟩
  have hc2 : (c : Int) ≠ 1 := by omega
  have hc3 : (1 : Int) ≤ c := by omega
  have hc4 : (1 : Int) ≤ (ks.length : Int) + 1 := by omega
  clear hc hP hL h
  go_enter Tryz.func167, Tryz.ntmps167
  go_wp2_with fail
  go_region_held3 (fun W => W.cell? ⟨bp, 0, none⟩ = some (.pointer (some ⟨pb, 0, none⟩)) ∧ W.cell? ⟨bn, 4, none⟩ = some (.slice (some ⟨b, o, none⟩) (ks.length + 1) c))
    (first | exact HBX.out _ hK5 | exact HBX.out _ (PK.drw _ _ _))
    (first | (go_at_call 70; refine (H.out _ s v _ hi (HP.out.below (Below.refl _ _).drew) hB (Or.inr ⟨b, o + 5, rfl, hbp, by have := HLL.out.drop 1; simpa using MT.InL.below ((PK.drw pb base w).below (by omega) (Nat.le_refl _)) b (o + 1 * 5) hbp _ this⟩)).mono ?_; rintro e w5 ⟨⟨u5, rfl⟩, v5, hP5, hi5, hq5⟩; have hK5 : PK pb base w w5 := (PK.drw _ _ _).trans hq5))
  go_wp2_with fail
  go_end0
  exact ⟨⟨_, rfl⟩, v5, hP5, hi5, hK5⟩
set_option maxRecDepth 100000 in
set_option maxHeartbeats 4000000 in
theorem c167e {bp bn : Nat} {t : ByteArray} {n a : Int} {p : Option Addr} {y0 : MT} {g : PS → PS} (hpb : pb < base) (hnp : bp ≠ pb ∧ bn ≠ pb) (h : ∀ p', Wc 70 #[.pointer (some ⟨pb, 0, none⟩), .slice p' 0 0, .func (.func 71) #[.pointer (some ⟨pb, 0, none⟩)] #[]] pb base L (Kd pb p' []) g) : Wc 167 #[.pointer (some ⟨bp, 0, none⟩), .pointer (some ⟨bn, 0, none⟩)] pb base L (Bx pb bp bn (.node 48 t n a p 1 [y0])) g := by
  have HNP : Hid _ := hnp
  clear hnp
  intro s v w hi hP hB hc
  have hkk := hc.inn.kidsL
  simp only [MT.kids_node, MT.ptr_node] at hkk
  rcases hkk with hkk | ⟨b, o, rfl, hbp, hL⟩
  · cases hkk
  have H : Hid _ := h
  have HP : Hid _ := hP
  have HX : Hid (Bx pb bp bn _ w) := hc
  have HLL : Hid (MT.InL pb w b o _) := hL
  have hcl := hc.inn.len_le
  simp only [MT.kids_node, MT.cap_node, List.length_cons] at hcl
  have hcm := hc.inn.cap_le
  simp only [MT.cap_node] at hcm
  have kp : w.cell? ⟨bp, 0, none⟩ = some (.pointer (some ⟨pb, 0, none⟩)) := by simp [World.cell?, hc.p]
  have k4 : w.cell? ⟨bn, 4, none⟩ = some (.slice (some ⟨b, o, none⟩) 1 1) := by simp [World.cell?, hc.n, MT.kind_node, MT.text_node, MT.num_node, MT.at_node, MT.ptr_node, MT.cap_node, MT.kids_node]
  have HBX : Hid (∀ w5 : World, PK pb base w w5 → (w5.cell? ⟨bp, 0, none⟩ = some (.pointer (some ⟨pb, 0, none⟩)) ∧ w5.cell? ⟨bn, 4, none⟩ = some (.slice (some ⟨b, o, none⟩) 1 1))) := fun w5 hk => by
    have x1 := HX.out.pk hpb HNP.out.1 HNP.out.2 hk
    exact ⟨by simp [World.cell?, x1.p], by simp [World.cell?, x1.n, MT.kind_node, MT.text_node, MT.num_node, MT.at_node, MT.ptr_node, MT.cap_node, MT.kids_node]⟩
  skip
  skip
  skip
  clear hc hP hL h
  go_enter Tryz.func167, Tryz.ntmps167
  go_wp2_with fail
  go_region_held3 (fun W => W.cell? ⟨bp, 0, none⟩ = some (.pointer (some ⟨pb, 0, none⟩)) ∧ W.cell? ⟨bn, 4, none⟩ = some (.slice (some ⟨b, o, none⟩) 1 1))
    (first | exact HBX.out _ hK5 | exact HBX.out _ (PK.drw _ _ _))
    (first | (go_at_call 70; refine (H.out _ s v _ hi (HP.out.below (Below.refl _ _).drew) hB (Or.inl rfl)).mono ?_; rintro e w5 ⟨⟨u5, rfl⟩, v5, hP5, hi5, hq5⟩; have hK5 : PK pb base w w5 := (PK.drw _ _ _).trans hq5))
  go_wp2_with fail
  go_end0
  exact ⟨⟨_, rfl⟩, v5, hP5, hi5, hK5⟩
end Go.Proofs.YthbnegggohegkaaGreatDoor
namespace Go.Proofs.YthbnegggohegkaaGreatDoor
open Go.RowKit
variable {pb base L : Nat} {s : PS} {v : Value} {w w' : World}
set_option maxRecDepth 100000 in
set_option maxHeartbeats 4000000 in
theorem plain_41  {t : ByteArray} {n : Int} {a : Int} {p : Option Addr} {c : Nat} {ks : List MT}  {g : PS → PS} {q : ByteArray} (hq : t ++ (⟨#[123]⟩ : ByteArray) = q) (hqs : q.size ≤ 4000000000) (ht : t.size ≤ 3000000000) (h : Wc 70 #[.pointer (some ⟨pb, 0, none⟩), .slice p ks.length c, .func (.func 75) #[.pointer (some ⟨pb, 0, none⟩)] #[]] pb base L (Kd pb p ks) g) (hpb : pb < base) : Wf 132 pb base L (.node 41 t n a p c ks) (fun s => (brG q ⟨#[125]⟩ g s)) := by
  intro s v w hi hP hB hin
  have Hh : Hid _ := h
  clear h
  have Hhq : Hid _ := hq
  clear hq
  have hb0 : Below w.heap.size w ((w.alloc (.cells #[.pointer (some ⟨pb, 0, none⟩)] 114)).alloc (.cells #[.int .i64 41, .string t, .int .i64 n, .int .i64 a, .slice p ks.length c] 24)) := below2 _ _ _
  have hP0 := hP.below hb0
  have hK0 : PK pb base w _ := PK.of (pb := pb) hb0 hB
  have HI0 : Hid _ := In.pk hin hK0 hpb
  have pd0 := (hb0_ w (.cells #[.pointer (some ⟨pb, 0, none⟩)] 114) (.cells #[.int .i64 41, .string t, .int .i64 n, .int .i64 a, .slice p ks.length c] 24))
  have nd0 := (nb0_ w (.cells #[.pointer (some ⟨pb, 0, none⟩)] 114) (.cells #[.int .i64 41, .string t, .int .i64 n, .int .i64 a, .slice p ks.length c] 24))
  have hz0 := lt_of nd0
  have HD0 : Hid (_ ∧ _ ∧ _ ∧ _) := ⟨hP0, hK0, nd0, pd0⟩
  clear hP hin hb0 hP0 hK0 nd0 pd0
  rw [nvk]
  go_enter Tryz.func132, Tryz.ntmps132
  go_wp2_with fail
  rw [Hhq.out]
  refine ((brack_any (o := q) (c := ⟨#[125]⟩) hpb hqs (by decide) (c146 (y := .node 41 t n a p c ks) Hh.out) (fun _ _ h1 h2 => h1.pk hpb (by omega) (by omega) h2) Tryz.call146) _ _ _ (Nat.le_trans (Nat.le_of_eq (Eq.refl s.ind)) hi) HD0.out.1 (Nat.le_trans hB HD0.out.2.1.size) ⟨HD0.out.2.2.2, HD0.out.2.2.1, HI0.out⟩).mono ?_
  rintro e w1 ⟨⟨u1, rfl⟩, v1, hP1, hi1, hk1⟩
  have HJ1 : Hid ((brG q ⟨#[125]⟩ g s).ind = s.ind) := hi1.trans (Eq.refl s.ind)
  clear hi1
  have HE : Hid (_ ∧ PK pb base w w1) := ⟨hP1, HD0.out.2.1.trans hk1⟩
  clear hP1 hk1 
  go_wp2_with fail
  go_end0
  exact ⟨⟨_, rfl⟩, v1, HE.out.1, HJ1.out, HE.out.2⟩
end Go.Proofs.YthbnegggohegkaaGreatDoor
namespace Go.Proofs.YthbnegggohegkaaGreatDoor
open Go.RowKit
variable {pb base L : Nat} {s : PS} {v : Value} {w w' : World}
set_option maxRecDepth 100000 in
set_option maxHeartbeats 4000000 in
theorem plain_14  {t : ByteArray} {n : Int} {a : Int} {p : Option Addr} {c : Nat}  (ht : t.size ≤ 4000000000) (hpb : pb < base) : Wf 132 pb base L (.node 14 t n a p c []) (fun s => (putS [t] s)) := by
  intro s v w hi hP hB hin
  have hb0 : Below w.heap.size w ((w.alloc (.cells #[.pointer (some ⟨pb, 0, none⟩)] 114)).alloc (.cells #[.int .i64 14, .string t, .int .i64 n, .int .i64 a, .slice p 0 c] 24)) := below2 _ _ _
  have hP0 := hP.below hb0
  have hK0 : PK pb base w _ := PK.of (pb := pb) hb0 hB
  have HI0 : Hid _ := In.pk hin hK0 hpb
  have pd0 := (hb0_ w (.cells #[.pointer (some ⟨pb, 0, none⟩)] 114) (.cells #[.int .i64 14, .string t, .int .i64 n, .int .i64 a, .slice p 0 c] 24))
  have nd0 := (nb0_ w (.cells #[.pointer (some ⟨pb, 0, none⟩)] 114) (.cells #[.int .i64 14, .string t, .int .i64 n, .int .i64 a, .slice p 0 c] 24))
  have hz0 := lt_of nd0
  have HD0 : Hid (_ ∧ _ ∧ _ ∧ _) := ⟨hP0, hK0, nd0, pd0⟩
  clear hP hin hb0 hP0 hK0 nd0 pd0
  rw [nv0]
  go_enter Tryz.func132, Tryz.ntmps132
  go_wp2_with fail
  refine (putc [t] HD0.out.1 hpb (Nat.le_trans hB HD0.out.2.1.size) (al_cons ht al_nil) (by simp) (by first | rfl | simp)).mono ?_
  rintro e w1 ⟨⟨u1, rfl⟩, v1, hP1, hk1⟩
  have HJ1 : Hid ((putS [t] s).ind = s.ind) := (putS_ind _ _).trans (Eq.refl s.ind)
  have HE : Hid (_ ∧ PK pb base w w1) := ⟨hP1, HD0.out.2.1.trans hk1⟩
  clear hP1 hk1 
  go_wp2_with fail
  go_end0
  exact ⟨⟨_, rfl⟩, v1, HE.out.1, HJ1.out, HE.out.2⟩
set_option maxRecDepth 100000 in
set_option maxHeartbeats 4000000 in
theorem plain_35  {t : ByteArray} {n : Int} {a : Int} {p : Option Addr} {c : Nat}  (ht : t.size ≤ 4000000000) (hpb : pb < base) : Wf 132 pb base L (.node 35 t n a p c []) (fun s => (putS [t] s)) := by
  intro s v w hi hP hB hin
  have hb0 : Below w.heap.size w ((w.alloc (.cells #[.pointer (some ⟨pb, 0, none⟩)] 114)).alloc (.cells #[.int .i64 35, .string t, .int .i64 n, .int .i64 a, .slice p 0 c] 24)) := below2 _ _ _
  have hP0 := hP.below hb0
  have hK0 : PK pb base w _ := PK.of (pb := pb) hb0 hB
  have HI0 : Hid _ := In.pk hin hK0 hpb
  have pd0 := (hb0_ w (.cells #[.pointer (some ⟨pb, 0, none⟩)] 114) (.cells #[.int .i64 35, .string t, .int .i64 n, .int .i64 a, .slice p 0 c] 24))
  have nd0 := (nb0_ w (.cells #[.pointer (some ⟨pb, 0, none⟩)] 114) (.cells #[.int .i64 35, .string t, .int .i64 n, .int .i64 a, .slice p 0 c] 24))
  have hz0 := lt_of nd0
  have HD0 : Hid (_ ∧ _ ∧ _ ∧ _) := ⟨hP0, hK0, nd0, pd0⟩
  clear hP hin hb0 hP0 hK0 nd0 pd0
  rw [nv0]
  go_enter Tryz.func132, Tryz.ntmps132
  go_wp2_with fail
  refine (putc [t] HD0.out.1 hpb (Nat.le_trans hB HD0.out.2.1.size) (al_cons ht al_nil) (by simp) (by first | rfl | simp)).mono ?_
  rintro e w1 ⟨⟨u1, rfl⟩, v1, hP1, hk1⟩
  have HJ1 : Hid ((putS [t] s).ind = s.ind) := (putS_ind _ _).trans (Eq.refl s.ind)
  have HE : Hid (_ ∧ PK pb base w w1) := ⟨hP1, HD0.out.2.1.trans hk1⟩
  clear hP1 hk1 
  go_wp2_with fail
  go_end0
  exact ⟨⟨_, rfl⟩, v1, HE.out.1, HJ1.out, HE.out.2⟩
set_option maxRecDepth 100000 in
set_option maxHeartbeats 4000000 in
theorem plain_36  {t : ByteArray} {n : Int} {a : Int} {p : Option Addr} {c : Nat}  (ht : t.size ≤ 4000000000) (hpb : pb < base) : Wf 132 pb base L (.node 36 t n a p c []) (fun s => (putS [t] s)) := by
  intro s v w hi hP hB hin
  have hb0 : Below w.heap.size w ((w.alloc (.cells #[.pointer (some ⟨pb, 0, none⟩)] 114)).alloc (.cells #[.int .i64 36, .string t, .int .i64 n, .int .i64 a, .slice p 0 c] 24)) := below2 _ _ _
  have hP0 := hP.below hb0
  have hK0 : PK pb base w _ := PK.of (pb := pb) hb0 hB
  have HI0 : Hid _ := In.pk hin hK0 hpb
  have pd0 := (hb0_ w (.cells #[.pointer (some ⟨pb, 0, none⟩)] 114) (.cells #[.int .i64 36, .string t, .int .i64 n, .int .i64 a, .slice p 0 c] 24))
  have nd0 := (nb0_ w (.cells #[.pointer (some ⟨pb, 0, none⟩)] 114) (.cells #[.int .i64 36, .string t, .int .i64 n, .int .i64 a, .slice p 0 c] 24))
  have hz0 := lt_of nd0
  have HD0 : Hid (_ ∧ _ ∧ _ ∧ _) := ⟨hP0, hK0, nd0, pd0⟩
  clear hP hin hb0 hP0 hK0 nd0 pd0
  rw [nv0]
  go_enter Tryz.func132, Tryz.ntmps132
  go_wp2_with fail
  refine (putc [t] HD0.out.1 hpb (Nat.le_trans hB HD0.out.2.1.size) (al_cons ht al_nil) (by simp) (by first | rfl | simp)).mono ?_
  rintro e w1 ⟨⟨u1, rfl⟩, v1, hP1, hk1⟩
  have HJ1 : Hid ((putS [t] s).ind = s.ind) := (putS_ind _ _).trans (Eq.refl s.ind)
  have HE : Hid (_ ∧ PK pb base w w1) := ⟨hP1, HD0.out.2.1.trans hk1⟩
  clear hP1 hk1 
  go_wp2_with fail
  go_end0
  exact ⟨⟨_, rfl⟩, v1, HE.out.1, HJ1.out, HE.out.2⟩
set_option maxRecDepth 100000 in
set_option maxHeartbeats 4000000 in
theorem plain_37  {t : ByteArray} {n : Int} {a : Int} {p : Option Addr} {c : Nat}  {g : PS → PS} (h : Wc 143 #[.pointer (some ⟨pb, 0, none⟩), .string t] pb base L (fun _ => True) g) (hpb : pb < base) : Wf 132 pb base L (.node 37 t n a p c []) (fun s => (g s)) := by
  intro s v w hi hP hB hin
  have Hh : Hid _ := h
  clear h
  have hb0 : Below w.heap.size w ((w.alloc (.cells #[.pointer (some ⟨pb, 0, none⟩)] 114)).alloc (.cells #[.int .i64 37, .string t, .int .i64 n, .int .i64 a, .slice p 0 c] 24)) := below2 _ _ _
  have hP0 := hP.below hb0
  have hK0 : PK pb base w _ := PK.of (pb := pb) hb0 hB
  have HI0 : Hid _ := In.pk hin hK0 hpb
  have pd0 := (hb0_ w (.cells #[.pointer (some ⟨pb, 0, none⟩)] 114) (.cells #[.int .i64 37, .string t, .int .i64 n, .int .i64 a, .slice p 0 c] 24))
  have nd0 := (nb0_ w (.cells #[.pointer (some ⟨pb, 0, none⟩)] 114) (.cells #[.int .i64 37, .string t, .int .i64 n, .int .i64 a, .slice p 0 c] 24))
  have hz0 := lt_of nd0
  have HD0 : Hid (_ ∧ _ ∧ _ ∧ _) := ⟨hP0, hK0, nd0, pd0⟩
  clear hP hin hb0 hP0 hK0 nd0 pd0
  rw [nv0]
  go_enter Tryz.func132, Tryz.ntmps132
  go_wp2_with fail
  refine (Hh.out _ _ _ (Nat.le_trans (Nat.le_of_eq (Eq.refl s.ind)) hi) HD0.out.1 (Nat.le_trans hB HD0.out.2.1.size) trivial).mono ?_
  rintro e w1 ⟨⟨u1, rfl⟩, v1, hP1, hi1, hk1⟩
  have HJ1 : Hid ((g s).ind = s.ind) := hi1.trans (Eq.refl s.ind)
  clear hi1
  have HE : Hid (_ ∧ PK pb base w w1) := ⟨hP1, HD0.out.2.1.trans hk1⟩
  clear hP1 hk1 
  go_wp2_with fail
  go_end0
  exact ⟨⟨_, rfl⟩, v1, HE.out.1, HJ1.out, HE.out.2⟩
set_option maxRecDepth 100000 in
set_option maxHeartbeats 4000000 in
theorem plain_38  {t : ByteArray} {n : Int} {a : Int} {p : Option Addr} {c : Nat} {ks : List MT}  {g : PS → PS} (h : Wc 70 #[.pointer (some ⟨pb, 0, none⟩), .slice p ks.length c, .func (.func 71) #[.pointer (some ⟨pb, 0, none⟩)] #[]] pb base L (Kd pb p ks) g) (hpb : pb < base) : Wf 132 pb base L (.node 38 t n a p c ks) (fun s => (brG ⟨#[91]⟩ ⟨#[93]⟩ g s)) := by
  intro s v w hi hP hB hin
  have Hh : Hid _ := h
  clear h
  have hb0 : Below w.heap.size w ((w.alloc (.cells #[.pointer (some ⟨pb, 0, none⟩)] 114)).alloc (.cells #[.int .i64 38, .string t, .int .i64 n, .int .i64 a, .slice p ks.length c] 24)) := below2 _ _ _
  have hP0 := hP.below hb0
  have hK0 : PK pb base w _ := PK.of (pb := pb) hb0 hB
  have HI0 : Hid _ := In.pk hin hK0 hpb
  have pd0 := (hb0_ w (.cells #[.pointer (some ⟨pb, 0, none⟩)] 114) (.cells #[.int .i64 38, .string t, .int .i64 n, .int .i64 a, .slice p ks.length c] 24))
  have nd0 := (nb0_ w (.cells #[.pointer (some ⟨pb, 0, none⟩)] 114) (.cells #[.int .i64 38, .string t, .int .i64 n, .int .i64 a, .slice p ks.length c] 24))
  have hz0 := lt_of nd0
  have HD0 : Hid (_ ∧ _ ∧ _ ∧ _) := ⟨hP0, hK0, nd0, pd0⟩
  clear hP hin hb0 hP0 hK0 nd0 pd0
  rw [nvk]
  go_enter Tryz.func132, Tryz.ntmps132
  go_wp2_with fail
  refine ((brack_any (o := ⟨#[91]⟩) (c := ⟨#[93]⟩) hpb (by decide) (by decide) (c144 (y := .node 38 t n a p c ks) Hh.out) (fun _ _ h1 h2 => h1.pk hpb (by omega) (by omega) h2) Tryz.call144) _ _ _ (Nat.le_trans (Nat.le_of_eq (Eq.refl s.ind)) hi) HD0.out.1 (Nat.le_trans hB HD0.out.2.1.size) ⟨HD0.out.2.2.2, HD0.out.2.2.1, HI0.out⟩).mono ?_
  rintro e w1 ⟨⟨u1, rfl⟩, v1, hP1, hi1, hk1⟩
  have HJ1 : Hid ((brG ⟨#[91]⟩ ⟨#[93]⟩ g s).ind = s.ind) := hi1.trans (Eq.refl s.ind)
  clear hi1
  have HE : Hid (_ ∧ PK pb base w w1) := ⟨hP1, HD0.out.2.1.trans hk1⟩
  clear hP1 hk1 
  go_wp2_with fail
  go_end0
  exact ⟨⟨_, rfl⟩, v1, HE.out.1, HJ1.out, HE.out.2⟩
set_option maxRecDepth 100000 in
set_option maxHeartbeats 4000000 in
theorem plain_39  {t : ByteArray} {n : Int} {a : Int} {p : Option Addr} {c : Nat} {ks : List MT}  {g : PS → PS} (h : Wc 70 #[.pointer (some ⟨pb, 0, none⟩), .slice p ks.length c, .func (.func 75) #[.pointer (some ⟨pb, 0, none⟩)] #[]] pb base L (Kd pb p ks) g) (hpb : pb < base) : Wf 132 pb base L (.node 39 t n a p c ks) (fun s => (brG ⟨#[109, 97, 112, 123]⟩ ⟨#[125]⟩ g s)) := by
  intro s v w hi hP hB hin
  have Hh : Hid _ := h
  clear h
  have hb0 : Below w.heap.size w ((w.alloc (.cells #[.pointer (some ⟨pb, 0, none⟩)] 114)).alloc (.cells #[.int .i64 39, .string t, .int .i64 n, .int .i64 a, .slice p ks.length c] 24)) := below2 _ _ _
  have hP0 := hP.below hb0
  have hK0 : PK pb base w _ := PK.of (pb := pb) hb0 hB
  have HI0 : Hid _ := In.pk hin hK0 hpb
  have pd0 := (hb0_ w (.cells #[.pointer (some ⟨pb, 0, none⟩)] 114) (.cells #[.int .i64 39, .string t, .int .i64 n, .int .i64 a, .slice p ks.length c] 24))
  have nd0 := (nb0_ w (.cells #[.pointer (some ⟨pb, 0, none⟩)] 114) (.cells #[.int .i64 39, .string t, .int .i64 n, .int .i64 a, .slice p ks.length c] 24))
  have hz0 := lt_of nd0
  have HD0 : Hid (_ ∧ _ ∧ _ ∧ _) := ⟨hP0, hK0, nd0, pd0⟩
  clear hP hin hb0 hP0 hK0 nd0 pd0
  rw [nvk]
  go_enter Tryz.func132, Tryz.ntmps132
  go_wp2_with fail
  refine ((brack_any (o := ⟨#[109, 97, 112, 123]⟩) (c := ⟨#[125]⟩) hpb (by decide) (by decide) (c145 (y := .node 39 t n a p c ks) Hh.out) (fun _ _ h1 h2 => h1.pk hpb (by omega) (by omega) h2) Tryz.call145) _ _ _ (Nat.le_trans (Nat.le_of_eq (Eq.refl s.ind)) hi) HD0.out.1 (Nat.le_trans hB HD0.out.2.1.size) ⟨HD0.out.2.2.2, HD0.out.2.2.1, HI0.out⟩).mono ?_
  rintro e w1 ⟨⟨u1, rfl⟩, v1, hP1, hi1, hk1⟩
  have HJ1 : Hid ((brG ⟨#[109, 97, 112, 123]⟩ ⟨#[125]⟩ g s).ind = s.ind) := hi1.trans (Eq.refl s.ind)
  clear hi1
  have HE : Hid (_ ∧ PK pb base w w1) := ⟨hP1, HD0.out.2.1.trans hk1⟩
  clear hP1 hk1 
  go_wp2_with fail
  go_end0
  exact ⟨⟨_, rfl⟩, v1, HE.out.1, HJ1.out, HE.out.2⟩
end Go.Proofs.YthbnegggohegkaaGreatDoor
namespace Go.Proofs.YthbnegggohegkaaGreatDoor
open Go.RowKit
variable {pb base L : Nat} {s : PS} {v : Value} {w w' : World}
set_option maxRecDepth 100000 in
set_option maxHeartbeats 4000000 in
theorem plain_51  {t : ByteArray} {n : Int} {a : Int} {p : Option Addr} {c : Nat} {y0 y1 : MT}  {g0 g1 : PS → PS} (ht : t.size ≤ 4000000000) (h0 : Wf 132 pb base L y0 g0) (h1 : Wf 132 pb base L y1 g1) (hpb : pb < base) : Wf 132 pb base L (.node 51 t n a p c [y0, y1]) (fun s => (partG (decide (levK y1 ≤ (levelN t.data.toList : Nat))) y1.kind g1 (putS [⟨#[32]⟩, t, ⟨#[32]⟩] (partG (decide (levK y0 < (levelN t.data.toList : Nat))) y0.kind g0 s)))) := by
  intro s v w hi hP hB hin
  have hkk := hin.kidsL
  simp only [MT.kids_node, MT.ptr_node] at hkk
  rcases hkk with hkk | ⟨b, o, rfl, hbp, hL⟩
  · cases hkk
  have hb0 : Below w.heap.size w ((w.alloc (.cells #[.pointer (some ⟨pb, 0, none⟩)] 114)).alloc (.cells #[.int .i64 51, .string t, .int .i64 n, .int .i64 a, .slice (some ⟨b, o, none⟩) 2 c] 24)) := below2 _ _ _
  have hP0 := hP.below hb0
  have hK0 : PK pb base w _ := PK.of (pb := pb) hb0 hB
  have HI0 : Hid _ := In.pk hin hK0 hpb
  have pd0 := (hb0_ w (.cells #[.pointer (some ⟨pb, 0, none⟩)] 114) (.cells #[.int .i64 51, .string t, .int .i64 n, .int .i64 a, .slice (some ⟨b, o, none⟩) 2 c] 24))
  have nd0 := (nb0_ w (.cells #[.pointer (some ⟨pb, 0, none⟩)] 114) (.cells #[.int .i64 51, .string t, .int .i64 n, .int .i64 a, .slice (some ⟨b, o, none⟩) 2 c] 24))
  have HL0 : Hid (MT.InL pb _ b o [y0, y1]) := MT.InL.below (hb0.mono (by omega)) b o hbp _ hL
  have hz0 := lt_of nd0
  have HD0 : Hid (_ ∧ _ ∧ _ ∧ _) := ⟨hP0, hK0, nd0, pd0⟩
  have hbz : b < w.heap.size := by omega
  clear hP hin hb0 hP0 hK0 nd0 pd0 hL
  rw [nv2]
  go_enter Tryz.func132, Tryz.ntmps132
  go_wp2_with fail
  have e51 : levK (MT.node 51 t n a (some ⟨b, o, none⟩) c [y0, y1]) = (levelN t.data.toList : Nat) := rfl
  have HLT : Hid (∀ W, Calls Tryz.prog 147 #[.agg #[.int .i64 51, .string t, .int .i64 n, .int .i64 a, .slice (some ⟨b, o, none⟩) 2 c]] W fun e w' => e = .returned (.int .i64 (levelN t.data.toList : Nat)) ∧ Below W.heap.size W w') := fun W => by rw [← e51]; exact level_all (MT.node 51 t n a (some ⟨b, o, none⟩) c [y0, y1]) W
  clear e51
  have HLX : Hid _ := level_all y0
  have HLY : Hid _ := level_all y1
  have HPX : Hid _ := part_all (decide (levK y0 < (levelN t.data.toList : Nat))) hpb h0
  have HPY : Hid _ := part_all (decide (levK y1 ≤ (levelN t.data.toList : Nat))) hpb h1
  clear h0 h1
  obtain ⟨w0, hw0⟩ : ∃ W, W = ((w.alloc (.cells #[.pointer (some ⟨pb, 0, none⟩)] 114)).alloc (.cells #[.int .i64 51, .string t, .int .i64 n, .int .i64 a, .slice (some ⟨b, o, none⟩) 2 c] 24)) := ⟨_, rfl⟩
  rw [← hw0] at HD0 HI0 hz0 HL0 ⊢
  clear hw0
  have hbz0 : b < w0.heap.size := by omega
  have HK : Hid (∀ W, PK pb base w0 W → (W.cell? ⟨w.heap.size + 1, 0, none⟩ = some (.int .i64 51) ∧ W.cell? ⟨w.heap.size + 1, 1, none⟩ = some (.string t) ∧ W.cell? ⟨w.heap.size + 1, 2, none⟩ = some (.int .i64 n) ∧ W.cell? ⟨w.heap.size + 1, 3, none⟩ = some (.int .i64 a) ∧ W.cell? ⟨w.heap.size + 1, 4, none⟩ = some (.slice (some ⟨b, o, none⟩) 2 c) ∧ W.cell? ⟨w.heap.size, 0, none⟩ = some (.pointer (some ⟨pb, 0, none⟩)) ∧ W.cell? ⟨b, o, none⟩ = some (.int .i64 y0.kind) ∧ W.cell? ⟨b, o + 1, none⟩ = some (.string y0.text) ∧ W.cell? ⟨b, o + 2, none⟩ = some (.int .i64 y0.num) ∧ W.cell? ⟨b, o + 3, none⟩ = some (.int .i64 y0.at_) ∧ W.cell? ⟨b, o + 4, none⟩ = some (.slice y0.ptr y0.kids.length y0.cap))) := fun W hW => by
    have nd := hW.high (w.heap.size + 1) _ _ _ (by omega) HD0.out.2.2.1 (by decide)
    have pd := hW.high w.heap.size _ _ _ (by omega) HD0.out.2.2.2 (by decide)
    have hLW := MT.InL.below (hW.below (by omega) (Nat.le_refl _)) b o hbp _ HL0.out
    obtain ⟨c00, c01, c02, c03, c04⟩ : MT.CellsAt W b o y0 := (hLW.get 0 (by simp)).1
    obtain ⟨k0, k1, k2, k3, k4⟩ := cells5 nd
    exact ⟨k0, k1, k2, k3, k4, cells1 pd, c00, c01, c02, c03, c04⟩
  have hBW : base ≤ w0.heap.size := by omega
  obtain ⟨k0, k1, k2, k3, k4, kp, c00, c01, c02, c03, c04⟩ := HK.out w0 (PK.refl _ _ _)
  go_region_held3 (fun W => W.cell? ⟨w.heap.size + 1, 0, none⟩ = some (.int .i64 51) ∧ W.cell? ⟨w.heap.size + 1, 1, none⟩ = some (.string t) ∧ W.cell? ⟨w.heap.size + 1, 2, none⟩ = some (.int .i64 n) ∧ W.cell? ⟨w.heap.size + 1, 3, none⟩ = some (.int .i64 a) ∧ W.cell? ⟨w.heap.size + 1, 4, none⟩ = some (.slice (some ⟨b, o, none⟩) 2 c) ∧ W.cell? ⟨w.heap.size, 0, none⟩ = some (.pointer (some ⟨pb, 0, none⟩)) ∧ W.cell? ⟨b, o, none⟩ = some (.int .i64 y0.kind) ∧ W.cell? ⟨b, o + 1, none⟩ = some (.string y0.text) ∧ W.cell? ⟨b, o + 2, none⟩ = some (.int .i64 y0.num) ∧ W.cell? ⟨b, o + 3, none⟩ = some (.int .i64 y0.at_) ∧ W.cell? ⟨b, o + 4, none⟩ = some (.slice y0.ptr y0.kids.length y0.cap))
    (first | exact HK.out _ hk1 | exact HK.out _ (PK.of hl0 hBW) | exact HK.out _ (PK.of hl1 hBW) | exact HK.out _ (PK.drw _ _ _))
    (first | (go_at_call_of 147 (MT.kind y0); refine (HLX.out _).mono ?_; rintro e wl0 ⟨rfl, hm0⟩; have hl0 : Below w0.heap.size w0 wl0 := ((Below.refl _ _).drew.trans (hm0.mono (by simp))); clear hm0) | (go_at_call 147; refine (HLT.out _).mono ?_; rintro e wl1 ⟨rfl, hm1⟩; have hl1 : Below w0.heap.size w0 wl1 := (hl0.trans (hm1.mono hl0.size)); clear hm1) | (go_at_call 101; refine (HPX.out _ _ _ (Nat.le_trans (Nat.le_of_eq (Eq.refl s.ind)) hi) (HD0.out.1.below hl1) (Nat.le_trans hBW hl1.size) (In.pk (HL0.out.get 0 (by simp)).2 (PK.of (pb := pb) (base := base) hl1 hBW) hpb)).mono ?_; rintro e w1 ⟨⟨u1, rfl⟩, v1, hP1, hi1, hq1⟩; have hk1 : PK pb base w0 w1 := (PK.of hl1 hBW).trans hq1; clear hq1))
  clear hl0 hl1
  have HJ1 : Hid ((partG (decide (levK y0 < (levelN t.data.toList : Nat))) y0.kind g0 s).ind = s.ind) := hi1.trans (Eq.refl s.ind)
  have hK1 : PK pb base w w1 := HD0.out.2.1.trans hk1
  have nd1 := hk1.high (w.heap.size + 1) _ _ _ (by omega) HD0.out.2.2.1 (by decide)
  have pd1 := hk1.high w.heap.size _ _ _ (by omega) HD0.out.2.2.2 (by decide)
  have HI1 : Hid _ := In.pk HI0.out hk1 hpb
  have HL1 : Hid (MT.InL pb w1 b o [y0, y1]) := MT.InL.below (hk1.below (by omega) (Nat.le_refl _)) b o hbp _ HL0.out
  have hz1 := lt_of nd1
  have HD1 : Hid (_ ∧ _ ∧ _ ∧ _) := ⟨hP1, hK1, nd1, pd1⟩
  clear k0 k1 k2 k3 k4 kp c00 c01 c02 c03 c04 hBW HK
  obtain ⟨k0, k1, k2, k3, k4⟩ := cells5 nd1
  have kp := cells1 pd1
  have hbz1 : b < w1.heap.size := by omega
  clear hP1 hK1 nd1 hk1 HD0 HI0 pd1 HL0
  go_wp2_with fail
  refine (putc [⟨#[32]⟩, t, ⟨#[32]⟩] HD1.out.1 hpb (Nat.le_trans hB HD1.out.2.1.size) (al_cons (by decide) (al_cons ht (al_cons (by decide) al_nil))) (by simp) (by first | rfl | simp)).mono ?_
  rintro e w2 ⟨⟨u2, rfl⟩, v2, hP2, hk2⟩
  have HJ2 : Hid ((putS [⟨#[32]⟩, t, ⟨#[32]⟩] (partG (decide (levK y0 < (levelN t.data.toList : Nat))) y0.kind g0 s)).ind = s.ind) := (putS_ind _ _).trans HJ1.out
  have hK2 : PK pb base w w2 := HD1.out.2.1.trans hk2
  have nd2 := hk2.high (w.heap.size + 1) _ _ _ (by omega) HD1.out.2.2.1 (by decide)
  have pd2 := hk2.high w.heap.size _ _ _ (by omega) HD1.out.2.2.2 (by decide)
  have HI2 : Hid _ := In.pk HI1.out hk2 hpb
  have HL2 : Hid (MT.InL pb w2 b o [y0, y1]) := MT.InL.below (hk2.below (by omega) (Nat.le_refl _)) b o hbp _ HL1.out
  have hz2 := lt_of nd2
  have HD2 : Hid (_ ∧ _ ∧ _ ∧ _) := ⟨hP2, hK2, nd2, pd2⟩
  clear k0 k1 k2 k3 k4 kp
  obtain ⟨k0, k1, k2, k3, k4⟩ := cells5 nd2
  have kp := cells1 pd2
  have hbz2 : b < w2.heap.size := by omega
  clear hP2 hK2 nd2 hk2 HD1 HI1 HJ1 pd2 HL1
  go_wp2_with fail
  clear k0 k1 k2 k3 k4 kp
  have HK : Hid (∀ W, PK pb base w2 W → (W.cell? ⟨w.heap.size + 1, 0, none⟩ = some (.int .i64 51) ∧ W.cell? ⟨w.heap.size + 1, 1, none⟩ = some (.string t) ∧ W.cell? ⟨w.heap.size + 1, 2, none⟩ = some (.int .i64 n) ∧ W.cell? ⟨w.heap.size + 1, 3, none⟩ = some (.int .i64 a) ∧ W.cell? ⟨w.heap.size + 1, 4, none⟩ = some (.slice (some ⟨b, o, none⟩) 2 c) ∧ W.cell? ⟨w.heap.size, 0, none⟩ = some (.pointer (some ⟨pb, 0, none⟩)) ∧ W.cell? ⟨b, o + 5, none⟩ = some (.int .i64 y1.kind) ∧ W.cell? ⟨b, o + 5 + 1, none⟩ = some (.string y1.text) ∧ W.cell? ⟨b, o + 5 + 2, none⟩ = some (.int .i64 y1.num) ∧ W.cell? ⟨b, o + 5 + 3, none⟩ = some (.int .i64 y1.at_) ∧ W.cell? ⟨b, o + 5 + 4, none⟩ = some (.slice y1.ptr y1.kids.length y1.cap))) := fun W hW => by
    have nd := hW.high (w.heap.size + 1) _ _ _ (by omega) HD2.out.2.2.1 (by decide)
    have pd := hW.high w.heap.size _ _ _ (by omega) HD2.out.2.2.2 (by decide)
    have hLW := MT.InL.below (hW.below (by omega) (Nat.le_refl _)) b o hbp _ HL2.out
    obtain ⟨c10, c11, c12, c13, c14⟩ : MT.CellsAt W b (o + 5) y1 := (hLW.get 1 (by simp)).1
    obtain ⟨k0, k1, k2, k3, k4⟩ := cells5 nd
    exact ⟨k0, k1, k2, k3, k4, cells1 pd, c10, c11, c12, c13, c14⟩
  have hBW : base ≤ w2.heap.size := by omega
  obtain ⟨k0, k1, k2, k3, k4, kp, c10, c11, c12, c13, c14⟩ := HK.out w2 (PK.refl _ _ _)
  go_region_held3 (fun W => W.cell? ⟨w.heap.size + 1, 0, none⟩ = some (.int .i64 51) ∧ W.cell? ⟨w.heap.size + 1, 1, none⟩ = some (.string t) ∧ W.cell? ⟨w.heap.size + 1, 2, none⟩ = some (.int .i64 n) ∧ W.cell? ⟨w.heap.size + 1, 3, none⟩ = some (.int .i64 a) ∧ W.cell? ⟨w.heap.size + 1, 4, none⟩ = some (.slice (some ⟨b, o, none⟩) 2 c) ∧ W.cell? ⟨w.heap.size, 0, none⟩ = some (.pointer (some ⟨pb, 0, none⟩)) ∧ W.cell? ⟨b, o + 5, none⟩ = some (.int .i64 y1.kind) ∧ W.cell? ⟨b, o + 5 + 1, none⟩ = some (.string y1.text) ∧ W.cell? ⟨b, o + 5 + 2, none⟩ = some (.int .i64 y1.num) ∧ W.cell? ⟨b, o + 5 + 3, none⟩ = some (.int .i64 y1.at_) ∧ W.cell? ⟨b, o + 5 + 4, none⟩ = some (.slice y1.ptr y1.kids.length y1.cap))
    (first | exact HK.out _ hk3 | exact HK.out _ (PK.of hl0 hBW) | exact HK.out _ (PK.of hl1 hBW) | exact HK.out _ (PK.drw _ _ _))
    (first | (go_at_call_of 147 (MT.kind y1); refine (HLY.out _).mono ?_; rintro e wl0 ⟨rfl, hm0⟩; have hl0 : Below w2.heap.size w2 wl0 := ((Below.refl _ _).drew.trans (hm0.mono (by simp))); clear hm0) | (go_at_call 147; refine (HLT.out _).mono ?_; rintro e wl1 ⟨rfl, hm1⟩; have hl1 : Below w2.heap.size w2 wl1 := (hl0.trans (hm1.mono hl0.size)); clear hm1) | (go_at_call 101; refine (HPY.out _ _ _ (Nat.le_trans (Nat.le_of_eq HJ2.out) hi) (HD2.out.1.below hl1) (Nat.le_trans hBW hl1.size) (In.pk (HL2.out.get 1 (by simp)).2 (PK.of (pb := pb) (base := base) hl1 hBW) hpb)).mono ?_; rintro e w3 ⟨⟨u3, rfl⟩, v3, hP3, hi3, hq3⟩; have hk3 : PK pb base w2 w3 := (PK.of hl1 hBW).trans hq3; clear hq3))
  clear hl0 hl1
  have HJ3 : Hid ((partG (decide (levK y1 ≤ (levelN t.data.toList : Nat))) y1.kind g1 (putS [⟨#[32]⟩, t, ⟨#[32]⟩] (partG (decide (levK y0 < (levelN t.data.toList : Nat))) y0.kind g0 s))).ind = s.ind) := hi3.trans HJ2.out
  have HE : Hid (_ ∧ PK pb base w w3) := ⟨hP3, HD2.out.2.1.trans hk3⟩
  clear hP3 hk3 k0 k1 k2 k3 k4 kp c10 c11 c12 c13 c14 hBW HK
  go_wp2_with fail
  go_end0
  exact ⟨⟨_, rfl⟩, v3, HE.out.1, HJ3.out, HE.out.2⟩
end Go.Proofs.YthbnegggohegkaaGreatDoor
namespace Go.Proofs.YthbnegggohegkaaGreatDoor
open Go.RowKit
variable {pb base L : Nat} {s : PS} {v : Value} {w w' : World}
set_option maxRecDepth 100000 in
set_option maxHeartbeats 4000000 in
theorem plain_45  {t : ByteArray} {n : Int} {a : Int} {p : Option Addr} {c : Nat} {ks : List MT}  {g : PS → PS} (h : Wf 148 pb base L (.node 45 t n a p c ks) g) (hpb : pb < base) : Wf 132 pb base L (.node 45 t n a p c ks) (fun s => (g s)) := by
  intro s v w hi hP hB hin
  have Hh : Hid _ := h
  clear h
  have hb0 : Below w.heap.size w ((w.alloc (.cells #[.pointer (some ⟨pb, 0, none⟩)] 114)).alloc (.cells #[.int .i64 45, .string t, .int .i64 n, .int .i64 a, .slice p ks.length c] 24)) := below2 _ _ _
  have hP0 := hP.below hb0
  have hK0 : PK pb base w _ := PK.of (pb := pb) hb0 hB
  have HI0 : Hid _ := In.pk hin hK0 hpb
  have pd0 := (hb0_ w (.cells #[.pointer (some ⟨pb, 0, none⟩)] 114) (.cells #[.int .i64 45, .string t, .int .i64 n, .int .i64 a, .slice p ks.length c] 24))
  have nd0 := (nb0_ w (.cells #[.pointer (some ⟨pb, 0, none⟩)] 114) (.cells #[.int .i64 45, .string t, .int .i64 n, .int .i64 a, .slice p ks.length c] 24))
  have hz0 := lt_of nd0
  have HD0 : Hid (_ ∧ _ ∧ _ ∧ _) := ⟨hP0, hK0, nd0, pd0⟩
  clear hP hin hb0 hP0 hK0 nd0 pd0
  rw [nvk]
  go_enter Tryz.func132, Tryz.ntmps132
  go_wp2_with fail
  refine (Hh.out _ _ _ (Nat.le_trans (Nat.le_of_eq (Eq.refl s.ind)) hi) HD0.out.1 (Nat.le_trans hB HD0.out.2.1.size) HI0.out).mono ?_
  rintro e w1 ⟨⟨u1, rfl⟩, v1, hP1, hi1, hk1⟩
  have HJ1 : Hid ((g s).ind = s.ind) := hi1.trans (Eq.refl s.ind)
  clear hi1
  have HE : Hid (_ ∧ PK pb base w w1) := ⟨hP1, HD0.out.2.1.trans hk1⟩
  clear hP1 hk1 
  go_wp2_with fail
  go_end0
  exact ⟨⟨_, rfl⟩, v1, HE.out.1, HJ1.out, HE.out.2⟩
set_option maxRecDepth 100000 in
set_option maxHeartbeats 4000000 in
theorem plain_46  {t : ByteArray} {n : Int} {a : Int} {p : Option Addr} {c : Nat} {ks : List MT}  {g : PS → PS} (h : Wf 148 pb base L (.node 46 t n a p c ks) g) (hpb : pb < base) : Wf 132 pb base L (.node 46 t n a p c ks) (fun s => (g s)) := by
  intro s v w hi hP hB hin
  have Hh : Hid _ := h
  clear h
  have hb0 : Below w.heap.size w ((w.alloc (.cells #[.pointer (some ⟨pb, 0, none⟩)] 114)).alloc (.cells #[.int .i64 46, .string t, .int .i64 n, .int .i64 a, .slice p ks.length c] 24)) := below2 _ _ _
  have hP0 := hP.below hb0
  have hK0 : PK pb base w _ := PK.of (pb := pb) hb0 hB
  have HI0 : Hid _ := In.pk hin hK0 hpb
  have pd0 := (hb0_ w (.cells #[.pointer (some ⟨pb, 0, none⟩)] 114) (.cells #[.int .i64 46, .string t, .int .i64 n, .int .i64 a, .slice p ks.length c] 24))
  have nd0 := (nb0_ w (.cells #[.pointer (some ⟨pb, 0, none⟩)] 114) (.cells #[.int .i64 46, .string t, .int .i64 n, .int .i64 a, .slice p ks.length c] 24))
  have hz0 := lt_of nd0
  have HD0 : Hid (_ ∧ _ ∧ _ ∧ _) := ⟨hP0, hK0, nd0, pd0⟩
  clear hP hin hb0 hP0 hK0 nd0 pd0
  rw [nvk]
  go_enter Tryz.func132, Tryz.ntmps132
  go_wp2_with fail
  refine (Hh.out _ _ _ (Nat.le_trans (Nat.le_of_eq (Eq.refl s.ind)) hi) HD0.out.1 (Nat.le_trans hB HD0.out.2.1.size) HI0.out).mono ?_
  rintro e w1 ⟨⟨u1, rfl⟩, v1, hP1, hi1, hk1⟩
  have HJ1 : Hid ((g s).ind = s.ind) := hi1.trans (Eq.refl s.ind)
  clear hi1
  have HE : Hid (_ ∧ PK pb base w w1) := ⟨hP1, HD0.out.2.1.trans hk1⟩
  clear hP1 hk1 
  go_wp2_with fail
  go_end0
  exact ⟨⟨_, rfl⟩, v1, HE.out.1, HJ1.out, HE.out.2⟩
set_option maxRecDepth 100000 in
set_option maxHeartbeats 4000000 in
theorem plain_47  {t : ByteArray} {n : Int} {a : Int} {p : Option Addr} {c : Nat} {ks : List MT}  {g : PS → PS} (h : Wf 148 pb base L (.node 47 t n a p c ks) g) (hpb : pb < base) : Wf 132 pb base L (.node 47 t n a p c ks) (fun s => (g s)) := by
  intro s v w hi hP hB hin
  have Hh : Hid _ := h
  clear h
  have hb0 : Below w.heap.size w ((w.alloc (.cells #[.pointer (some ⟨pb, 0, none⟩)] 114)).alloc (.cells #[.int .i64 47, .string t, .int .i64 n, .int .i64 a, .slice p ks.length c] 24)) := below2 _ _ _
  have hP0 := hP.below hb0
  have hK0 : PK pb base w _ := PK.of (pb := pb) hb0 hB
  have HI0 : Hid _ := In.pk hin hK0 hpb
  have pd0 := (hb0_ w (.cells #[.pointer (some ⟨pb, 0, none⟩)] 114) (.cells #[.int .i64 47, .string t, .int .i64 n, .int .i64 a, .slice p ks.length c] 24))
  have nd0 := (nb0_ w (.cells #[.pointer (some ⟨pb, 0, none⟩)] 114) (.cells #[.int .i64 47, .string t, .int .i64 n, .int .i64 a, .slice p ks.length c] 24))
  have hz0 := lt_of nd0
  have HD0 : Hid (_ ∧ _ ∧ _ ∧ _) := ⟨hP0, hK0, nd0, pd0⟩
  clear hP hin hb0 hP0 hK0 nd0 pd0
  rw [nvk]
  go_enter Tryz.func132, Tryz.ntmps132
  go_wp2_with fail
  refine (Hh.out _ _ _ (Nat.le_trans (Nat.le_of_eq (Eq.refl s.ind)) hi) HD0.out.1 (Nat.le_trans hB HD0.out.2.1.size) HI0.out).mono ?_
  rintro e w1 ⟨⟨u1, rfl⟩, v1, hP1, hi1, hk1⟩
  have HJ1 : Hid ((g s).ind = s.ind) := hi1.trans (Eq.refl s.ind)
  clear hi1
  have HE : Hid (_ ∧ PK pb base w w1) := ⟨hP1, HD0.out.2.1.trans hk1⟩
  clear hP1 hk1 
  go_wp2_with fail
  go_end0
  exact ⟨⟨_, rfl⟩, v1, HE.out.1, HJ1.out, HE.out.2⟩
set_option maxRecDepth 100000 in
set_option maxHeartbeats 4000000 in
theorem plain_48  {t : ByteArray} {n : Int} {a : Int} {p : Option Addr} {c : Nat} {ks : List MT}  {g : PS → PS} (h : Wf 148 pb base L (.node 48 t n a p c ks) g) (hpb : pb < base) : Wf 132 pb base L (.node 48 t n a p c ks) (fun s => (g s)) := by
  intro s v w hi hP hB hin
  have Hh : Hid _ := h
  clear h
  have hb0 : Below w.heap.size w ((w.alloc (.cells #[.pointer (some ⟨pb, 0, none⟩)] 114)).alloc (.cells #[.int .i64 48, .string t, .int .i64 n, .int .i64 a, .slice p ks.length c] 24)) := below2 _ _ _
  have hP0 := hP.below hb0
  have hK0 : PK pb base w _ := PK.of (pb := pb) hb0 hB
  have HI0 : Hid _ := In.pk hin hK0 hpb
  have pd0 := (hb0_ w (.cells #[.pointer (some ⟨pb, 0, none⟩)] 114) (.cells #[.int .i64 48, .string t, .int .i64 n, .int .i64 a, .slice p ks.length c] 24))
  have nd0 := (nb0_ w (.cells #[.pointer (some ⟨pb, 0, none⟩)] 114) (.cells #[.int .i64 48, .string t, .int .i64 n, .int .i64 a, .slice p ks.length c] 24))
  have hz0 := lt_of nd0
  have HD0 : Hid (_ ∧ _ ∧ _ ∧ _) := ⟨hP0, hK0, nd0, pd0⟩
  clear hP hin hb0 hP0 hK0 nd0 pd0
  rw [nvk]
  go_enter Tryz.func132, Tryz.ntmps132
  go_wp2_with fail
  refine (Hh.out _ _ _ (Nat.le_trans (Nat.le_of_eq (Eq.refl s.ind)) hi) HD0.out.1 (Nat.le_trans hB HD0.out.2.1.size) HI0.out).mono ?_
  rintro e w1 ⟨⟨u1, rfl⟩, v1, hP1, hi1, hk1⟩
  have HJ1 : Hid ((g s).ind = s.ind) := hi1.trans (Eq.refl s.ind)
  clear hi1
  have HE : Hid (_ ∧ PK pb base w w1) := ⟨hP1, HD0.out.2.1.trans hk1⟩
  clear hP1 hk1 
  go_wp2_with fail
  go_end0
  exact ⟨⟨_, rfl⟩, v1, HE.out.1, HJ1.out, HE.out.2⟩
set_option maxRecDepth 100000 in
set_option maxHeartbeats 4000000 in
theorem plain_49  {t : ByteArray} {n : Int} {a : Int} {p : Option Addr} {c : Nat} {ks : List MT}  {g : PS → PS} (h : Wf 148 pb base L (.node 49 t n a p c ks) g) (hpb : pb < base) : Wf 132 pb base L (.node 49 t n a p c ks) (fun s => (g s)) := by
  intro s v w hi hP hB hin
  have Hh : Hid _ := h
  clear h
  have hb0 : Below w.heap.size w ((w.alloc (.cells #[.pointer (some ⟨pb, 0, none⟩)] 114)).alloc (.cells #[.int .i64 49, .string t, .int .i64 n, .int .i64 a, .slice p ks.length c] 24)) := below2 _ _ _
  have hP0 := hP.below hb0
  have hK0 : PK pb base w _ := PK.of (pb := pb) hb0 hB
  have HI0 : Hid _ := In.pk hin hK0 hpb
  have pd0 := (hb0_ w (.cells #[.pointer (some ⟨pb, 0, none⟩)] 114) (.cells #[.int .i64 49, .string t, .int .i64 n, .int .i64 a, .slice p ks.length c] 24))
  have nd0 := (nb0_ w (.cells #[.pointer (some ⟨pb, 0, none⟩)] 114) (.cells #[.int .i64 49, .string t, .int .i64 n, .int .i64 a, .slice p ks.length c] 24))
  have hz0 := lt_of nd0
  have HD0 : Hid (_ ∧ _ ∧ _ ∧ _) := ⟨hP0, hK0, nd0, pd0⟩
  clear hP hin hb0 hP0 hK0 nd0 pd0
  rw [nvk]
  go_enter Tryz.func132, Tryz.ntmps132
  go_wp2_with fail
  refine (Hh.out _ _ _ (Nat.le_trans (Nat.le_of_eq (Eq.refl s.ind)) hi) HD0.out.1 (Nat.le_trans hB HD0.out.2.1.size) HI0.out).mono ?_
  rintro e w1 ⟨⟨u1, rfl⟩, v1, hP1, hi1, hk1⟩
  have HJ1 : Hid ((g s).ind = s.ind) := hi1.trans (Eq.refl s.ind)
  clear hi1
  have HE : Hid (_ ∧ PK pb base w w1) := ⟨hP1, HD0.out.2.1.trans hk1⟩
  clear hP1 hk1 
  go_wp2_with fail
  go_end0
  exact ⟨⟨_, rfl⟩, v1, HE.out.1, HJ1.out, HE.out.2⟩
end Go.Proofs.YthbnegggohegkaaGreatDoor
namespace Go.Proofs.YthbnegggohegkaaGreatDoor
open Go.RowKit
variable {pb base L : Nat} {s : PS} {v : Value} {w w' : World}
set_option maxRecDepth 100000 in
theorem itoa_0 (w : World) : Calls Tryz.prog 100 #[.int .i64 0] w fun r w' => r = .returned (.string ⟨#[48]⟩) ∧ w' = w := by
  go_enter Tryz.func100, Tryz.ntmps100
  go_wp2
  go_ret
  exact ⟨rfl, rfl⟩
set_option maxRecDepth 100000 in
theorem itoa_1 (w : World) : Calls Tryz.prog 100 #[.int .i64 1] w fun r w' => r = .returned (.string ⟨#[49]⟩) ∧ w' = w := by
  go_enter Tryz.func100, Tryz.ntmps100
  go_wp2
  go_ret
  exact ⟨rfl, rfl⟩
set_option maxRecDepth 100000 in
theorem itoa_2 (w : World) : Calls Tryz.prog 100 #[.int .i64 2] w fun r w' => r = .returned (.string ⟨#[50]⟩) ∧ w' = w := by
  go_enter Tryz.func100, Tryz.ntmps100
  go_wp2
  go_ret
  exact ⟨rfl, rfl⟩
set_option maxRecDepth 100000 in
theorem itoa_3 (w : World) : Calls Tryz.prog 100 #[.int .i64 3] w fun r w' => r = .returned (.string ⟨#[51]⟩) ∧ w' = w := by
  go_enter Tryz.func100, Tryz.ntmps100
  go_wp2
  go_ret
  exact ⟨rfl, rfl⟩
set_option maxRecDepth 100000 in
theorem itoa_4 (w : World) : Calls Tryz.prog 100 #[.int .i64 4] w fun r w' => r = .returned (.string ⟨#[52]⟩) ∧ w' = w := by
  go_enter Tryz.func100, Tryz.ntmps100
  go_wp2
  go_ret
  exact ⟨rfl, rfl⟩
set_option maxRecDepth 100000 in
theorem itoa_5 (w : World) : Calls Tryz.prog 100 #[.int .i64 5] w fun r w' => r = .returned (.string ⟨#[53]⟩) ∧ w' = w := by
  go_enter Tryz.func100, Tryz.ntmps100
  go_wp2
  go_ret
  exact ⟨rfl, rfl⟩
set_option maxRecDepth 100000 in
theorem itoa_6 (w : World) : Calls Tryz.prog 100 #[.int .i64 6] w fun r w' => r = .returned (.string ⟨#[54]⟩) ∧ w' = w := by
  go_enter Tryz.func100, Tryz.ntmps100
  go_wp2
  go_ret
  exact ⟨rfl, rfl⟩
set_option maxRecDepth 100000 in
theorem itoa_7 (w : World) : Calls Tryz.prog 100 #[.int .i64 7] w fun r w' => r = .returned (.string ⟨#[55]⟩) ∧ w' = w := by
  go_enter Tryz.func100, Tryz.ntmps100
  go_wp2
  go_ret
  exact ⟨rfl, rfl⟩
set_option maxRecDepth 100000 in
theorem itoa_8 (w : World) : Calls Tryz.prog 100 #[.int .i64 8] w fun r w' => r = .returned (.string ⟨#[56]⟩) ∧ w' = w := by
  go_enter Tryz.func100, Tryz.ntmps100
  go_wp2
  go_ret
  exact ⟨rfl, rfl⟩
set_option maxRecDepth 100000 in
theorem itoa_9 (w : World) : Calls Tryz.prog 100 #[.int .i64 9] w fun r w' => r = .returned (.string ⟨#[57]⟩) ∧ w' = w := by
  go_enter Tryz.func100, Tryz.ntmps100
  go_wp2
  go_ret
  exact ⟨rfl, rfl⟩
set_option maxRecDepth 100000 in
theorem itoa_10 (w : World) : Calls Tryz.prog 100 #[.int .i64 10] w fun r w' => r = .returned (.string ⟨#[49, 48]⟩) ∧ w' = w := by
  go_enter Tryz.func100, Tryz.ntmps100
  go_wp2
  go_ret
  exact ⟨rfl, rfl⟩
set_option maxRecDepth 100000 in
theorem itoa_11 (w : World) : Calls Tryz.prog 100 #[.int .i64 11] w fun r w' => r = .returned (.string ⟨#[49, 49]⟩) ∧ w' = w := by
  go_enter Tryz.func100, Tryz.ntmps100
  go_wp2
  go_ret
  exact ⟨rfl, rfl⟩
set_option maxRecDepth 100000 in
theorem itoa_12 (w : World) : Calls Tryz.prog 100 #[.int .i64 12] w fun r w' => r = .returned (.string ⟨#[49, 50]⟩) ∧ w' = w := by
  go_enter Tryz.func100, Tryz.ntmps100
  go_wp2
  go_ret
  exact ⟨rfl, rfl⟩
/-- A small number's digits. -/
def itoaS (n : Int) : ByteArray := if n = 0 then ⟨#[48]⟩ else if n < 10 then ⟨#[UInt8.ofNat (48 + n.toNat)]⟩ else ⟨#[49, UInt8.ofNat (38 + n.toNat)]⟩
theorem itoa_small (n : Int) (h0 : 0 ≤ n) (h1 : n ≤ 12) : (itoaS n).size ≤ 4000000000 ∧ ∀ w, Calls Tryz.prog 100 #[.int .i64 n] w fun r w' => r = .returned (.string (itoaS n)) ∧ Below w.heap.size w w' := by
  have h : n = 0 ∨ n = 1 ∨ n = 2 ∨ n = 3 ∨ n = 4 ∨ n = 5 ∨ n = 6 ∨ n = 7 ∨ n = 8 ∨ n = 9 ∨ n = 10 ∨ n = 11 ∨ n = 12 := by omega
  rcases h with rfl | rfl | rfl | rfl | rfl | rfl | rfl | rfl | rfl | rfl | rfl | rfl | rfl
  · exact ⟨by decide, fun w => (itoa_0 w).mono fun _ _ ⟨e1, e2⟩ => ⟨e1, by rw [e2]; exact Below.refl _ _⟩⟩
  · exact ⟨by decide, fun w => (itoa_1 w).mono fun _ _ ⟨e1, e2⟩ => ⟨e1, by rw [e2]; exact Below.refl _ _⟩⟩
  · exact ⟨by decide, fun w => (itoa_2 w).mono fun _ _ ⟨e1, e2⟩ => ⟨e1, by rw [e2]; exact Below.refl _ _⟩⟩
  · exact ⟨by decide, fun w => (itoa_3 w).mono fun _ _ ⟨e1, e2⟩ => ⟨e1, by rw [e2]; exact Below.refl _ _⟩⟩
  · exact ⟨by decide, fun w => (itoa_4 w).mono fun _ _ ⟨e1, e2⟩ => ⟨e1, by rw [e2]; exact Below.refl _ _⟩⟩
  · exact ⟨by decide, fun w => (itoa_5 w).mono fun _ _ ⟨e1, e2⟩ => ⟨e1, by rw [e2]; exact Below.refl _ _⟩⟩
  · exact ⟨by decide, fun w => (itoa_6 w).mono fun _ _ ⟨e1, e2⟩ => ⟨e1, by rw [e2]; exact Below.refl _ _⟩⟩
  · exact ⟨by decide, fun w => (itoa_7 w).mono fun _ _ ⟨e1, e2⟩ => ⟨e1, by rw [e2]; exact Below.refl _ _⟩⟩
  · exact ⟨by decide, fun w => (itoa_8 w).mono fun _ _ ⟨e1, e2⟩ => ⟨e1, by rw [e2]; exact Below.refl _ _⟩⟩
  · exact ⟨by decide, fun w => (itoa_9 w).mono fun _ _ ⟨e1, e2⟩ => ⟨e1, by rw [e2]; exact Below.refl _ _⟩⟩
  · exact ⟨by decide, fun w => (itoa_10 w).mono fun _ _ ⟨e1, e2⟩ => ⟨e1, by rw [e2]; exact Below.refl _ _⟩⟩
  · exact ⟨by decide, fun w => (itoa_11 w).mono fun _ _ ⟨e1, e2⟩ => ⟨e1, by rw [e2]; exact Below.refl _ _⟩⟩
  · exact ⟨by decide, fun w => (itoa_12 w).mono fun _ _ ⟨e1, e2⟩ => ⟨e1, by rw [e2]; exact Below.refl _ _⟩⟩
set_option maxRecDepth 100000 in
set_option maxHeartbeats 4000000 in
theorem protocolPart_11  {t : ByteArray} {n : Int} {a : Int} {p : Option Addr} {c : Nat}  (ht : t.size ≤ 4000000000) (hs : (itoaS n).size ≤ 4000000000) (hn : ∀ w, Calls Tryz.prog 100 #[.int .i64 n] w fun r w' => r = .returned (.string (itoaS n)) ∧ Below w.heap.size w w') (hpb : pb < base) : Wf 68 pb base L (.node 11 t n a p c []) (fun s => (putS [⟨#[40]⟩, itoaS n, ⟨#[41]⟩] (putS [t] s))) := by
  intro s v w hi hP hB hin
  have Hhn : Hid _ := hn
  clear hn
  have hb0 : Below w.heap.size w (w.alloc (.cells #[.int .i64 11, .string t, .int .i64 n, .int .i64 a, .slice p 0 c] 24)) := below1 _ _
  have hP0 := hP.below hb0
  have hK0 : PK pb base w _ := PK.of (pb := pb) hb0 hB
  have HI0 : Hid _ := In.pk hin hK0 hpb
  have nd0 := heap_alloc_new w (.cells #[.int .i64 11, .string t, .int .i64 n, .int .i64 a, .slice p 0 c] 24)
  have hz0 := lt_of nd0
  have HD0 : Hid (_ ∧ _ ∧ _) := ⟨hP0, hK0, nd0⟩
  clear hP hin hb0 hP0 hK0 nd0
  rw [nv0]
  go_enter Tryz.func68, Tryz.ntmps68
  go_wp2_with fail
  refine (putc [t] HD0.out.1 hpb (Nat.le_trans hB HD0.out.2.1.size) (al_cons ht al_nil) (by simp) (by first | rfl | simp)).mono ?_
  rintro e w1 ⟨⟨u1, rfl⟩, v1, hP1, hk1⟩
  have HJ1 : Hid ((putS [t] s).ind = s.ind) := (putS_ind _ _).trans (Eq.refl s.ind)
  have hK1 : PK pb base w w1 := HD0.out.2.1.trans hk1
  have nd1 := hk1.high (w.heap.size) _ _ _ (by omega) HD0.out.2.2 (by decide)
  have HI1 : Hid _ := In.pk HI0.out hk1 hpb
  have hz1 := lt_of nd1
  have HD1 : Hid (_ ∧ _ ∧ _) := ⟨hP1, hK1, nd1⟩
  obtain ⟨k0, k1, k2, k3, k4⟩ := cells5 nd1
  clear hP1 hK1 nd1 hk1 HD0 HI0
  go_wp2_with fail
  refine (Hhn.out _).mono ?_
  rintro e w2 ⟨rfl, hm⟩
  have hP2 := HD1.out.1.below hm
  have hk2 : PK pb base _ w2 := PK.of (pb := pb) hm (by first | omega | (simp only [World.size_alloc, World.size_setCell]; omega))
  clear hm
  have HJ2 : Hid ((putS [t] s).ind = s.ind) := HJ1.out
  have hK2 : PK pb base w w2 := HD1.out.2.1.trans hk2
  have nd2 := hk2.high (w.heap.size) _ _ _ (by omega) HD1.out.2.2 (by decide)
  have HI2 : Hid _ := In.pk HI1.out hk2 hpb
  have hz2 := lt_of nd2
  have HD2 : Hid (_ ∧ _ ∧ _) := ⟨hP2, hK2, nd2⟩
  clear k0 k1 k2 k3 k4
  obtain ⟨k0, k1, k2, k3, k4⟩ := cells5 nd2
  clear hP2 hK2 nd2 hk2 HD1 HI1 HJ1
  go_wp2_with fail
  refine (putc [⟨#[40]⟩, itoaS n, ⟨#[41]⟩] HD2.out.1 hpb (Nat.le_trans hB HD2.out.2.1.size) (al_cons (by decide) (al_cons hs (al_cons (by decide) al_nil))) (by simp) (by first | rfl | simp)).mono ?_
  rintro e w3 ⟨⟨u3, rfl⟩, v3, hP3, hk3⟩
  have HJ3 : Hid ((putS [⟨#[40]⟩, itoaS n, ⟨#[41]⟩] (putS [t] s)).ind = s.ind) := (putS_ind _ _).trans HJ2.out
  have HE : Hid (_ ∧ PK pb base w w3) := ⟨hP3, HD2.out.2.1.trans hk3⟩
  clear hP3 hk3 k0 k1 k2 k3 k4
  go_wp2_with fail
  go_end0
  exact ⟨⟨_, rfl⟩, v3, HE.out.1, HJ3.out, HE.out.2⟩
end Go.Proofs.YthbnegggohegkaaGreatDoor
namespace Go.Proofs.YthbnegggohegkaaGreatDoor
open Go.RowKit
variable {pb base L : Nat} {s : PS} {v : Value} {w w' : World}
set_option maxRecDepth 100000 in
set_option maxHeartbeats 4000000 in
theorem own_1  {t : ByteArray} {n : Int} {a : Int} {p : Option Addr} {c : Nat} {ks : List MT}  {gs : Nat → PS → PS} (hL1 : L ≤ 1000) (hlen : ks.length ≤ 1099511627776) (h : ∀ (i : Nat) (hi : i < ks.length), Wf 65 pb base L ks[i] (gs i)) (hpb : pb < base) : Wf 41 pb base L (.node 1 t n a p c ks) (fun s => linesG gs ks.length s) := by
  intro s v w hi hP hB hin
  have Hh : Hid _ := h
  clear h
  have hb0 : Below w.heap.size w ((w.alloc (.cells #[.pointer (some ⟨pb, 0, none⟩)] 114)).alloc (.cells #[.int .i64 1, .string t, .int .i64 n, .int .i64 a, .slice p ks.length c] 24)) := below2 _ _ _
  have hP0 := hP.below hb0
  have hK0 : PK pb base w _ := PK.of (pb := pb) hb0 hB
  have HI0 : Hid _ := In.pk hin hK0 hpb
  have pd0 := (hb0_ w (.cells #[.pointer (some ⟨pb, 0, none⟩)] 114) (.cells #[.int .i64 1, .string t, .int .i64 n, .int .i64 a, .slice p ks.length c] 24))
  have nd0 := (nb0_ w (.cells #[.pointer (some ⟨pb, 0, none⟩)] 114) (.cells #[.int .i64 1, .string t, .int .i64 n, .int .i64 a, .slice p ks.length c] 24))
  have hz0 := lt_of nd0
  have HD0 : Hid (_ ∧ _ ∧ _ ∧ _) := ⟨hP0, hK0, nd0, pd0⟩
  clear hP hin hb0 hP0 hK0 nd0 pd0
  rw [nvk]
  go_enter Tryz.func41, Tryz.ntmps41
  go_wp2_with fail
  obtain ⟨w0, hw0⟩ : ∃ W, W = ((w.alloc (.cells #[.pointer (some ⟨pb, 0, none⟩)] 114)).alloc (.cells #[.int .i64 1, .string t, .int .i64 n, .int .i64 a, .slice p ks.length c] 24)) := ⟨_, rfl⟩
  rw [← hw0] at HD0 HI0 hz0 ⊢
  clear hw0
  have HC : Hid (Kd pb p ks w0) := Kd.of HI0.out
  go_loopg [16] ks.length (fun gk i wr => ∃ (j : Nat) (v : Value), gk + j = ks.length ∧ i = .int .i64 j ∧ Pr2 pb base (linesG gs j s) v wr ∧ (linesG gs j s).ind = s.ind ∧ wr.heap[w.heap.size]? = some (.cells #[.pointer (some ⟨pb, 0, none⟩)] 114 (0, 0)) ∧ PK pb base w wr ∧ PK pb base w0 wr)
  case atStart => exact ⟨0, v, rfl, rfl, HD0.out.1, rfl, HD0.out.2.2.2, HD0.out.2.1, PK.refl _ _ _⟩
  case round =>
    obtain ⟨j, v, hj, rfl, hP', hi', hR, hK, hKW⟩ := hrel
    have hz := hK.size
    by_cases hlt : j < ks.length
    · have HG : Hid (gk + j = ks.length) := hj
      have HP : Hid (Pr2 pb base (linesG gs j s) v wr ∧ (linesG gs j s).ind = s.ind) := ⟨hP', hi'⟩
      have HJ : Hid (Wf 65 pb base L ks[j] (gs j)) := Hh.out j hlt
      have HKK : Hid (PK pb base w wr ∧ PK pb base w0 wr) := ⟨hK, hKW⟩
      rcases HC.out.pk hpb hKW with hk | ⟨b', o', hp, hbp', hLL'⟩
      · rw [hk] at hlt; exact absurd hlt (by simp)
      · subst hp
        have i1 : (j : Int) < ks.length := by omega
        have hbz' : b' < wr.heap.size := by omega
        obtain ⟨⟨c0, c1, c2, c3, c4⟩, hin⟩ := hLL'.get j hlt
        have HIN : Hid (ks[j].In pb wr) := hin
        obtain ⟨y, hy⟩ : ∃ y, y = ks[j] := ⟨_, rfl⟩
        rw [← hy] at c0 c1 c2 c3 c4 HJ HIN
        have HB1 : Hid (PK pb base wr (wr.alloc (nodeO y))) := PK.of (below1 _ _) (by omega)
        have HP1 : Hid (Pr2 pb base (linesG gs j s) v (wr.alloc (nodeO y))) := HP.out.1.below (below1 _ _)
        have hRz : w.heap.size < wr.heap.size := (Array.getElem?_eq_some_iff.1 hR).1
        have HD9 : Hid (Bx pb w.heap.size wr.heap.size y (wr.alloc (nodeO y))) := ⟨(Below.heap_alloc _ _ _ hRz).trans hR, heap_alloc_new wr _, In.pk HIN.out HB1.out hpb⟩
        have HLN : Hid (Wc 63 #[.pointer (some ⟨pb, 0, none⟩), .func (.func 64) #[] #[.pointer (some ⟨w.heap.size, 0, none⟩), .pointer (some ⟨wr.heap.size, 0, none⟩)]] pb base L (Bx pb w.heap.size wr.heap.size y) (fun s => putS [⟨#[10]⟩] (gs j (tabs s.ind s)))) := line_any hpb hL1 (c64 HJ.out) (fun _ _ h1 h2 => h1.pk hpb (by omega) (by omega) h2) Tryz.call64
        have HRR : Hid (wr.heap[w.heap.size]? = some (.cells #[.pointer (some ⟨pb, 0, none⟩)] 114 (0, 0))) := hR
        have kp : wr.cell? ⟨w.heap.size, 0, none⟩ = some (.pointer (some ⟨pb, 0, none⟩)) := by simp [World.cell?, hR]
        clear hj hP' hi' hLL' hin hy hR hK hKW
        go_wp2_with (first
          | (go_at_call 63; refine (HLN.out _ _ _ (by rw [HP.out.2]; exact hi) HP1.out (by simp only [World.size_alloc]; omega) HD9.out).mono ?_; rintro e w5 ⟨⟨u5, rfl⟩, v5, hP5, hi5, hK5⟩))
        go_roundg (ks.length - (j + 1))
        case measure => have := HG.out; omega
        case rel => exact ⟨j + 1, v5, by omega, by go_num, hP5, hi5.trans HP.out.2, (HB1.out.trans hK5).high _ _ _ _ (by omega) HRR.out (by decide), (HKK.out.1.trans HB1.out).trans hK5, (HKK.out.2.trans HB1.out).trans hK5⟩
    · have hjl : j = ks.length := by omega
      subst hjl
      have HE : Hid (Pr2 pb base (linesG gs ks.length s) v wr ∧ (linesG gs ks.length s).ind = s.ind ∧ PK pb base w wr) := ⟨hP', hi', hK⟩
      clear hP' hi' hR hK hKW
      go_wp2_with fail
      go_end0
      exact ⟨⟨_, rfl⟩, v, HE.out⟩
end Go.Proofs.YthbnegggohegkaaGreatDoor
