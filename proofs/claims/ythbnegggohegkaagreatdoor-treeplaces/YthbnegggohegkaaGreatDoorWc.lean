/-
  A tree by its own node.
-/
import Derived.Test.YthbnegggohegkaaGreatDoorWgJ
import Derived.Test.YthbnegggohegkaaGreatDoorGiJ
namespace Go.Proofs.YthbnegggohegkaaGreatDoor
open Go.RowKit
variable {pb base L : Nat} {s : PS} {v : Value} {w w' : World}
set_option maxRecDepth 100000 in
set_option maxHeartbeats 4000000 in
theorem ownW_E  {t : ByteArray} {n : Int} {a : Int} {p : Option Addr} {c : Nat} {ks : List MT}  {k : Int} (hq : (k == 1) = false ∧ takesB 2 k = false ∧ takesB 3 k = false ∧ (k == 11) = false ∧ (k == 12) = false ∧ (k == 13) = false ∧ (k == 15) = false ∧ (k == 16) = false ∧ takesB 12 k = false ∧ (k == 27) = false ∧ (k == 40) = false) {g : PS → PS} (h : Wf 71 pb base L (.node k t n a p c ks) g) (hpb : pb < base) : Wf 41 pb base L (.node k t n a p c ks) (fun s => (g s)) := by
  obtain ⟨q0, q1, q2, q3, q4, q5, q6, q7, q8, q9, q10⟩ := hq
  have Hq1 : Hid _ := q1
  clear q1
  have Hq2 : Hid _ := q2
  clear q2
  have Hq8 : Hid _ := q8
  clear q8
  intro s v w hi hP hB hin
  have Hh : Hid _ := h
  clear h
  have hb0 : Below w.heap.size w ((w.alloc (.cells #[.pointer (some ⟨pb, 0, none⟩)] 114)).alloc (.cells #[.int .i64 k, .string t, .int .i64 n, .int .i64 a, .slice p ks.length c] 24)) := below2 _ _ _
  have hP0 := hP.below hb0
  have hK0 : PK pb base w _ := PK.of (pb := pb) hb0 hB
  have HI0 : Hid _ := In.pk hin hK0 hpb
  have pd0 := (hb0_ w (.cells #[.pointer (some ⟨pb, 0, none⟩)] 114) (.cells #[.int .i64 k, .string t, .int .i64 n, .int .i64 a, .slice p ks.length c] 24))
  have nd0 := (nb0_ w (.cells #[.pointer (some ⟨pb, 0, none⟩)] 114) (.cells #[.int .i64 k, .string t, .int .i64 n, .int .i64 a, .slice p ks.length c] 24))
  have hz0 := lt_of nd0
  have HD0 : Hid (_ ∧ _ ∧ _ ∧ _) := ⟨hP0, hK0, nd0, pd0⟩
  clear hP hin hb0 hP0 hK0 nd0 pd0
  rw [nvk]
  go_enter Tryz.func41, Tryz.ntmps41
  go_wp2_with fail
  refine (takes_any 2 (by decide) k _).mono ?_
  rintro e wq ⟨rfl, rfl⟩
  rw [Hq1.out]
  go_wp2_with fail
  refine (takes_any 3 (by decide) k _).mono ?_
  rintro e wq ⟨rfl, rfl⟩
  rw [Hq2.out]
  go_wp2_with fail
  refine (takes_any 12 (by decide) k _).mono ?_
  rintro e wq ⟨rfl, rfl⟩
  rw [Hq8.out]
  go_wp2_with fail
  refine (Hh.out _ _ _ (Nat.le_trans (Nat.le_of_eq (Eq.refl s.ind)) hi) HD0.out.1 (Nat.le_trans hB HD0.out.2.1.size) HI0.out).mono ?_
  rintro e w1 ⟨⟨u1, rfl⟩, v1, hP1, hi1, hk1⟩
  have HJ1 : Hid ((g s).ind = s.ind) := hi1.trans (Eq.refl s.ind)
  clear hi1
  have HE : Hid (_ ∧ PK pb base w w1) := ⟨hP1, HD0.out.2.1.trans hk1⟩
  clear hP1 hk1 
  go_wp2_with fail
  go_end0
  exact ⟨⟨_, rfl⟩, v1, HE.out.1, HJ1.out, HE.out.2⟩
set_option maxRecDepth 100000 in
set_option maxHeartbeats 4000000 in
theorem ownW_S  {t : ByteArray} {n : Int} {a : Int} {p : Option Addr} {c : Nat} {ks : List MT}  {k : Int} (hq : (k == 1) = false ∧ takesB 2 k = false ∧ takesB 3 k = false ∧ (k == 11) = false ∧ (k == 12) = false ∧ (k == 13) = false ∧ (k == 15) = false ∧ (k == 16) = false ∧ takesB 12 k = true) {g : PS → PS} (h : Wf 73 pb base L (.node k t n a p c ks) g) (hpb : pb < base) : Wf 41 pb base L (.node k t n a p c ks) (fun s => (g s)) := by
  obtain ⟨q0, q1, q2, q3, q4, q5, q6, q7, q8⟩ := hq
  have Hq1 : Hid _ := q1
  clear q1
  have Hq2 : Hid _ := q2
  clear q2
  have Hq8 : Hid _ := q8
  clear q8
  intro s v w hi hP hB hin
  have Hh : Hid _ := h
  clear h
  have hb0 : Below w.heap.size w ((w.alloc (.cells #[.pointer (some ⟨pb, 0, none⟩)] 114)).alloc (.cells #[.int .i64 k, .string t, .int .i64 n, .int .i64 a, .slice p ks.length c] 24)) := below2 _ _ _
  have hP0 := hP.below hb0
  have hK0 : PK pb base w _ := PK.of (pb := pb) hb0 hB
  have HI0 : Hid _ := In.pk hin hK0 hpb
  have pd0 := (hb0_ w (.cells #[.pointer (some ⟨pb, 0, none⟩)] 114) (.cells #[.int .i64 k, .string t, .int .i64 n, .int .i64 a, .slice p ks.length c] 24))
  have nd0 := (nb0_ w (.cells #[.pointer (some ⟨pb, 0, none⟩)] 114) (.cells #[.int .i64 k, .string t, .int .i64 n, .int .i64 a, .slice p ks.length c] 24))
  have hz0 := lt_of nd0
  have HD0 : Hid (_ ∧ _ ∧ _ ∧ _) := ⟨hP0, hK0, nd0, pd0⟩
  clear hP hin hb0 hP0 hK0 nd0 pd0
  rw [nvk]
  go_enter Tryz.func41, Tryz.ntmps41
  go_wp2_with fail
  refine (takes_any 2 (by decide) k _).mono ?_
  rintro e wq ⟨rfl, rfl⟩
  rw [Hq1.out]
  go_wp2_with fail
  refine (takes_any 3 (by decide) k _).mono ?_
  rintro e wq ⟨rfl, rfl⟩
  rw [Hq2.out]
  go_wp2_with fail
  refine (takes_any 12 (by decide) k _).mono ?_
  rintro e wq ⟨rfl, rfl⟩
  rw [Hq8.out]
  go_wp2_with fail
  refine (Hh.out _ _ _ (Nat.le_trans (Nat.le_of_eq (Eq.refl s.ind)) hi) HD0.out.1 (Nat.le_trans hB HD0.out.2.1.size) HI0.out).mono ?_
  rintro e w1 ⟨⟨u1, rfl⟩, v1, hP1, hi1, hk1⟩
  have HJ1 : Hid ((g s).ind = s.ind) := hi1.trans (Eq.refl s.ind)
  clear hi1
  have HE : Hid (_ ∧ PK pb base w w1) := ⟨hP1, HD0.out.2.1.trans hk1⟩
  clear hP1 hk1 
  go_wp2_with fail
  go_end0
  exact ⟨⟨_, rfl⟩, v1, HE.out.1, HJ1.out, HE.out.2⟩
set_option maxRecDepth 100000 in
set_option maxHeartbeats 4000000 in
theorem ownW_D  {t : ByteArray} {n : Int} {a : Int} {p : Option Addr} {c : Nat} {ks : List MT}  {k : Int} (hq : (k == 1) = false ∧ takesB 2 k = true) {g : PS → PS} (h : Wf 65 pb base L (.node k t n a p c ks) g) (hpb : pb < base) : Wf 41 pb base L (.node k t n a p c ks) (fun s => (g s)) := by
  obtain ⟨q0, q1⟩ := hq
  have Hq1 : Hid _ := q1
  clear q1
  intro s v w hi hP hB hin
  have Hh : Hid _ := h
  clear h
  have hb0 : Below w.heap.size w ((w.alloc (.cells #[.pointer (some ⟨pb, 0, none⟩)] 114)).alloc (.cells #[.int .i64 k, .string t, .int .i64 n, .int .i64 a, .slice p ks.length c] 24)) := below2 _ _ _
  have hP0 := hP.below hb0
  have hK0 : PK pb base w _ := PK.of (pb := pb) hb0 hB
  have HI0 : Hid _ := In.pk hin hK0 hpb
  have pd0 := (hb0_ w (.cells #[.pointer (some ⟨pb, 0, none⟩)] 114) (.cells #[.int .i64 k, .string t, .int .i64 n, .int .i64 a, .slice p ks.length c] 24))
  have nd0 := (nb0_ w (.cells #[.pointer (some ⟨pb, 0, none⟩)] 114) (.cells #[.int .i64 k, .string t, .int .i64 n, .int .i64 a, .slice p ks.length c] 24))
  have hz0 := lt_of nd0
  have HD0 : Hid (_ ∧ _ ∧ _ ∧ _) := ⟨hP0, hK0, nd0, pd0⟩
  clear hP hin hb0 hP0 hK0 nd0 pd0
  rw [nvk]
  go_enter Tryz.func41, Tryz.ntmps41
  go_wp2_with fail
  refine (takes_any 2 (by decide) k _).mono ?_
  rintro e wq ⟨rfl, rfl⟩
  rw [Hq1.out]
  go_wp2_with fail
  refine (Hh.out _ _ _ (Nat.le_trans (Nat.le_of_eq (Eq.refl s.ind)) hi) HD0.out.1 (Nat.le_trans hB HD0.out.2.1.size) HI0.out).mono ?_
  rintro e w1 ⟨⟨u1, rfl⟩, v1, hP1, hi1, hk1⟩
  have HJ1 : Hid ((g s).ind = s.ind) := hi1.trans (Eq.refl s.ind)
  clear hi1
  have HE : Hid (_ ∧ PK pb base w w1) := ⟨hP1, HD0.out.2.1.trans hk1⟩
  clear hP1 hk1 
  go_wp2_with fail
  go_end0
  exact ⟨⟨_, rfl⟩, v1, HE.out.1, HJ1.out, HE.out.2⟩
set_option maxRecDepth 100000 in
set_option maxHeartbeats 4000000 in
theorem ownW_P  {t : ByteArray} {n : Int} {a : Int} {p : Option Addr} {c : Nat} {ks : List MT}  {k : Int} (hq : (k == 1) = false ∧ takesB 2 k = false ∧ takesB 3 k = true) {g : PS → PS} (h : Wf 67 pb base L (.node k t n a p c ks) g) (hpb : pb < base) : Wf 41 pb base L (.node k t n a p c ks) (fun s => (g s)) := by
  obtain ⟨q0, q1, q2⟩ := hq
  have Hq1 : Hid _ := q1
  clear q1
  have Hq2 : Hid _ := q2
  clear q2
  intro s v w hi hP hB hin
  have Hh : Hid _ := h
  clear h
  have hb0 : Below w.heap.size w ((w.alloc (.cells #[.pointer (some ⟨pb, 0, none⟩)] 114)).alloc (.cells #[.int .i64 k, .string t, .int .i64 n, .int .i64 a, .slice p ks.length c] 24)) := below2 _ _ _
  have hP0 := hP.below hb0
  have hK0 : PK pb base w _ := PK.of (pb := pb) hb0 hB
  have HI0 : Hid _ := In.pk hin hK0 hpb
  have pd0 := (hb0_ w (.cells #[.pointer (some ⟨pb, 0, none⟩)] 114) (.cells #[.int .i64 k, .string t, .int .i64 n, .int .i64 a, .slice p ks.length c] 24))
  have nd0 := (nb0_ w (.cells #[.pointer (some ⟨pb, 0, none⟩)] 114) (.cells #[.int .i64 k, .string t, .int .i64 n, .int .i64 a, .slice p ks.length c] 24))
  have hz0 := lt_of nd0
  have HD0 : Hid (_ ∧ _ ∧ _ ∧ _) := ⟨hP0, hK0, nd0, pd0⟩
  clear hP hin hb0 hP0 hK0 nd0 pd0
  rw [nvk]
  go_enter Tryz.func41, Tryz.ntmps41
  go_wp2_with fail
  refine (takes_any 2 (by decide) k _).mono ?_
  rintro e wq ⟨rfl, rfl⟩
  rw [Hq1.out]
  go_wp2_with fail
  refine (takes_any 3 (by decide) k _).mono ?_
  rintro e wq ⟨rfl, rfl⟩
  rw [Hq2.out]
  go_wp2_with fail
  refine (Hh.out _ _ _ (Nat.le_trans (Nat.le_of_eq (Eq.refl s.ind)) hi) HD0.out.1 (Nat.le_trans hB HD0.out.2.1.size) HI0.out).mono ?_
  rintro e w1 ⟨⟨u1, rfl⟩, v1, hP1, hi1, hk1⟩
  have HJ1 : Hid ((g s).ind = s.ind) := hi1.trans (Eq.refl s.ind)
  clear hi1
  have HE : Hid (_ ∧ PK pb base w w1) := ⟨hP1, HD0.out.2.1.trans hk1⟩
  clear hP1 hk1 
  go_wp2_with fail
  go_end0
  exact ⟨⟨_, rfl⟩, v1, HE.out.1, HJ1.out, HE.out.2⟩
set_option maxRecDepth 100000 in
set_option maxHeartbeats 4000000 in
theorem ownW_11  {t : ByteArray} {n : Int} {a : Int} {p : Option Addr} {c : Nat} {ks : List MT}  (hq : takesB 2 11 = false ∧ takesB 3 11 = false) {g : PS → PS} (h : Wf 68 pb base L (.node 11 t n a p c ks) g) (hpb : pb < base) : Wf 41 pb base L (.node 11 t n a p c ks) (fun s => (g s)) := by
  obtain ⟨q0, q1⟩ := hq
  have Hq0 : Hid _ := q0
  clear q0
  have Hq1 : Hid _ := q1
  clear q1
  intro s v w hi hP hB hin
  have Hh : Hid _ := h
  clear h
  have hb0 : Below w.heap.size w ((w.alloc (.cells #[.pointer (some ⟨pb, 0, none⟩)] 114)).alloc (.cells #[.int .i64 11, .string t, .int .i64 n, .int .i64 a, .slice p ks.length c] 24)) := below2 _ _ _
  have hP0 := hP.below hb0
  have hK0 : PK pb base w _ := PK.of (pb := pb) hb0 hB
  have HI0 : Hid _ := In.pk hin hK0 hpb
  have pd0 := (hb0_ w (.cells #[.pointer (some ⟨pb, 0, none⟩)] 114) (.cells #[.int .i64 11, .string t, .int .i64 n, .int .i64 a, .slice p ks.length c] 24))
  have nd0 := (nb0_ w (.cells #[.pointer (some ⟨pb, 0, none⟩)] 114) (.cells #[.int .i64 11, .string t, .int .i64 n, .int .i64 a, .slice p ks.length c] 24))
  have hz0 := lt_of nd0
  have HD0 : Hid (_ ∧ _ ∧ _ ∧ _) := ⟨hP0, hK0, nd0, pd0⟩
  clear hP hin hb0 hP0 hK0 nd0 pd0
  rw [nvk]
  go_enter Tryz.func41, Tryz.ntmps41
  go_wp2_with fail
  refine (takes_any 2 (by decide) 11 _).mono ?_
  rintro e wq ⟨rfl, rfl⟩
  rw [Hq0.out]
  go_wp2_with fail
  refine (takes_any 3 (by decide) 11 _).mono ?_
  rintro e wq ⟨rfl, rfl⟩
  rw [Hq1.out]
  go_wp2_with fail
  refine (Hh.out _ _ _ (Nat.le_trans (Nat.le_of_eq (Eq.refl s.ind)) hi) HD0.out.1 (Nat.le_trans hB HD0.out.2.1.size) HI0.out).mono ?_
  rintro e w1 ⟨⟨u1, rfl⟩, v1, hP1, hi1, hk1⟩
  have HJ1 : Hid ((g s).ind = s.ind) := hi1.trans (Eq.refl s.ind)
  clear hi1
  have HE : Hid (_ ∧ PK pb base w w1) := ⟨hP1, HD0.out.2.1.trans hk1⟩
  clear hP1 hk1 
  go_wp2_with fail
  go_end0
  exact ⟨⟨_, rfl⟩, v1, HE.out.1, HJ1.out, HE.out.2⟩
set_option maxRecDepth 100000 in
set_option maxHeartbeats 4000000 in
theorem ownW_12  {t : ByteArray} {n : Int} {a : Int} {p : Option Addr} {c : Nat} {ks : List MT}  (hq : takesB 2 12 = false ∧ takesB 3 12 = false) {g : PS → PS} (h : Wf 69 pb base L (.node 12 t n a p c ks) g) (hpb : pb < base) : Wf 41 pb base L (.node 12 t n a p c ks) (fun s => (g s)) := by
  obtain ⟨q0, q1⟩ := hq
  have Hq0 : Hid _ := q0
  clear q0
  have Hq1 : Hid _ := q1
  clear q1
  intro s v w hi hP hB hin
  have Hh : Hid _ := h
  clear h
  have hb0 : Below w.heap.size w ((w.alloc (.cells #[.pointer (some ⟨pb, 0, none⟩)] 114)).alloc (.cells #[.int .i64 12, .string t, .int .i64 n, .int .i64 a, .slice p ks.length c] 24)) := below2 _ _ _
  have hP0 := hP.below hb0
  have hK0 : PK pb base w _ := PK.of (pb := pb) hb0 hB
  have HI0 : Hid _ := In.pk hin hK0 hpb
  have pd0 := (hb0_ w (.cells #[.pointer (some ⟨pb, 0, none⟩)] 114) (.cells #[.int .i64 12, .string t, .int .i64 n, .int .i64 a, .slice p ks.length c] 24))
  have nd0 := (nb0_ w (.cells #[.pointer (some ⟨pb, 0, none⟩)] 114) (.cells #[.int .i64 12, .string t, .int .i64 n, .int .i64 a, .slice p ks.length c] 24))
  have hz0 := lt_of nd0
  have HD0 : Hid (_ ∧ _ ∧ _ ∧ _) := ⟨hP0, hK0, nd0, pd0⟩
  clear hP hin hb0 hP0 hK0 nd0 pd0
  rw [nvk]
  go_enter Tryz.func41, Tryz.ntmps41
  go_wp2_with fail
  refine (takes_any 2 (by decide) 12 _).mono ?_
  rintro e wq ⟨rfl, rfl⟩
  rw [Hq0.out]
  go_wp2_with fail
  refine (takes_any 3 (by decide) 12 _).mono ?_
  rintro e wq ⟨rfl, rfl⟩
  rw [Hq1.out]
  go_wp2_with fail
  refine (Hh.out _ _ _ (Nat.le_trans (Nat.le_of_eq (Eq.refl s.ind)) hi) HD0.out.1 (Nat.le_trans hB HD0.out.2.1.size) HI0.out).mono ?_
  rintro e w1 ⟨⟨u1, rfl⟩, v1, hP1, hi1, hk1⟩
  have HJ1 : Hid ((g s).ind = s.ind) := hi1.trans (Eq.refl s.ind)
  clear hi1
  have HE : Hid (_ ∧ PK pb base w w1) := ⟨hP1, HD0.out.2.1.trans hk1⟩
  clear hP1 hk1 
  go_wp2_with fail
  go_end0
  exact ⟨⟨_, rfl⟩, v1, HE.out.1, HJ1.out, HE.out.2⟩
set_option maxRecDepth 100000 in
set_option maxHeartbeats 4000000 in
theorem ownW_13  {t : ByteArray} {n : Int} {a : Int} {p : Option Addr} {c : Nat} {ks : List MT}  (hq : takesB 2 13 = false ∧ takesB 3 13 = false) {g : PS → PS} (h : Wc 70 #[.pointer (some ⟨pb, 0, none⟩), .slice p ks.length c, .func (.func 71) #[.pointer (some ⟨pb, 0, none⟩)] #[]] pb base L (Kd pb p ks) g) (hpb : pb < base) : Wf 41 pb base L (.node 13 t n a p c ks) (fun s => (g s)) := by
  obtain ⟨q0, q1⟩ := hq
  have Hq0 : Hid _ := q0
  clear q0
  have Hq1 : Hid _ := q1
  clear q1
  intro s v w hi hP hB hin
  have Hh : Hid _ := h
  clear h
  have hb0 : Below w.heap.size w ((w.alloc (.cells #[.pointer (some ⟨pb, 0, none⟩)] 114)).alloc (.cells #[.int .i64 13, .string t, .int .i64 n, .int .i64 a, .slice p ks.length c] 24)) := below2 _ _ _
  have hP0 := hP.below hb0
  have hK0 : PK pb base w _ := PK.of (pb := pb) hb0 hB
  have HI0 : Hid _ := In.pk hin hK0 hpb
  have pd0 := (hb0_ w (.cells #[.pointer (some ⟨pb, 0, none⟩)] 114) (.cells #[.int .i64 13, .string t, .int .i64 n, .int .i64 a, .slice p ks.length c] 24))
  have nd0 := (nb0_ w (.cells #[.pointer (some ⟨pb, 0, none⟩)] 114) (.cells #[.int .i64 13, .string t, .int .i64 n, .int .i64 a, .slice p ks.length c] 24))
  have hz0 := lt_of nd0
  have HD0 : Hid (_ ∧ _ ∧ _ ∧ _) := ⟨hP0, hK0, nd0, pd0⟩
  clear hP hin hb0 hP0 hK0 nd0 pd0
  rw [nvk]
  go_enter Tryz.func41, Tryz.ntmps41
  go_wp2_with fail
  refine (takes_any 2 (by decide) 13 _).mono ?_
  rintro e wq ⟨rfl, rfl⟩
  rw [Hq0.out]
  go_wp2_with fail
  refine (takes_any 3 (by decide) 13 _).mono ?_
  rintro e wq ⟨rfl, rfl⟩
  rw [Hq1.out]
  go_wp2_with fail
  refine (Hh.out _ _ _ (Nat.le_trans (Nat.le_of_eq (Eq.refl s.ind)) hi) HD0.out.1 (Nat.le_trans hB HD0.out.2.1.size) (Kd.of HI0.out)).mono ?_
  rintro e w1 ⟨⟨u1, rfl⟩, v1, hP1, hi1, hk1⟩
  have HJ1 : Hid ((g s).ind = s.ind) := hi1.trans (Eq.refl s.ind)
  clear hi1
  have HE : Hid (_ ∧ PK pb base w w1) := ⟨hP1, HD0.out.2.1.trans hk1⟩
  clear hP1 hk1 
  go_wp2_with fail
  go_end0
  exact ⟨⟨_, rfl⟩, v1, HE.out.1, HJ1.out, HE.out.2⟩
set_option maxRecDepth 100000 in
set_option maxHeartbeats 4000000 in
theorem ownW_15  {t : ByteArray} {n : Int} {a : Int} {p : Option Addr} {c : Nat} {ks : List MT}  (hq : takesB 2 15 = false ∧ takesB 3 15 = false) {g : PS → PS} (h : Wf 72 pb base L (.node 15 t n a p c ks) g) (hpb : pb < base) : Wf 41 pb base L (.node 15 t n a p c ks) (fun s => (g s)) := by
  obtain ⟨q0, q1⟩ := hq
  have Hq0 : Hid _ := q0
  clear q0
  have Hq1 : Hid _ := q1
  clear q1
  intro s v w hi hP hB hin
  have Hh : Hid _ := h
  clear h
  have hb0 : Below w.heap.size w ((w.alloc (.cells #[.pointer (some ⟨pb, 0, none⟩)] 114)).alloc (.cells #[.int .i64 15, .string t, .int .i64 n, .int .i64 a, .slice p ks.length c] 24)) := below2 _ _ _
  have hP0 := hP.below hb0
  have hK0 : PK pb base w _ := PK.of (pb := pb) hb0 hB
  have HI0 : Hid _ := In.pk hin hK0 hpb
  have pd0 := (hb0_ w (.cells #[.pointer (some ⟨pb, 0, none⟩)] 114) (.cells #[.int .i64 15, .string t, .int .i64 n, .int .i64 a, .slice p ks.length c] 24))
  have nd0 := (nb0_ w (.cells #[.pointer (some ⟨pb, 0, none⟩)] 114) (.cells #[.int .i64 15, .string t, .int .i64 n, .int .i64 a, .slice p ks.length c] 24))
  have hz0 := lt_of nd0
  have HD0 : Hid (_ ∧ _ ∧ _ ∧ _) := ⟨hP0, hK0, nd0, pd0⟩
  clear hP hin hb0 hP0 hK0 nd0 pd0
  rw [nvk]
  go_enter Tryz.func41, Tryz.ntmps41
  go_wp2_with fail
  refine (takes_any 2 (by decide) 15 _).mono ?_
  rintro e wq ⟨rfl, rfl⟩
  rw [Hq0.out]
  go_wp2_with fail
  refine (takes_any 3 (by decide) 15 _).mono ?_
  rintro e wq ⟨rfl, rfl⟩
  rw [Hq1.out]
  go_wp2_with fail
  refine (Hh.out _ _ _ (Nat.le_trans (Nat.le_of_eq (Eq.refl s.ind)) hi) HD0.out.1 (Nat.le_trans hB HD0.out.2.1.size) HI0.out).mono ?_
  rintro e w1 ⟨⟨u1, rfl⟩, v1, hP1, hi1, hk1⟩
  have HJ1 : Hid ((g s).ind = s.ind) := hi1.trans (Eq.refl s.ind)
  clear hi1
  have HE : Hid (_ ∧ PK pb base w w1) := ⟨hP1, HD0.out.2.1.trans hk1⟩
  clear hP1 hk1 
  go_wp2_with fail
  go_end0
  exact ⟨⟨_, rfl⟩, v1, HE.out.1, HJ1.out, HE.out.2⟩
set_option maxRecDepth 100000 in
set_option maxHeartbeats 4000000 in
theorem ownW_16  {t : ByteArray} {n : Int} {a : Int} {p : Option Addr} {c : Nat} {ks : List MT}  (hq : takesB 2 16 = false ∧ takesB 3 16 = false)  (hpb : pb < base) : Wf 41 pb base L (.node 16 t n a p c ks) (fun s => s) := by
  obtain ⟨q0, q1⟩ := hq
  have Hq0 : Hid _ := q0
  clear q0
  have Hq1 : Hid _ := q1
  clear q1
  intro s v w hi hP hB hin
  have hb0 : Below w.heap.size w ((w.alloc (.cells #[.pointer (some ⟨pb, 0, none⟩)] 114)).alloc (.cells #[.int .i64 16, .string t, .int .i64 n, .int .i64 a, .slice p ks.length c] 24)) := below2 _ _ _
  have hP0 := hP.below hb0
  have hK0 : PK pb base w _ := PK.of (pb := pb) hb0 hB
  have HI0 : Hid _ := In.pk hin hK0 hpb
  have pd0 := (hb0_ w (.cells #[.pointer (some ⟨pb, 0, none⟩)] 114) (.cells #[.int .i64 16, .string t, .int .i64 n, .int .i64 a, .slice p ks.length c] 24))
  have nd0 := (nb0_ w (.cells #[.pointer (some ⟨pb, 0, none⟩)] 114) (.cells #[.int .i64 16, .string t, .int .i64 n, .int .i64 a, .slice p ks.length c] 24))
  have hz0 := lt_of nd0
  have HD0 : Hid (_ ∧ _ ∧ _ ∧ _) := ⟨hP0, hK0, nd0, pd0⟩
  clear hP hin hb0 hP0 hK0 nd0 pd0
  rw [nvk]
  go_enter Tryz.func41, Tryz.ntmps41
  go_wp2_with fail
  refine (takes_any 2 (by decide) 16 _).mono ?_
  rintro e wq ⟨rfl, rfl⟩
  rw [Hq0.out]
  go_wp2_with fail
  refine (takes_any 3 (by decide) 16 _).mono ?_
  rintro e wq ⟨rfl, rfl⟩
  rw [Hq1.out]
  go_wp2_with fail
  go_end0
  exact ⟨⟨_, rfl⟩, v, HD0.out.1, by first | rfl | trivial, HD0.out.2.1⟩
set_option maxRecDepth 100000 in
set_option maxHeartbeats 4000000 in
theorem ownW_27  {t : ByteArray} {n : Int} {a : Int} {p : Option Addr} {c : Nat} {ks : List MT}  (hq : takesB 2 27 = false ∧ takesB 3 27 = false ∧ takesB 12 27 = false) {g : PS → PS} (h : Wf 74 pb base L (.node 27 t n a p c ks) g) (hpb : pb < base) : Wf 41 pb base L (.node 27 t n a p c ks) (fun s => (g s)) := by
  obtain ⟨q0, q1, q2⟩ := hq
  have Hq0 : Hid _ := q0
  clear q0
  have Hq1 : Hid _ := q1
  clear q1
  have Hq2 : Hid _ := q2
  clear q2
  intro s v w hi hP hB hin
  have Hh : Hid _ := h
  clear h
  have hb0 : Below w.heap.size w ((w.alloc (.cells #[.pointer (some ⟨pb, 0, none⟩)] 114)).alloc (.cells #[.int .i64 27, .string t, .int .i64 n, .int .i64 a, .slice p ks.length c] 24)) := below2 _ _ _
  have hP0 := hP.below hb0
  have hK0 : PK pb base w _ := PK.of (pb := pb) hb0 hB
  have HI0 : Hid _ := In.pk hin hK0 hpb
  have pd0 := (hb0_ w (.cells #[.pointer (some ⟨pb, 0, none⟩)] 114) (.cells #[.int .i64 27, .string t, .int .i64 n, .int .i64 a, .slice p ks.length c] 24))
  have nd0 := (nb0_ w (.cells #[.pointer (some ⟨pb, 0, none⟩)] 114) (.cells #[.int .i64 27, .string t, .int .i64 n, .int .i64 a, .slice p ks.length c] 24))
  have hz0 := lt_of nd0
  have HD0 : Hid (_ ∧ _ ∧ _ ∧ _) := ⟨hP0, hK0, nd0, pd0⟩
  clear hP hin hb0 hP0 hK0 nd0 pd0
  rw [nvk]
  go_enter Tryz.func41, Tryz.ntmps41
  go_wp2_with fail
  refine (takes_any 2 (by decide) 27 _).mono ?_
  rintro e wq ⟨rfl, rfl⟩
  rw [Hq0.out]
  go_wp2_with fail
  refine (takes_any 3 (by decide) 27 _).mono ?_
  rintro e wq ⟨rfl, rfl⟩
  rw [Hq1.out]
  go_wp2_with fail
  refine (takes_any 12 (by decide) 27 _).mono ?_
  rintro e wq ⟨rfl, rfl⟩
  rw [Hq2.out]
  go_wp2_with fail
  refine (Hh.out _ _ _ (Nat.le_trans (Nat.le_of_eq (Eq.refl s.ind)) hi) HD0.out.1 (Nat.le_trans hB HD0.out.2.1.size) HI0.out).mono ?_
  rintro e w1 ⟨⟨u1, rfl⟩, v1, hP1, hi1, hk1⟩
  have HJ1 : Hid ((g s).ind = s.ind) := hi1.trans (Eq.refl s.ind)
  clear hi1
  have HE : Hid (_ ∧ PK pb base w w1) := ⟨hP1, HD0.out.2.1.trans hk1⟩
  clear hP1 hk1 
  go_wp2_with fail
  go_end0
  exact ⟨⟨_, rfl⟩, v1, HE.out.1, HJ1.out, HE.out.2⟩
set_option maxRecDepth 100000 in
set_option maxHeartbeats 4000000 in
theorem ownW_40  {t : ByteArray} {n : Int} {a : Int} {p : Option Addr} {c : Nat} {ks : List MT}  (hq : takesB 2 40 = false ∧ takesB 3 40 = false ∧ takesB 12 40 = false) {g : PS → PS} (h : Wf 75 pb base L (.node 40 t n a p c ks) g) (hpb : pb < base) : Wf 41 pb base L (.node 40 t n a p c ks) (fun s => (g s)) := by
  obtain ⟨q0, q1, q2⟩ := hq
  have Hq0 : Hid _ := q0
  clear q0
  have Hq1 : Hid _ := q1
  clear q1
  have Hq2 : Hid _ := q2
  clear q2
  intro s v w hi hP hB hin
  have Hh : Hid _ := h
  clear h
  have hb0 : Below w.heap.size w ((w.alloc (.cells #[.pointer (some ⟨pb, 0, none⟩)] 114)).alloc (.cells #[.int .i64 40, .string t, .int .i64 n, .int .i64 a, .slice p ks.length c] 24)) := below2 _ _ _
  have hP0 := hP.below hb0
  have hK0 : PK pb base w _ := PK.of (pb := pb) hb0 hB
  have HI0 : Hid _ := In.pk hin hK0 hpb
  have pd0 := (hb0_ w (.cells #[.pointer (some ⟨pb, 0, none⟩)] 114) (.cells #[.int .i64 40, .string t, .int .i64 n, .int .i64 a, .slice p ks.length c] 24))
  have nd0 := (nb0_ w (.cells #[.pointer (some ⟨pb, 0, none⟩)] 114) (.cells #[.int .i64 40, .string t, .int .i64 n, .int .i64 a, .slice p ks.length c] 24))
  have hz0 := lt_of nd0
  have HD0 : Hid (_ ∧ _ ∧ _ ∧ _) := ⟨hP0, hK0, nd0, pd0⟩
  clear hP hin hb0 hP0 hK0 nd0 pd0
  rw [nvk]
  go_enter Tryz.func41, Tryz.ntmps41
  go_wp2_with fail
  refine (takes_any 2 (by decide) 40 _).mono ?_
  rintro e wq ⟨rfl, rfl⟩
  rw [Hq0.out]
  go_wp2_with fail
  refine (takes_any 3 (by decide) 40 _).mono ?_
  rintro e wq ⟨rfl, rfl⟩
  rw [Hq1.out]
  go_wp2_with fail
  refine (takes_any 12 (by decide) 40 _).mono ?_
  rintro e wq ⟨rfl, rfl⟩
  rw [Hq2.out]
  go_wp2_with fail
  refine (Hh.out _ _ _ (Nat.le_trans (Nat.le_of_eq (Eq.refl s.ind)) hi) HD0.out.1 (Nat.le_trans hB HD0.out.2.1.size) HI0.out).mono ?_
  rintro e w1 ⟨⟨u1, rfl⟩, v1, hP1, hi1, hk1⟩
  have HJ1 : Hid ((g s).ind = s.ind) := hi1.trans (Eq.refl s.ind)
  clear hi1
  have HE : Hid (_ ∧ PK pb base w w1) := ⟨hP1, HD0.out.2.1.trans hk1⟩
  clear hP1 hk1 
  go_wp2_with fail
  go_end0
  exact ⟨⟨_, rfl⟩, v1, HE.out.1, HJ1.out, HE.out.2⟩
end Go.Proofs.YthbnegggohegkaaGreatDoor
