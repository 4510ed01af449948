/-
  The document's right and fields, at any datum.
-/
import Derived.Test.YtnhbpcmiolkllaaDoorRsJ
namespace Go.Proofs.YtnhbpcmiolkllaaDoor
open Go.RowKit
attribute [local go_sem] refold2 cell3_0 cell3_1 b28_0 b28_01

theorem zero_plain (k : Int) (bn bf bs bi : Bool) (n f : Int) (s : ByteArray) (r0 r1 r2 r3 : Int) (m i : Nat) (h1 : (k == 1 || k == 2) = bn) (h2 : (k == 3) = bf) (h3 : (k == 4) = bs) (h4 : (k == 8) = bi) (h5 : (k == 5 || k == 6 || k == 7 || k == 9) = false) :
    zeroK k n f s r0 r1 r2 r3 m i = plainB bn bf bs false bi n f s r0 r1 r2 r3 m i := by
  simp only [Bool.or_eq_false_iff] at h5
  unfold zeroK plainB noneB
  rw [h1, h2, h3, h4, h5.1.1.1, h5.1.1.2, h5.1.2, h5.2]
  simp only [Bool.false_or, Bool.and_assoc]
theorem lead5 (n f : Int) (s : ByteArray) (r0 r1 r2 r3 : Int) (path : List Int) (i : Nat) :
    (zeroK 5 n f s r0 r1 r2 r3 path.length i && pieceB r0 r1 r2 r3) = (plainB false false false true false n f s r0 r1 r2 r3 path.length i && leadsB 5 r0 r1 r2 r3 path) := by
  cases path with
  | nil =>
    rw [Bool.eq_iff_iff]
    by_cases hr : r0 = 0
    · simp [zeroK, plainB, pieceB, leadsB, noneB, hr]
    · simp [zeroK, plainB, pieceB, leadsB, noneB, hr, objB]
      intros; omega
  | cons z path =>
    have h1 : zeroK 5 n f s r0 r1 r2 r3 (z :: path).length i = false := by simp [zeroK]; omega
    have h2 : leadsB 5 r0 r1 r2 r3 (z :: path) = false := by
      unfold leadsB noneB
      have h3 : (((z :: path).length : Int) == 0) = false := by rw [beq_eq_false_iff_ne]; simp; omega
      split <;> rw [h3] <;> simp
    rw [h1, h2, Bool.false_and, Bool.and_false]
theorem lead67 (k : Int) (hk : k = 6 ∨ k = 7) (n f : Int) (s : ByteArray) (r0 r1 r2 r3 : Int) (path : List Int) (i : Nat) :
    (zeroK k n f s r0 r1 r2 r3 path.length i && objB r0) = (plainB false false false true false n f s r0 r1 r2 r3 path.length i && leadsB k r0 r1 r2 r3 path) := by
  cases path with
  | nil =>
    rw [Bool.eq_iff_iff]
    rcases hk with rfl | rfl
    all_goals by_cases hr : r0 = 0
    all_goals simp [zeroK, plainB, leadsB, noneB, hr, objB]
    all_goals (constructor <;> intro h <;> simp_all)
  | cons z path =>
    have h1 : zeroK k n f s r0 r1 r2 r3 (z :: path).length i = false := by rcases hk with rfl | rfl <;> (simp [zeroK]; omega)
    have h2 : leadsB k r0 r1 r2 r3 (z :: path) = false := by
      unfold leadsB noneB
      have h3 : (((z :: path).length : Int) == 0) = false := by rw [beq_eq_false_iff_ne]; simp; omega
      have h4 : (k == 9) = false := by rcases hk with rfl | rfl <;> rfl
      split <;> rw [h3] <;> simp [h4]
    rw [h1, h2, Bool.false_and, Bool.and_false]
theorem lead9 (n f : Int) (s : ByteArray) (r0 r1 r2 r3 : Int) (path : List Int) (i : Nat) :
    (zeroK 9 n f s r0 r1 r2 r3 path.length i && targetB r0 path) = (plainB false false false true false n f s r0 r1 r2 r3 path.length i && leadsB 9 r0 r1 r2 r3 path) := by
  have e : ∀ b : Bool, path.all stepB = b → path.all (fun z => decide (0 ≤ z) && decide (z < 30)) = b := fun b h => h
  unfold targetB leadsB
  rw [e _ rfl]
  by_cases hr : r0 = 0
  · cases path with
    | nil => rw [Bool.eq_iff_iff]; simp [zeroK, plainB, noneB, hr, objB]; constructor <;> intro h <;> simp_all
    | cons z path =>
      have h3 : (((z :: path).length : Int) == 0) = false := by rw [beq_eq_false_iff_ne]; simp; omega
      rw [if_pos hr]; unfold noneB; rw [h3, hr]; simp
  · rw [if_neg hr]
    generalize path.all stepB = q
    have h4 : (r0 == 0) = false := by simpa using hr
    have h5 : decide (path.length ≤ 100) = decide ((path.length : Int) ≤ 100) := decide_eq_decide.2 (by omega)
    rw [h4, h5]
    generalize decide ((path.length : Int) ≤ 100) = q1
    rw [Bool.eq_iff_iff]
    simp [zeroK, plainB]
    generalize objB r0 = q2
    constructor <;> intro h <;> simp_all

set_option maxRecDepth 100000 in
set_option maxHeartbeats 4000000 in
theorem refRight_0 (t : ByteArray) (a f : Int) (s : ByteArray) (r0 r1 r2 r3 : Int) (pp : Option Addr) (path : List Int) (pc : Nat) (ip : Option Addr) (items : List MD) (ic : Nat) (deep : Int) (w : World) (hdp : ¬ 100 < deep) :
    Calls Tryd.prog 33 #[.agg #[.int .i64 0, .string t, .int .i64 a, .int .u64 f, .string s, .int .i64 r0, .int .i64 r1, .int .i64 r2, .int .i64 r3, .slice pp path.length pc, .slice ip items.length ic], .int .i64 deep] w fun r w' => r = .returned (.bool ((t.toList == []) && plainB false false false false false a f s r0 r1 r2 r3 path.length items.length)) ∧ Below w.heap.size w w' := by
  obtain ⟨W1, hW1⟩ : ∃ W1, W1 = w.alloc (.cells #[.int .i64 0, .string t, .int .i64 a, .int .u64 f, .string s, .int .i64 r0, .int .i64 r1, .int .i64 r2, .int .i64 r3, .slice pp path.length pc, .slice ip items.length ic] 28) := ⟨_, rfl⟩
  have HK : Hid (∀ W, Below W1.heap.size W1 W → Below w.heap.size w W ∧ ∀ j, W.cell? ⟨w.heap.size, j, none⟩ = (#[.int .i64 0, .string t, .int .i64 a, .int .u64 f, .string s, .int .i64 r0, .int .i64 r1, .int .i64 r2, .int .i64 r3, .slice pp path.length pc, .slice ip items.length ic] : Array Value)[j]?) := fun W hW => by rw [hW1] at hW; exact kept1 hW
  have HB : Hid (Below W1.heap.size W1 W1) := Below.refl _ _
  have CP : Hid (∀ W, Below W1.heap.size W1 W → Calls Tryd.prog 61 #[.agg #[.int .i64 0, .string t, .int .i64 a, .int .u64 f, .string s, .int .i64 r0, .int .i64 r1, .int .i64 r2, .int .i64 r3, .slice pp path.length pc, .slice ip items.length ic], .bool false, .bool false, .bool false, .bool false, .bool false] W fun r w' => r = .returned (.bool (plainB false false false false false a f s r0 r1 r2 r3 path.length items.length)) ∧ Below W1.heap.size W1 w') := fun W hW => (refPlain_nil 0 t a f s r0 r1 r2 r3 pp path.length pc ip items.length ic W).mono fun _ _ h => ⟨h.1, hW.trans (h.2.mono hW.size)⟩
  generalize plainB false false false false false a f s r0 r1 r2 r3 path.length items.length = pv at CP ⊢
  cases pv
  all_goals go_enter Tryd.func33, Tryd.ntmps33
  all_goals go_wp2_with fail
  all_goals rw [← hW1]
  all_goals clear hW1
  all_goals have hc1 := (HK.out _ HB.out).2
  all_goals go_wp2_with (first | (go_at_call 61; refine (CP.out _ HB.out).mono ?_; rintro r w3 ⟨rfl, b3⟩; have hc3 := (HK.out _ b3).2; have HB : Hid (Below W1.heap.size W1 w3) := b3; clear b3))
  all_goals (go_ret; refine ⟨?_, (HK.out _ HB.out).1⟩; simp_all)

set_option maxRecDepth 100000 in
set_option maxHeartbeats 4000000 in
theorem refRight_1 (t : ByteArray) (a f : Int) (s : ByteArray) (r0 r1 r2 r3 : Int) (pp : Option Addr) (path : List Int) (pc : Nat) (ip : Option Addr) (items : List MD) (ic : Nat) (deep : Int) (w : World) (hdp : ¬ 100 < deep) :
    Calls Tryd.prog 33 #[.agg #[.int .i64 1, .string t, .int .i64 a, .int .u64 f, .string s, .int .i64 r0, .int .i64 r1, .int .i64 r2, .int .i64 r3, .slice pp path.length pc, .slice ip items.length ic], .int .i64 deep] w fun r w' => r = .returned (.bool (tyB 1 t && plainB true false false false false a f s r0 r1 r2 r3 path.length items.length && (a == 0 || a == 1))) ∧ Below w.heap.size w w' := by
  obtain ⟨W1, hW1⟩ : ∃ W1, W1 = w.alloc (.cells #[.int .i64 1, .string t, .int .i64 a, .int .u64 f, .string s, .int .i64 r0, .int .i64 r1, .int .i64 r2, .int .i64 r3, .slice pp path.length pc, .slice ip items.length ic] 28) := ⟨_, rfl⟩
  have HK : Hid (∀ W, Below W1.heap.size W1 W → Below w.heap.size w W ∧ ∀ j, W.cell? ⟨w.heap.size, j, none⟩ = (#[.int .i64 1, .string t, .int .i64 a, .int .u64 f, .string s, .int .i64 r0, .int .i64 r1, .int .i64 r2, .int .i64 r3, .slice pp path.length pc, .slice ip items.length ic] : Array Value)[j]?) := fun W hW => by rw [hW1] at hW; exact kept1 hW
  have HB : Hid (Below W1.heap.size W1 W1) := Below.refl _ _
  have CP : Hid (∀ W, Below W1.heap.size W1 W → Calls Tryd.prog 61 #[.agg #[.int .i64 1, .string t, .int .i64 a, .int .u64 f, .string s, .int .i64 r0, .int .i64 r1, .int .i64 r2, .int .i64 r3, .slice pp path.length pc, .slice ip items.length ic], .bool true, .bool false, .bool false, .bool false, .bool false] W fun r w' => r = .returned (.bool (plainB true false false false false a f s r0 r1 r2 r3 path.length items.length)) ∧ Below W1.heap.size W1 w') := fun W hW => (refPlain_n 1 t a f s r0 r1 r2 r3 pp path.length pc ip items.length ic W).mono fun _ _ h => ⟨h.1, hW.trans (h.2.mono hW.size)⟩
  have CT : Hid (∀ W, Below W1.heap.size W1 W → Calls Tryd.prog 62 #[.int .i64 1, .string t] W fun r w' => r = .returned (.bool (tyB 1 t)) ∧ Below W1.heap.size W1 w') := fun W hW => (refTyped_1 t W).mono fun _ _ h => ⟨h.1, hW.trans (h.2.mono hW.size)⟩
  generalize plainB true false false false false a f s r0 r1 r2 r3 path.length items.length = pv at CP ⊢
  generalize tyB 1 t = tv at CT ⊢
  cases tv <;> cases pv
  all_goals go_enter Tryd.func33, Tryd.ntmps33
  all_goals go_wp2_with fail
  all_goals rw [← hW1]
  all_goals clear hW1
  all_goals have hc1 := (HK.out _ HB.out).2
  all_goals go_wp2_with (first | (go_at_call 62; refine (CT.out _ HB.out).mono ?_; rintro r w2 ⟨rfl, b2⟩; have hc2 := (HK.out _ b2).2; have HB : Hid (Below W1.heap.size W1 w2) := b2; clear b2) | (go_at_call 61; refine (CP.out _ HB.out).mono ?_; rintro r w3 ⟨rfl, b3⟩; have hc3 := (HK.out _ b3).2; have HB : Hid (Below W1.heap.size W1 w3) := b3; clear b3))
  all_goals (go_ret; refine ⟨?_, (HK.out _ HB.out).1⟩; simp_all)

set_option maxRecDepth 100000 in
set_option maxHeartbeats 4000000 in
theorem refRight_2 (t : ByteArray) (a f : Int) (s : ByteArray) (r0 r1 r2 r3 : Int) (pp : Option Addr) (path : List Int) (pc : Nat) (ip : Option Addr) (items : List MD) (ic : Nat) (deep : Int) (w : World) (hdp : ¬ 100 < deep) :
    Calls Tryd.prog 33 #[.agg #[.int .i64 2, .string t, .int .i64 a, .int .u64 f, .string s, .int .i64 r0, .int .i64 r1, .int .i64 r2, .int .i64 r3, .slice pp path.length pc, .slice ip items.length ic], .int .i64 deep] w fun r w' => r = .returned (.bool (tyB 2 t && plainB true false false false false a f s r0 r1 r2 r3 path.length items.length)) ∧ Below w.heap.size w w' := by
  obtain ⟨W1, hW1⟩ : ∃ W1, W1 = w.alloc (.cells #[.int .i64 2, .string t, .int .i64 a, .int .u64 f, .string s, .int .i64 r0, .int .i64 r1, .int .i64 r2, .int .i64 r3, .slice pp path.length pc, .slice ip items.length ic] 28) := ⟨_, rfl⟩
  have HK : Hid (∀ W, Below W1.heap.size W1 W → Below w.heap.size w W ∧ ∀ j, W.cell? ⟨w.heap.size, j, none⟩ = (#[.int .i64 2, .string t, .int .i64 a, .int .u64 f, .string s, .int .i64 r0, .int .i64 r1, .int .i64 r2, .int .i64 r3, .slice pp path.length pc, .slice ip items.length ic] : Array Value)[j]?) := fun W hW => by rw [hW1] at hW; exact kept1 hW
  have HB : Hid (Below W1.heap.size W1 W1) := Below.refl _ _
  have CP : Hid (∀ W, Below W1.heap.size W1 W → Calls Tryd.prog 61 #[.agg #[.int .i64 2, .string t, .int .i64 a, .int .u64 f, .string s, .int .i64 r0, .int .i64 r1, .int .i64 r2, .int .i64 r3, .slice pp path.length pc, .slice ip items.length ic], .bool true, .bool false, .bool false, .bool false, .bool false] W fun r w' => r = .returned (.bool (plainB true false false false false a f s r0 r1 r2 r3 path.length items.length)) ∧ Below W1.heap.size W1 w') := fun W hW => (refPlain_n 2 t a f s r0 r1 r2 r3 pp path.length pc ip items.length ic W).mono fun _ _ h => ⟨h.1, hW.trans (h.2.mono hW.size)⟩
  have CT : Hid (∀ W, Below W1.heap.size W1 W → Calls Tryd.prog 62 #[.int .i64 2, .string t] W fun r w' => r = .returned (.bool (tyB 2 t)) ∧ Below W1.heap.size W1 w') := fun W hW => (refTyped_2 t W).mono fun _ _ h => ⟨h.1, hW.trans (h.2.mono hW.size)⟩
  generalize plainB true false false false false a f s r0 r1 r2 r3 path.length items.length = pv at CP ⊢
  generalize tyB 2 t = tv at CT ⊢
  cases tv <;> cases pv
  all_goals go_enter Tryd.func33, Tryd.ntmps33
  all_goals go_wp2_with fail
  all_goals rw [← hW1]
  all_goals clear hW1
  all_goals have hc1 := (HK.out _ HB.out).2
  all_goals go_wp2_with (first | (go_at_call 62; refine (CT.out _ HB.out).mono ?_; rintro r w2 ⟨rfl, b2⟩; have hc2 := (HK.out _ b2).2; have HB : Hid (Below W1.heap.size W1 w2) := b2; clear b2) | (go_at_call 61; refine (CP.out _ HB.out).mono ?_; rintro r w3 ⟨rfl, b3⟩; have hc3 := (HK.out _ b3).2; have HB : Hid (Below W1.heap.size W1 w3) := b3; clear b3))
  all_goals (go_ret; refine ⟨?_, (HK.out _ HB.out).1⟩; simp_all)

set_option maxRecDepth 100000 in
set_option maxHeartbeats 4000000 in
theorem refRight_3 (t : ByteArray) (a f : Int) (s : ByteArray) (r0 r1 r2 r3 : Int) (pp : Option Addr) (path : List Int) (pc : Nat) (ip : Option Addr) (items : List MD) (ic : Nat) (deep : Int) (w : World) (hdp : ¬ 100 < deep) (hF : MD.Fine ⟨3, t, a, f, s, r0, r1, r2, r3, pp, path, pc⟩) :
    Calls Tryd.prog 33 #[.agg #[.int .i64 3, .string t, .int .i64 a, .int .u64 f, .string s, .int .i64 r0, .int .i64 r1, .int .i64 r2, .int .i64 r3, .slice pp path.length pc, .slice ip items.length ic], .int .i64 deep] w fun r w' => r = .returned (.bool (tyB 3 t && plainB false true false false false a f s r0 r1 r2 r3 path.length items.length && (!isNan f.toNat || f == 9221120237041090561))) ∧ Below w.heap.size w w' := by
  obtain ⟨W1, hW1⟩ : ∃ W1, W1 = w.alloc (.cells #[.int .i64 3, .string t, .int .i64 a, .int .u64 f, .string s, .int .i64 r0, .int .i64 r1, .int .i64 r2, .int .i64 r3, .slice pp path.length pc, .slice ip items.length ic] 28) := ⟨_, rfl⟩
  have HK : Hid (∀ W, Below W1.heap.size W1 W → Below w.heap.size w W ∧ ∀ j, W.cell? ⟨w.heap.size, j, none⟩ = (#[.int .i64 3, .string t, .int .i64 a, .int .u64 f, .string s, .int .i64 r0, .int .i64 r1, .int .i64 r2, .int .i64 r3, .slice pp path.length pc, .slice ip items.length ic] : Array Value)[j]?) := fun W hW => by rw [hW1] at hW; exact kept1 hW
  have HB : Hid (Below W1.heap.size W1 W1) := Below.refl _ _
  have CP : Hid (∀ W, Below W1.heap.size W1 W → Calls Tryd.prog 61 #[.agg #[.int .i64 3, .string t, .int .i64 a, .int .u64 f, .string s, .int .i64 r0, .int .i64 r1, .int .i64 r2, .int .i64 r3, .slice pp path.length pc, .slice ip items.length ic], .bool false, .bool true, .bool false, .bool false, .bool false] W fun r w' => r = .returned (.bool (plainB false true false false false a f s r0 r1 r2 r3 path.length items.length)) ∧ Below W1.heap.size W1 w') := fun W hW => (refPlain_f 3 t a f s r0 r1 r2 r3 pp path.length pc ip items.length ic W).mono fun _ _ h => ⟨h.1, hW.trans (h.2.mono hW.size)⟩
  have CT : Hid (∀ W, Below W1.heap.size W1 W → Calls Tryd.prog 62 #[.int .i64 3, .string t] W fun r w' => r = .returned (.bool (tyB 3 t)) ∧ Below W1.heap.size W1 w') := fun W hW => (refTyped_3 t W).mono fun _ _ h => ⟨h.1, hW.trans (h.2.mono hW.size)⟩
  have CN : Hid (∀ W, Below W1.heap.size W1 W → Calls Tryd.prog 46 #[.int .u64 f] W fun r w' => r = .returned (.bool (isNan f.toNat)) ∧ Below W1.heap.size W1 w') := fun W hW => ((refIsNaN_any f W hF.f0 hF.f1).mono (fun r w' (h : r = .returned (.bool (isNan f.toNat)) ∧ w' = W) => (⟨h.1, by rw [h.2]; exact Below.refl _ _⟩ : r = .returned (.bool (isNan f.toNat)) ∧ Below W.heap.size W w'))).mono fun _ _ h => ⟨h.1, hW.trans (h.2.mono hW.size)⟩
  clear hF
  generalize plainB false true false false false a f s r0 r1 r2 r3 path.length items.length = pv at CP ⊢
  generalize tyB 3 t = tv at CT ⊢
  generalize isNan f.toNat = nn at CN ⊢
  cases tv <;> cases pv
  all_goals go_enter Tryd.func33, Tryd.ntmps33
  all_goals go_wp2_with fail
  all_goals rw [← hW1]
  all_goals clear hW1
  all_goals have hc1 := (HK.out _ HB.out).2
  all_goals go_wp2_with (first | (go_at_call 62; refine (CT.out _ HB.out).mono ?_; rintro r w2 ⟨rfl, b2⟩; have hc2 := (HK.out _ b2).2; have HB : Hid (Below W1.heap.size W1 w2) := b2; clear b2) | (go_at_call 46; refine (CN.out _ HB.out).mono ?_; rintro r w4 ⟨rfl, b4⟩; have hc4 := (HK.out _ b4).2; have HB : Hid (Below W1.heap.size W1 w4) := b4; clear b4) | (go_at_call 61; refine (CP.out _ HB.out).mono ?_; rintro r w3 ⟨rfl, b3⟩; have hc3 := (HK.out _ b3).2; have HB : Hid (Below W1.heap.size W1 w3) := b3; clear b3))
  all_goals (go_ret; refine ⟨?_, (HK.out _ HB.out).1⟩; simp_all)

set_option maxRecDepth 100000 in
set_option maxHeartbeats 4000000 in
theorem refRight_4 (t : ByteArray) (a f : Int) (s : ByteArray) (r0 r1 r2 r3 : Int) (pp : Option Addr) (path : List Int) (pc : Nat) (ip : Option Addr) (items : List MD) (ic : Nat) (deep : Int) (w : World) (hdp : ¬ 100 < deep) :
    Calls Tryd.prog 33 #[.agg #[.int .i64 4, .string t, .int .i64 a, .int .u64 f, .string s, .int .i64 r0, .int .i64 r1, .int .i64 r2, .int .i64 r3, .slice pp path.length pc, .slice ip items.length ic], .int .i64 deep] w fun r w' => r = .returned (.bool (tyB 4 t && plainB false false true false false a f s r0 r1 r2 r3 path.length items.length && decide ((s.size : Int) ≤ 65536))) ∧ Below w.heap.size w w' := by
  obtain ⟨W1, hW1⟩ : ∃ W1, W1 = w.alloc (.cells #[.int .i64 4, .string t, .int .i64 a, .int .u64 f, .string s, .int .i64 r0, .int .i64 r1, .int .i64 r2, .int .i64 r3, .slice pp path.length pc, .slice ip items.length ic] 28) := ⟨_, rfl⟩
  have HK : Hid (∀ W, Below W1.heap.size W1 W → Below w.heap.size w W ∧ ∀ j, W.cell? ⟨w.heap.size, j, none⟩ = (#[.int .i64 4, .string t, .int .i64 a, .int .u64 f, .string s, .int .i64 r0, .int .i64 r1, .int .i64 r2, .int .i64 r3, .slice pp path.length pc, .slice ip items.length ic] : Array Value)[j]?) := fun W hW => by rw [hW1] at hW; exact kept1 hW
  have HB : Hid (Below W1.heap.size W1 W1) := Below.refl _ _
  have CP : Hid (∀ W, Below W1.heap.size W1 W → Calls Tryd.prog 61 #[.agg #[.int .i64 4, .string t, .int .i64 a, .int .u64 f, .string s, .int .i64 r0, .int .i64 r1, .int .i64 r2, .int .i64 r3, .slice pp path.length pc, .slice ip items.length ic], .bool false, .bool false, .bool true, .bool false, .bool false] W fun r w' => r = .returned (.bool (plainB false false true false false a f s r0 r1 r2 r3 path.length items.length)) ∧ Below W1.heap.size W1 w') := fun W hW => (refPlain_s 4 t a f s r0 r1 r2 r3 pp path.length pc ip items.length ic W).mono fun _ _ h => ⟨h.1, hW.trans (h.2.mono hW.size)⟩
  have CT : Hid (∀ W, Below W1.heap.size W1 W → Calls Tryd.prog 62 #[.int .i64 4, .string t] W fun r w' => r = .returned (.bool (tyB 4 t)) ∧ Below W1.heap.size W1 w') := fun W hW => (refTyped_4 t W).mono fun _ _ h => ⟨h.1, hW.trans (h.2.mono hW.size)⟩
  generalize plainB false false true false false a f s r0 r1 r2 r3 path.length items.length = pv at CP ⊢
  generalize tyB 4 t = tv at CT ⊢
  cases tv <;> cases pv
  all_goals go_enter Tryd.func33, Tryd.ntmps33
  all_goals go_wp2_with fail
  all_goals rw [← hW1]
  all_goals clear hW1
  all_goals have hc1 := (HK.out _ HB.out).2
  all_goals go_wp2_with (first | (go_at_call 62; refine (CT.out _ HB.out).mono ?_; rintro r w2 ⟨rfl, b2⟩; have hc2 := (HK.out _ b2).2; have HB : Hid (Below W1.heap.size W1 w2) := b2; clear b2) | (go_at_call 61; refine (CP.out _ HB.out).mono ?_; rintro r w3 ⟨rfl, b3⟩; have hc3 := (HK.out _ b3).2; have HB : Hid (Below W1.heap.size W1 w3) := b3; clear b3))
  all_goals (go_ret; refine ⟨?_, (HK.out _ HB.out).1⟩; simp_all)

set_option maxRecDepth 100000 in
set_option maxHeartbeats 4000000 in
theorem refRight_5 (t : ByteArray) (a f : Int) (s : ByteArray) (r0 r1 r2 r3 : Int) (pp : Option Addr) (path : List Int) (pc : Nat) (ip : Option Addr) (items : List MD) (ic : Nat) (deep : Int) (w : World) (hdp : ¬ 100 < deep) (hF : MD.Fine ⟨5, t, a, f, s, r0, r1, r2, r3, pp, path, pc⟩) (hP : MD.PathIn w.heap.size w ⟨5, t, a, f, s, r0, r1, r2, r3, pp, path, pc⟩) :
    Calls Tryd.prog 33 #[.agg #[.int .i64 5, .string t, .int .i64 a, .int .u64 f, .string s, .int .i64 r0, .int .i64 r1, .int .i64 r2, .int .i64 r3, .slice pp path.length pc, .slice ip items.length ic], .int .i64 deep] w fun r w' => r = .returned (.bool (tyB 5 t && plainB false false false true false a f s r0 r1 r2 r3 path.length items.length && leadsB 5 r0 r1 r2 r3 path)) ∧ Below w.heap.size w w' := by
  obtain ⟨W1, hW1⟩ : ∃ W1, W1 = w.alloc (.cells #[.int .i64 5, .string t, .int .i64 a, .int .u64 f, .string s, .int .i64 r0, .int .i64 r1, .int .i64 r2, .int .i64 r3, .slice pp path.length pc, .slice ip items.length ic] 28) := ⟨_, rfl⟩
  have HK : Hid (∀ W, Below W1.heap.size W1 W → Below w.heap.size w W ∧ ∀ j, W.cell? ⟨w.heap.size, j, none⟩ = (#[.int .i64 5, .string t, .int .i64 a, .int .u64 f, .string s, .int .i64 r0, .int .i64 r1, .int .i64 r2, .int .i64 r3, .slice pp path.length pc, .slice ip items.length ic] : Array Value)[j]?) := fun W hW => by rw [hW1] at hW; exact kept1 hW
  have HB : Hid (Below W1.heap.size W1 W1) := Below.refl _ _
  have CP : Hid (∀ W, Below W1.heap.size W1 W → Calls Tryd.prog 61 #[.agg #[.int .i64 5, .string t, .int .i64 a, .int .u64 f, .string s, .int .i64 r0, .int .i64 r1, .int .i64 r2, .int .i64 r3, .slice pp path.length pc, .slice ip items.length ic], .bool false, .bool false, .bool false, .bool true, .bool false] W fun r w' => r = .returned (.bool (plainB false false false true false a f s r0 r1 r2 r3 path.length items.length)) ∧ Below W1.heap.size W1 w') := fun W hW => (refPlain_r 5 t a f s r0 r1 r2 r3 pp path.length pc ip items.length ic W).mono fun _ _ h => ⟨h.1, hW.trans (h.2.mono hW.size)⟩
  have CT : Hid (∀ W, Below W1.heap.size W1 W → Calls Tryd.prog 62 #[.int .i64 5, .string t] W fun r w' => r = .returned (.bool (tyB 5 t)) ∧ Below W1.heap.size W1 w') := fun W hW => (refTyped_5 t W).mono fun _ _ h => ⟨h.1, hW.trans (h.2.mono hW.size)⟩
  have CL : Hid (∀ W, Below W1.heap.size W1 W → Calls Tryd.prog 63 #[.int .i64 5, .agg #[.int .i64 r0, .int .i64 r1, .int .i64 r2, .int .i64 r3, .slice pp path.length pc]] W fun r w' => r = .returned (.bool (leadsB 5 r0 r1 r2 r3 path)) ∧ Below W1.heap.size W1 w') := fun W hW => (refLeads_5 r0 r1 r2 r3 pp path pc W hF.a0 hF.a1 (Nat.le_trans hF.pl hF.pm) (hP.later (Nat.le_refl _) (HK.out W hW).1).2).mono fun _ _ h => ⟨h.1, hW.trans (h.2.mono hW.size)⟩
  clear hF hP
  generalize plainB false false false true false a f s r0 r1 r2 r3 path.length items.length = pv at CP ⊢
  generalize tyB 5 t = tv at CT ⊢
  generalize leadsB 5 r0 r1 r2 r3 path = lv at CL ⊢
  cases tv <;> cases pv
  all_goals go_enter Tryd.func33, Tryd.ntmps33
  all_goals go_wp2_with fail
  all_goals rw [← hW1]
  all_goals clear hW1
  all_goals have hc1 := (HK.out _ HB.out).2
  all_goals go_wp2_with (first | (go_at_call 62; refine (CT.out _ HB.out).mono ?_; rintro r w2 ⟨rfl, b2⟩; have hc2 := (HK.out _ b2).2; have HB : Hid (Below W1.heap.size W1 w2) := b2; clear b2) | (go_at_call 63; refine (CL.out _ HB.out).mono ?_; rintro r w5 ⟨rfl, b5⟩; have hc5 := (HK.out _ b5).2; have HB : Hid (Below W1.heap.size W1 w5) := b5; clear b5) | (go_at_call 61; refine (CP.out _ HB.out).mono ?_; rintro r w3 ⟨rfl, b3⟩; have hc3 := (HK.out _ b3).2; have HB : Hid (Below W1.heap.size W1 w3) := b3; clear b3))
  all_goals (go_ret; refine ⟨?_, (HK.out _ HB.out).1⟩; simp_all)

set_option maxRecDepth 100000 in
set_option maxHeartbeats 4000000 in
theorem refRight_6 (t : ByteArray) (a f : Int) (s : ByteArray) (r0 r1 r2 r3 : Int) (pp : Option Addr) (path : List Int) (pc : Nat) (ip : Option Addr) (items : List MD) (ic : Nat) (deep : Int) (w : World) (hdp : ¬ 100 < deep) (hF : MD.Fine ⟨6, t, a, f, s, r0, r1, r2, r3, pp, path, pc⟩) (hP : MD.PathIn w.heap.size w ⟨6, t, a, f, s, r0, r1, r2, r3, pp, path, pc⟩) :
    Calls Tryd.prog 33 #[.agg #[.int .i64 6, .string t, .int .i64 a, .int .u64 f, .string s, .int .i64 r0, .int .i64 r1, .int .i64 r2, .int .i64 r3, .slice pp path.length pc, .slice ip items.length ic], .int .i64 deep] w fun r w' => r = .returned (.bool (tyB 6 t && plainB false false false true false a f s r0 r1 r2 r3 path.length items.length && leadsB 6 r0 r1 r2 r3 path)) ∧ Below w.heap.size w w' := by
  obtain ⟨W1, hW1⟩ : ∃ W1, W1 = w.alloc (.cells #[.int .i64 6, .string t, .int .i64 a, .int .u64 f, .string s, .int .i64 r0, .int .i64 r1, .int .i64 r2, .int .i64 r3, .slice pp path.length pc, .slice ip items.length ic] 28) := ⟨_, rfl⟩
  have HK : Hid (∀ W, Below W1.heap.size W1 W → Below w.heap.size w W ∧ ∀ j, W.cell? ⟨w.heap.size, j, none⟩ = (#[.int .i64 6, .string t, .int .i64 a, .int .u64 f, .string s, .int .i64 r0, .int .i64 r1, .int .i64 r2, .int .i64 r3, .slice pp path.length pc, .slice ip items.length ic] : Array Value)[j]?) := fun W hW => by rw [hW1] at hW; exact kept1 hW
  have HB : Hid (Below W1.heap.size W1 W1) := Below.refl _ _
  have CP : Hid (∀ W, Below W1.heap.size W1 W → Calls Tryd.prog 61 #[.agg #[.int .i64 6, .string t, .int .i64 a, .int .u64 f, .string s, .int .i64 r0, .int .i64 r1, .int .i64 r2, .int .i64 r3, .slice pp path.length pc, .slice ip items.length ic], .bool false, .bool false, .bool false, .bool true, .bool false] W fun r w' => r = .returned (.bool (plainB false false false true false a f s r0 r1 r2 r3 path.length items.length)) ∧ Below W1.heap.size W1 w') := fun W hW => (refPlain_r 6 t a f s r0 r1 r2 r3 pp path.length pc ip items.length ic W).mono fun _ _ h => ⟨h.1, hW.trans (h.2.mono hW.size)⟩
  have CT : Hid (∀ W, Below W1.heap.size W1 W → Calls Tryd.prog 62 #[.int .i64 6, .string t] W fun r w' => r = .returned (.bool (tyB 6 t)) ∧ Below W1.heap.size W1 w') := fun W hW => (refTyped_6 t W).mono fun _ _ h => ⟨h.1, hW.trans (h.2.mono hW.size)⟩
  have CL : Hid (∀ W, Below W1.heap.size W1 W → Calls Tryd.prog 63 #[.int .i64 6, .agg #[.int .i64 r0, .int .i64 r1, .int .i64 r2, .int .i64 r3, .slice pp path.length pc]] W fun r w' => r = .returned (.bool (leadsB 6 r0 r1 r2 r3 path)) ∧ Below W1.heap.size W1 w') := fun W hW => (refLeads_6 r0 r1 r2 r3 pp path pc W hF.a0 hF.a1 (Nat.le_trans hF.pl hF.pm) (hP.later (Nat.le_refl _) (HK.out W hW).1).2).mono fun _ _ h => ⟨h.1, hW.trans (h.2.mono hW.size)⟩
  clear hF hP
  generalize plainB false false false true false a f s r0 r1 r2 r3 path.length items.length = pv at CP ⊢
  generalize tyB 6 t = tv at CT ⊢
  generalize leadsB 6 r0 r1 r2 r3 path = lv at CL ⊢
  cases tv <;> cases pv
  all_goals go_enter Tryd.func33, Tryd.ntmps33
  all_goals go_wp2_with fail
  all_goals rw [← hW1]
  all_goals clear hW1
  all_goals have hc1 := (HK.out _ HB.out).2
  all_goals go_wp2_with (first | (go_at_call 62; refine (CT.out _ HB.out).mono ?_; rintro r w2 ⟨rfl, b2⟩; have hc2 := (HK.out _ b2).2; have HB : Hid (Below W1.heap.size W1 w2) := b2; clear b2) | (go_at_call 63; refine (CL.out _ HB.out).mono ?_; rintro r w5 ⟨rfl, b5⟩; have hc5 := (HK.out _ b5).2; have HB : Hid (Below W1.heap.size W1 w5) := b5; clear b5) | (go_at_call 61; refine (CP.out _ HB.out).mono ?_; rintro r w3 ⟨rfl, b3⟩; have hc3 := (HK.out _ b3).2; have HB : Hid (Below W1.heap.size W1 w3) := b3; clear b3))
  all_goals (go_ret; refine ⟨?_, (HK.out _ HB.out).1⟩; simp_all)

set_option maxRecDepth 100000 in
set_option maxHeartbeats 4000000 in
theorem refRight_7 (t : ByteArray) (a f : Int) (s : ByteArray) (r0 r1 r2 r3 : Int) (pp : Option Addr) (path : List Int) (pc : Nat) (ip : Option Addr) (items : List MD) (ic : Nat) (deep : Int) (w : World) (hdp : ¬ 100 < deep) (hF : MD.Fine ⟨7, t, a, f, s, r0, r1, r2, r3, pp, path, pc⟩) (hP : MD.PathIn w.heap.size w ⟨7, t, a, f, s, r0, r1, r2, r3, pp, path, pc⟩) :
    Calls Tryd.prog 33 #[.agg #[.int .i64 7, .string t, .int .i64 a, .int .u64 f, .string s, .int .i64 r0, .int .i64 r1, .int .i64 r2, .int .i64 r3, .slice pp path.length pc, .slice ip items.length ic], .int .i64 deep] w fun r w' => r = .returned (.bool (tyB 7 t && plainB false false false true false a f s r0 r1 r2 r3 path.length items.length && leadsB 7 r0 r1 r2 r3 path)) ∧ Below w.heap.size w w' := by
  obtain ⟨W1, hW1⟩ : ∃ W1, W1 = w.alloc (.cells #[.int .i64 7, .string t, .int .i64 a, .int .u64 f, .string s, .int .i64 r0, .int .i64 r1, .int .i64 r2, .int .i64 r3, .slice pp path.length pc, .slice ip items.length ic] 28) := ⟨_, rfl⟩
  have HK : Hid (∀ W, Below W1.heap.size W1 W → Below w.heap.size w W ∧ ∀ j, W.cell? ⟨w.heap.size, j, none⟩ = (#[.int .i64 7, .string t, .int .i64 a, .int .u64 f, .string s, .int .i64 r0, .int .i64 r1, .int .i64 r2, .int .i64 r3, .slice pp path.length pc, .slice ip items.length ic] : Array Value)[j]?) := fun W hW => by rw [hW1] at hW; exact kept1 hW
  have HB : Hid (Below W1.heap.size W1 W1) := Below.refl _ _
  have CP : Hid (∀ W, Below W1.heap.size W1 W → Calls Tryd.prog 61 #[.agg #[.int .i64 7, .string t, .int .i64 a, .int .u64 f, .string s, .int .i64 r0, .int .i64 r1, .int .i64 r2, .int .i64 r3, .slice pp path.length pc, .slice ip items.length ic], .bool false, .bool false, .bool false, .bool true, .bool false] W fun r w' => r = .returned (.bool (plainB false false false true false a f s r0 r1 r2 r3 path.length items.length)) ∧ Below W1.heap.size W1 w') := fun W hW => (refPlain_r 7 t a f s r0 r1 r2 r3 pp path.length pc ip items.length ic W).mono fun _ _ h => ⟨h.1, hW.trans (h.2.mono hW.size)⟩
  have CT : Hid (∀ W, Below W1.heap.size W1 W → Calls Tryd.prog 62 #[.int .i64 7, .string t] W fun r w' => r = .returned (.bool (tyB 7 t)) ∧ Below W1.heap.size W1 w') := fun W hW => (refTyped_7 t W).mono fun _ _ h => ⟨h.1, hW.trans (h.2.mono hW.size)⟩
  have CL : Hid (∀ W, Below W1.heap.size W1 W → Calls Tryd.prog 63 #[.int .i64 7, .agg #[.int .i64 r0, .int .i64 r1, .int .i64 r2, .int .i64 r3, .slice pp path.length pc]] W fun r w' => r = .returned (.bool (leadsB 7 r0 r1 r2 r3 path)) ∧ Below W1.heap.size W1 w') := fun W hW => (refLeads_7 r0 r1 r2 r3 pp path pc W hF.a0 hF.a1 (Nat.le_trans hF.pl hF.pm) (hP.later (Nat.le_refl _) (HK.out W hW).1).2).mono fun _ _ h => ⟨h.1, hW.trans (h.2.mono hW.size)⟩
  clear hF hP
  generalize plainB false false false true false a f s r0 r1 r2 r3 path.length items.length = pv at CP ⊢
  generalize tyB 7 t = tv at CT ⊢
  generalize leadsB 7 r0 r1 r2 r3 path = lv at CL ⊢
  cases tv <;> cases pv
  all_goals go_enter Tryd.func33, Tryd.ntmps33
  all_goals go_wp2_with fail
  all_goals rw [← hW1]
  all_goals clear hW1
  all_goals have hc1 := (HK.out _ HB.out).2
  all_goals go_wp2_with (first | (go_at_call 62; refine (CT.out _ HB.out).mono ?_; rintro r w2 ⟨rfl, b2⟩; have hc2 := (HK.out _ b2).2; have HB : Hid (Below W1.heap.size W1 w2) := b2; clear b2) | (go_at_call 63; refine (CL.out _ HB.out).mono ?_; rintro r w5 ⟨rfl, b5⟩; have hc5 := (HK.out _ b5).2; have HB : Hid (Below W1.heap.size W1 w5) := b5; clear b5) | (go_at_call 61; refine (CP.out _ HB.out).mono ?_; rintro r w3 ⟨rfl, b3⟩; have hc3 := (HK.out _ b3).2; have HB : Hid (Below W1.heap.size W1 w3) := b3; clear b3))
  all_goals (go_ret; refine ⟨?_, (HK.out _ HB.out).1⟩; simp_all)

set_option maxRecDepth 100000 in
set_option maxHeartbeats 4000000 in
theorem refRight_9 (t : ByteArray) (a f : Int) (s : ByteArray) (r0 r1 r2 r3 : Int) (pp : Option Addr) (path : List Int) (pc : Nat) (ip : Option Addr) (items : List MD) (ic : Nat) (deep : Int) (w : World) (hdp : ¬ 100 < deep) (hF : MD.Fine ⟨9, t, a, f, s, r0, r1, r2, r3, pp, path, pc⟩) (hP : MD.PathIn w.heap.size w ⟨9, t, a, f, s, r0, r1, r2, r3, pp, path, pc⟩) :
    Calls Tryd.prog 33 #[.agg #[.int .i64 9, .string t, .int .i64 a, .int .u64 f, .string s, .int .i64 r0, .int .i64 r1, .int .i64 r2, .int .i64 r3, .slice pp path.length pc, .slice ip items.length ic], .int .i64 deep] w fun r w' => r = .returned (.bool (declB t && plainB false false false true false a f s r0 r1 r2 r3 path.length items.length && leadsB 9 r0 r1 r2 r3 path)) ∧ Below w.heap.size w w' := by
  obtain ⟨W1, hW1⟩ : ∃ W1, W1 = w.alloc (.cells #[.int .i64 9, .string t, .int .i64 a, .int .u64 f, .string s, .int .i64 r0, .int .i64 r1, .int .i64 r2, .int .i64 r3, .slice pp path.length pc, .slice ip items.length ic] 28) := ⟨_, rfl⟩
  have HK : Hid (∀ W, Below W1.heap.size W1 W → Below w.heap.size w W ∧ ∀ j, W.cell? ⟨w.heap.size, j, none⟩ = (#[.int .i64 9, .string t, .int .i64 a, .int .u64 f, .string s, .int .i64 r0, .int .i64 r1, .int .i64 r2, .int .i64 r3, .slice pp path.length pc, .slice ip items.length ic] : Array Value)[j]?) := fun W hW => by rw [hW1] at hW; exact kept1 hW
  have HB : Hid (Below W1.heap.size W1 W1) := Below.refl _ _
  have CP : Hid (∀ W, Below W1.heap.size W1 W → Calls Tryd.prog 61 #[.agg #[.int .i64 9, .string t, .int .i64 a, .int .u64 f, .string s, .int .i64 r0, .int .i64 r1, .int .i64 r2, .int .i64 r3, .slice pp path.length pc, .slice ip items.length ic], .bool false, .bool false, .bool false, .bool true, .bool false] W fun r w' => r = .returned (.bool (plainB false false false true false a f s r0 r1 r2 r3 path.length items.length)) ∧ Below W1.heap.size W1 w') := fun W hW => (refPlain_r 9 t a f s r0 r1 r2 r3 pp path.length pc ip items.length ic W).mono fun _ _ h => ⟨h.1, hW.trans (h.2.mono hW.size)⟩
  have CT : Hid (∀ W, Below W1.heap.size W1 W → Calls Tryd.prog 65 #[.string t] W fun r w' => r = .returned (.bool (declB t)) ∧ Below W1.heap.size W1 w') := fun W hW => (refDeclared_any t W).mono fun _ _ h => ⟨h.1, hW.trans (h.2.mono hW.size)⟩
  have CL : Hid (∀ W, Below W1.heap.size W1 W → Calls Tryd.prog 63 #[.int .i64 9, .agg #[.int .i64 r0, .int .i64 r1, .int .i64 r2, .int .i64 r3, .slice pp path.length pc]] W fun r w' => r = .returned (.bool (leadsB 9 r0 r1 r2 r3 path)) ∧ Below W1.heap.size W1 w') := fun W hW => (refLeads_9 r0 r1 r2 r3 pp path pc W hF.a0 hF.a1 (Nat.le_trans hF.pl hF.pm) (hP.later (Nat.le_refl _) (HK.out W hW).1).2).mono fun _ _ h => ⟨h.1, hW.trans (h.2.mono hW.size)⟩
  clear hF hP
  generalize plainB false false false true false a f s r0 r1 r2 r3 path.length items.length = pv at CP ⊢
  generalize declB t = tv at CT ⊢
  generalize leadsB 9 r0 r1 r2 r3 path = lv at CL ⊢
  cases tv <;> cases pv
  all_goals go_enter Tryd.func33, Tryd.ntmps33
  all_goals go_wp2_with fail
  all_goals rw [← hW1]
  all_goals clear hW1
  all_goals have hc1 := (HK.out _ HB.out).2
  all_goals go_wp2_with (first | (go_at_call 65; refine (CT.out _ HB.out).mono ?_; rintro r w2 ⟨rfl, b2⟩; have hc2 := (HK.out _ b2).2; have HB : Hid (Below W1.heap.size W1 w2) := b2; clear b2) | (go_at_call 63; refine (CL.out _ HB.out).mono ?_; rintro r w5 ⟨rfl, b5⟩; have hc5 := (HK.out _ b5).2; have HB : Hid (Below W1.heap.size W1 w5) := b5; clear b5) | (go_at_call 61; refine (CP.out _ HB.out).mono ?_; rintro r w3 ⟨rfl, b3⟩; have hc3 := (HK.out _ b3).2; have HB : Hid (Below W1.heap.size W1 w3) := b3; clear b3))
  all_goals (go_ret; refine ⟨?_, (HK.out _ HB.out).1⟩; simp_all)
end Go.Proofs.YtnhbpcmiolkllaaDoor
