/-
  The document's own Binary, of ints, texts and floats.
-/
import Derived.Test.YtoplmbboaobahaaDoorBg
import Derived.Test.YtoplmbboaobahaaDoorDg
import Derived.Test.YtoplmbboaobahaaDoorZ
namespace Go.Proofs.YtoplmbboaobahaaDoor
open Go.RowKit
attribute [local go_sem] refold2 cell3_0 cell3_1 cell4_0 cell4_1 cell4_2 frozen4_1 frozen4_2 b28_0 b28_01 b28_012 b28_013 b28_014 b35_01 b35_0 b35 mkI69 x56 x57

set_option maxRecDepth 100000 in
set_option maxHeartbeats 8000000 in
theorem refBinary_int (u : ByteArray) (t : ByteArray) (a f : Int) (s : ByteArray) (r0 r1 r2 r3 : Int) (p i : Value) (b f2 : Int) (s2 : ByteArray) (q0 q1 q2 q3 : Int) (p2 i2 : Value) (w : World) (x0 y0 z0 : Bool) (HO : Hid (∀ W, Calls Tryd.prog 47 #[D 2 t a f s r0 r1 r2 r3 p i, D 2 t b f2 s2 q0 q1 q2 q3 p2 i2] W fun r w' => r = .returned (.tuple #[.bool x0, .bool y0, .bool z0]) ∧ Below W.heap.size W w')) (hc : NoCmp u) (n : Int) (HI : Hid (∀ W, Calls Tryd.prog 50 #[.string u, .int .i64 a, .int .i64 b] W fun r w' => r = .returned (.tuple #[.int .i64 n, .agg #[.string ⟨#[]⟩, .string ⟨#[]⟩], .bool true]) ∧ Below W.heap.size W w'))  :
    Calls Tryd.prog 16 #[.string u, D 2 t a f s r0 r1 r2 r3 p i, D 2 t b f2 s2 q0 q1 q2 q3 p2 i2] w fun r w' => r = .returned (.tuple #[.agg #[.int .i64 2, .string t, .int .i64 n, .int .u64 0, .string ⟨#[]⟩, .int .i64 0, .int .i64 0, .int .i64 0, .int .i64 0, .slice none 0 0, .slice none 0 0], .agg #[.string ⟨#[]⟩, .string ⟨#[]⟩]]) ∧ Below w.heap.size w w' := by
  have HW : Hid (∀ W, Calls Tryd.prog 48 #[.string u, .bool x0, .bool y0, .bool z0] W fun r w' => r = .returned (.tuple #[.bool false, .bool false]) ∧ w' = W) := fun W => whether_none u x0 y0 z0 W hc.n1 hc.n2 hc.n3 hc.n4
  clear hc
  simp only [D] at HO ⊢
  go_enter Tryd.func16, Tryd.ntmps16
  go_wp2_with fail
  refine (HO.out _).mono ?_
  rintro r w1 ⟨rfl, b1⟩
  obtain ⟨ea, eb, R2, R3, z⟩ := four_kept _ _ _ _ b1
  have za : w.heap.size < w1.heap.size := by omega
  have zb : w.heap.size + 1 < w1.heap.size := by omega
  have zc : w.heap.size + 1 + 1 < w1.heap.size := by omega
  go_wp2_with fail
  refine (HW.out _).mono ?_
  rintro r w1 ⟨rfl, rfl⟩
  go_wp2_with fail
  refine (HI.out _).mono ?_
  rintro r w2 ⟨rfl, b2⟩
  clear ea eb R2 R3
  have c12 := bnext b1 b1.size b2
  have RO := (b2.block w1.heap.size (by simp)).trans (heap_alloc_new _ _)
  have oc : ∀ j, w2.cell? ⟨w1.heap.size, j, none⟩ = (#[.int .i64 2, .string t, .int .i64 0, .int .u64 0, .string ⟨#[]⟩, .int .i64 0, .int .i64 0, .int .i64 0, .int .i64 0, .slice none 0 0, .slice none 0 0] : Array Value)[j]? := fun j => by unfold World.cell?; rw [RO]; rfl
  have of : ∀ j, w2.frozen? ⟨w1.heap.size, j, none⟩ = false := fun j => fz _ _ _ _ j RO
  clear RO
  obtain ⟨ea, eb, R2, R3, yd⟩ := four_kept _ _ _ _ c12
  obtain ⟨⟨c0, c1, c2, c3, c4, c5, c6, c7, c8, c9, c10⟩, hf2⟩ := box_kept R2.out
  obtain ⟨g0, g1, gf⟩ := box35_kept R3.out
  clear R2 R3
  have ya : w.heap.size < w2.heap.size := by omega
  have yb : w.heap.size + 1 < w2.heap.size := by omega
  have yc : w.heap.size + 1 + 1 < w2.heap.size := by omega
  have yo : w1.heap.size < w2.heap.size := by have := b2.size; simp at this; omega
  have n2 : w.heap.size + 1 + 1 ≠ w1.heap.size := by omega
  have n3 : w.heap.size + 1 + 1 + 1 ≠ w1.heap.size := by omega
  have n2' : w1.heap.size ≠ w.heap.size + 1 + 1 := by omega
  have n3' : w1.heap.size ≠ w.heap.size + 1 + 1 + 1 := by omega
  go_wp2_with fail
  refine bodyPost_ret (v := .tuple #[.agg #[.int .i64 2, .string t, .int .i64 n, .int .u64 0, .string ⟨#[]⟩, .int .i64 0, .int .i64 0, .int .i64 0, .int .i64 0, .slice none 0 0, .slice none 0 0], .agg #[.string ⟨#[]⟩, .string ⟨#[]⟩]]) (by simp [results, Tryd.results16, go_sem, c0, c1, c2, c3, c4, c5, c6, c7, c8, c9, c10, g0, g1, yc, yd]) rfl ⟨rfl, ?_⟩
  exact (((bset (((below4 w _ _ _ _).trans (c12.mono (by simp; omega))).setCell (by show _ ≤ _; simp; omega) _) (by omega : w.heap.size ≤ w.heap.size + 1 + 1) _ _ _ _ _ _ _ _ _ _ _).setCell (by show _ ≤ _; simp; omega) _).setCell (by show _ ≤ _; simp; omega) _).alloc (by simp; omega) _

set_option maxRecDepth 100000 in
set_option maxHeartbeats 8000000 in
theorem refBinary_ifault (u : ByteArray) (t : ByteArray) (a f : Int) (s : ByteArray) (r0 r1 r2 r3 : Int) (p i : Value) (b f2 : Int) (s2 : ByteArray) (q0 q1 q2 q3 : Int) (p2 i2 : Value) (w : World) (x0 y0 z0 : Bool) (HO : Hid (∀ W, Calls Tryd.prog 47 #[D 2 t a f s r0 r1 r2 r3 p i, D 2 t b f2 s2 q0 q1 q2 q3 p2 i2] W fun r w' => r = .returned (.tuple #[.bool x0, .bool y0, .bool z0]) ∧ Below W.heap.size W w')) (hc : NoCmp u) (n : Int) (y x : ByteArray) (hy : (y.toList == []) = false) (HI : Hid (∀ W, Calls Tryd.prog 50 #[.string u, .int .i64 a, .int .i64 b] W fun r w' => r = .returned (.tuple #[.int .i64 n, .agg #[.string y, .string x], .bool true]) ∧ Below W.heap.size W w'))  :
    Calls Tryd.prog 16 #[.string u, D 2 t a f s r0 r1 r2 r3 p i, D 2 t b f2 s2 q0 q1 q2 q3 p2 i2] w fun r w' => r = .returned (.tuple #[.agg #[.int .i64 0, .string ⟨#[]⟩, .int .i64 0, .int .u64 0, .string ⟨#[]⟩, .int .i64 0, .int .i64 0, .int .i64 0, .int .i64 0, .slice none 0 0, .slice none 0 0], .agg #[.string y, .string x]]) ∧ Below w.heap.size w w' := by
  have HW : Hid (∀ W, Calls Tryd.prog 48 #[.string u, .bool x0, .bool y0, .bool z0] W fun r w' => r = .returned (.tuple #[.bool false, .bool false]) ∧ w' = W) := fun W => whether_none u x0 y0 z0 W hc.n1 hc.n2 hc.n3 hc.n4
  clear hc
  simp only [D] at HO ⊢
  go_enter Tryd.func16, Tryd.ntmps16
  go_wp2_with fail
  refine (HO.out _).mono ?_
  rintro r w1 ⟨rfl, b1⟩
  obtain ⟨ea, eb, R2, R3, z⟩ := four_kept _ _ _ _ b1
  have za : w.heap.size < w1.heap.size := by omega
  have zb : w.heap.size + 1 < w1.heap.size := by omega
  have zc : w.heap.size + 1 + 1 < w1.heap.size := by omega
  go_wp2_with fail
  refine (HW.out _).mono ?_
  rintro r w1 ⟨rfl, rfl⟩
  go_wp2_with fail
  refine (HI.out _).mono ?_
  rintro r w2 ⟨rfl, b2⟩
  clear ea eb R2 R3
  have c12 := bnext b1 b1.size b2
  have RO := (b2.block w1.heap.size (by simp)).trans (heap_alloc_new _ _)
  have oc : ∀ j, w2.cell? ⟨w1.heap.size, j, none⟩ = (#[.int .i64 2, .string t, .int .i64 0, .int .u64 0, .string ⟨#[]⟩, .int .i64 0, .int .i64 0, .int .i64 0, .int .i64 0, .slice none 0 0, .slice none 0 0] : Array Value)[j]? := fun j => by unfold World.cell?; rw [RO]; rfl
  have of : ∀ j, w2.frozen? ⟨w1.heap.size, j, none⟩ = false := fun j => fz _ _ _ _ j RO
  clear RO
  obtain ⟨ea, eb, R2, R3, yd⟩ := four_kept _ _ _ _ c12
  obtain ⟨⟨c0, c1, c2, c3, c4, c5, c6, c7, c8, c9, c10⟩, hf2⟩ := box_kept R2.out
  obtain ⟨g0, g1, gf⟩ := box35_kept R3.out
  clear R2 R3
  have ya : w.heap.size < w2.heap.size := by omega
  have yb : w.heap.size + 1 < w2.heap.size := by omega
  have yc : w.heap.size + 1 + 1 < w2.heap.size := by omega
  have yo : w1.heap.size < w2.heap.size := by have := b2.size; simp at this; omega
  have n2 : w.heap.size + 1 + 1 ≠ w1.heap.size := by omega
  have n3 : w.heap.size + 1 + 1 + 1 ≠ w1.heap.size := by omega
  have n2' : w1.heap.size ≠ w.heap.size + 1 + 1 := by omega
  have n3' : w1.heap.size ≠ w.heap.size + 1 + 1 + 1 := by omega
  go_wp2_with fail
  go_region
  go_wp2_with fail
  refine bodyPost_ret (v := .tuple #[.agg #[.int .i64 0, .string ⟨#[]⟩, .int .i64 0, .int .u64 0, .string ⟨#[]⟩, .int .i64 0, .int .i64 0, .int .i64 0, .int .i64 0, .slice none 0 0, .slice none 0 0], .agg #[.string y, .string x]]) (by simp [results, Tryd.results16, go_sem, c0, c1, c2, c3, c4, c5, c6, c7, c8, c9, c10, g0, g1, yc, yd]) rfl ⟨rfl, ?_⟩
  exact ((((bset ((below4 w _ _ _ _).trans (c12.mono (by simp; omega))) (by omega : w.heap.size ≤ w.heap.size + 1 + 1) _ _ _ _ _ _ _ _ _ _ _).setCell (by show _ ≤ _; simp; omega) _).setCell (by show _ ≤ _; simp; omega) _).alloc (by simp; omega) _).drew

set_option maxRecDepth 100000 in
set_option maxHeartbeats 8000000 in
theorem refBinary_inone (u : ByteArray) (t : ByteArray) (a f : Int) (s : ByteArray) (r0 r1 r2 r3 : Int) (p i : Value) (b f2 : Int) (s2 : ByteArray) (q0 q1 q2 q3 : Int) (p2 i2 : Value) (w : World) (ht : t.size ≤ 140737488351232) (hu : u.size ≤ 140737488351232) (x0 y0 z0 : Bool) (HO : Hid (∀ W, Calls Tryd.prog 47 #[D 2 t a f s r0 r1 r2 r3 p i, D 2 t b f2 s2 q0 q1 q2 q3 p2 i2] W fun r w' => r = .returned (.tuple #[.bool x0, .bool y0, .bool z0]) ∧ Below W.heap.size W w')) (hc : NoCmp u) (n : Int) (HI : Hid (∀ W, Calls Tryd.prog 50 #[.string u, .int .i64 a, .int .i64 b] W fun r w' => r = .returned (.tuple #[.int .i64 n, .agg #[.string ⟨#[]⟩, .string ⟨#[]⟩], .bool false]) ∧ Below W.heap.size W w'))  :
    Calls Tryd.prog 16 #[.string u, D 2 t a f s r0 r1 r2 r3 p i, D 2 t b f2 s2 q0 q1 q2 q3 p2 i2] w fun r w' => r = .returned (.tuple #[.agg #[.int .i64 0, .string ⟨#[]⟩, .int .i64 0, .int .u64 0, .string ⟨#[]⟩, .int .i64 0, .int .i64 0, .int .i64 0, .int .i64 0, .slice none 0 0, .slice none 0 0], .agg #[.string ⟨#[111, 112, 101, 114, 97, 110, 100]⟩, .string (opd2 u 2 t 2 t)]]) ∧ Below w.heap.size w w' := by
  have HW : Hid (∀ W, Calls Tryd.prog 48 #[.string u, .bool x0, .bool y0, .bool z0] W fun r w' => r = .returned (.tuple #[.bool false, .bool false]) ∧ w' = W) := fun W => whether_none u x0 y0 z0 W hc.n1 hc.n2 hc.n3 hc.n4
  have HU : Hid (∀ W, Calls Tryd.prog 46 #[.string u, D 2 t a f s r0 r1 r2 r3 p i, D 2 t b f2 s2 q0 q1 q2 q3 p2 i2] W fun r w' => r = .returned (.agg #[.string ⟨#[111, 112, 101, 114, 97, 110, 100]⟩, .string (opd2 u 2 t 2 t)]) ∧ Below W.heap.size W w') := fun W => refWrong_any u 2 t a f s r0 r1 r2 r3 p i 2 t b f2 s2 q0 q1 q2 q3 p2 i2 W ht ht hu
  generalize opd2 u 2 t 2 t = x at HU ⊢
  clear hc ht hu
  simp only [D] at HO HU ⊢
  go_enter Tryd.func16, Tryd.ntmps16
  go_wp2_with fail
  refine (HO.out _).mono ?_
  rintro r w1 ⟨rfl, b1⟩
  obtain ⟨ea, eb, R2, R3, z⟩ := four_kept _ _ _ _ b1
  have za : w.heap.size < w1.heap.size := by omega
  have zb : w.heap.size + 1 < w1.heap.size := by omega
  have zc : w.heap.size + 1 + 1 < w1.heap.size := by omega
  go_wp2_with fail
  refine (HW.out _).mono ?_
  rintro r w1 ⟨rfl, rfl⟩
  go_wp2_with fail
  refine (HI.out _).mono ?_
  rintro r w2 ⟨rfl, b2⟩
  clear ea eb R2 R3
  have c12 := bnext b1 b1.size b2
  have RO := (b2.block w1.heap.size (by simp)).trans (heap_alloc_new _ _)
  have oc : ∀ j, w2.cell? ⟨w1.heap.size, j, none⟩ = (#[.int .i64 2, .string t, .int .i64 0, .int .u64 0, .string ⟨#[]⟩, .int .i64 0, .int .i64 0, .int .i64 0, .int .i64 0, .slice none 0 0, .slice none 0 0] : Array Value)[j]? := fun j => by unfold World.cell?; rw [RO]; rfl
  have of : ∀ j, w2.frozen? ⟨w1.heap.size, j, none⟩ = false := fun j => fz _ _ _ _ j RO
  clear RO
  obtain ⟨ea, eb, R2, R3, yd⟩ := four_kept _ _ _ _ c12
  obtain ⟨⟨c0, c1, c2, c3, c4, c5, c6, c7, c8, c9, c10⟩, hf2⟩ := box_kept R2.out
  obtain ⟨g0, g1, gf⟩ := box35_kept R3.out
  clear R2 R3
  have ya : w.heap.size < w2.heap.size := by omega
  have yb : w.heap.size + 1 < w2.heap.size := by omega
  have yc : w.heap.size + 1 + 1 < w2.heap.size := by omega
  have yo : w1.heap.size < w2.heap.size := by have := b2.size; simp at this; omega
  have n2 : w.heap.size + 1 + 1 ≠ w1.heap.size := by omega
  have n3 : w.heap.size + 1 + 1 + 1 ≠ w1.heap.size := by omega
  have n2' : w1.heap.size ≠ w.heap.size + 1 + 1 := by omega
  have n3' : w1.heap.size ≠ w.heap.size + 1 + 1 + 1 := by omega
  go_wp2_with fail
  refine (HU.out _).mono ?_
  rintro r w3 ⟨rfl, b3⟩
  have c13 := bnext c12 c12.size b3
  clear ea eb c0 c1 c2 c3 c4 c5 c6 c7 c8 c9 c10 hf2 g0 g1 gf oc of ya yb yc yo n2 n3 n2' n3' yd z za zb zc
  obtain ⟨ea, eb, R2, R3, z⟩ := four_kept _ _ _ _ c13
  obtain ⟨⟨c0, c1, c2, c3, c4, c5, c6, c7, c8, c9, c10⟩, hf2⟩ := box_kept R2.out
  obtain ⟨g0, g1, gf⟩ := box35_kept R3.out
  clear R2 R3
  go_wp2_with fail
  refine bodyPost_ret (v := .tuple #[.agg #[.int .i64 0, .string ⟨#[]⟩, .int .i64 0, .int .u64 0, .string ⟨#[]⟩, .int .i64 0, .int .i64 0, .int .i64 0, .int .i64 0, .slice none 0 0, .slice none 0 0], .agg #[.string ⟨#[111, 112, 101, 114, 97, 110, 100]⟩, .string x]]) (by simp [results, Tryd.results16, go_sem, c0, c1, c2, c3, c4, c5, c6, c7, c8, c9, c10, g0, g1]) rfl ⟨rfl, ?_⟩
  exact ((bset ((below4 w _ _ _ _).trans (c13.mono (by simp; omega))) (by omega : w.heap.size ≤ w.heap.size + 1 + 1) _ _ _ _ _ _ _ _ _ _ _).setCell (by show _ ≤ _; simp; omega) _).setCell (by show _ ≤ _; simp; omega) _

set_option maxRecDepth 100000 in
set_option maxHeartbeats 8000000 in
theorem refBinary_txt (t : ByteArray) (a f : Int) (s : ByteArray) (r0 r1 r2 r3 : Int) (p i : Value) (b f2 : Int) (s2 : ByteArray) (q0 q1 q2 q3 : Int) (p2 i2 : Value) (w : World) (x0 y0 z0 : Bool) (HO : Hid (∀ W, Calls Tryd.prog 47 #[D 4 t a f s r0 r1 r2 r3 p i, D 4 t b f2 s2 q0 q1 q2 q3 p2 i2] W fun r w' => r = .returned (.tuple #[.bool x0, .bool y0, .bool z0]) ∧ Below W.heap.size W w')) (hl : s.size + s2.size ≤ 65536)  :
    Calls Tryd.prog 16 #[.string ⟨#[43]⟩, D 4 t a f s r0 r1 r2 r3 p i, D 4 t b f2 s2 q0 q1 q2 q3 p2 i2] w fun r w' => r = .returned (.tuple #[.agg #[.int .i64 4, .string t, .int .i64 0, .int .u64 0, .string (s ++ s2), .int .i64 0, .int .i64 0, .int .i64 0, .int .i64 0, .slice none 0 0, .slice none 0 0], .agg #[.string ⟨#[]⟩, .string ⟨#[]⟩]]) ∧ Below w.heap.size w w' := by
  have HW : Hid (∀ W, Calls Tryd.prog 48 #[.string ⟨#[43]⟩, .bool x0, .bool y0, .bool z0] W fun r w' => r = .returned (.tuple #[.bool false, .bool false]) ∧ w' = W) := fun W => whether_none _ x0 y0 z0 W (by rw [ByteArray.toList_eq]; decide) (by rw [ByteArray.toList_eq]; decide) (by rw [ByteArray.toList_eq]; decide) (by rw [ByteArray.toList_eq]; decide)
  have h1 : s.size ≤ 65536 := by omega
  have h2 : s2.size ≤ 65536 := by omega
  have h3 : ¬ ((s.size : Int) + s2.size > 65536) := by omega
  clear hl
  simp only [D] at HO ⊢
  go_enter Tryd.func16, Tryd.ntmps16
  go_wp2_with fail
  refine (HO.out _).mono ?_
  rintro r w1 ⟨rfl, b1⟩
  obtain ⟨ea, eb, R2, R3, z⟩ := four_kept _ _ _ _ b1
  have za : w.heap.size < w1.heap.size := by omega
  have zb : w.heap.size + 1 < w1.heap.size := by omega
  have zc : w.heap.size + 1 + 1 < w1.heap.size := by omega
  go_wp2_with fail
  refine (HW.out _).mono ?_
  rintro r w1 ⟨rfl, rfl⟩
  obtain ⟨⟨c0, c1, c2, c3, c4, c5, c6, c7, c8, c9, c10⟩, hf2⟩ := box_kept R2.out
  obtain ⟨g0, g1, gf⟩ := box35_kept R3.out
  clear R2 R3
  go_wp2_with fail
  refine bodyPost_ret (v := .tuple #[.agg #[.int .i64 4, .string t, .int .i64 0, .int .u64 0, .string (s ++ s2), .int .i64 0, .int .i64 0, .int .i64 0, .int .i64 0, .slice none 0 0, .slice none 0 0], .agg #[.string ⟨#[]⟩, .string ⟨#[]⟩]]) (by simp [results, Tryd.results16, go_sem, c0, c1, c2, c3, c4, c5, c6, c7, c8, c9, c10, g0, g1, zc, z]) rfl ⟨rfl, ?_⟩
  exact (((bset ((below4 w _ _ _ _).trans (b1.mono (by simp; omega))) (by omega : w.heap.size ≤ w.heap.size + 1 + 1) _ _ _ _ _ _ _ _ _ _ _).setCell (by show _ ≤ _; simp; omega) _).setCell (by show _ ≤ _; simp; omega) _).alloc (by simp; omega) _

set_option maxRecDepth 100000 in
set_option maxHeartbeats 8000000 in
theorem refBinary_long (t : ByteArray) (a f : Int) (s : ByteArray) (r0 r1 r2 r3 : Int) (p i : Value) (b f2 : Int) (s2 : ByteArray) (q0 q1 q2 q3 : Int) (p2 i2 : Value) (w : World) (x0 y0 z0 : Bool) (HO : Hid (∀ W, Calls Tryd.prog 47 #[D 4 t a f s r0 r1 r2 r3 p i, D 4 t b f2 s2 q0 q1 q2 q3 p2 i2] W fun r w' => r = .returned (.tuple #[.bool x0, .bool y0, .bool z0]) ∧ Below W.heap.size W w')) (hl : 65536 < s.size + s2.size) (h1 : s.size ≤ 140737488351232) (h2 : s2.size ≤ 140737488351232)  :
    Calls Tryd.prog 16 #[.string ⟨#[43]⟩, D 4 t a f s r0 r1 r2 r3 p i, D 4 t b f2 s2 q0 q1 q2 q3 p2 i2] w fun r w' => r = .returned (.tuple #[.agg #[.int .i64 0, .string ⟨#[]⟩, .int .i64 0, .int .u64 0, .string ⟨#[]⟩, .int .i64 0, .int .i64 0, .int .i64 0, .int .i64 0, .slice none 0 0, .slice none 0 0], .agg #[.string ⟨#[99, 111, 117, 110, 116]⟩, .string ⟨(Lib.itoa ((s.size : Int) + s2.size)).toArray⟩]]) ∧ Below w.heap.size w w' := by
  have HW : Hid (∀ W, Calls Tryd.prog 48 #[.string ⟨#[43]⟩, .bool x0, .bool y0, .bool z0] W fun r w' => r = .returned (.tuple #[.bool false, .bool false]) ∧ w' = W) := fun W => whether_none _ x0 y0 z0 W (by rw [ByteArray.toList_eq]; decide) (by rw [ByteArray.toList_eq]; decide) (by rw [ByteArray.toList_eq]; decide) (by rw [ByteArray.toList_eq]; decide)
  have HD : Hid (∀ W, Calls Tryd.prog 51 #[.int .i64 ((s.size : Int) + s2.size)] W fun r w' => r = .returned (.string ⟨(Lib.itoa ((s.size : Int) + s2.size)).toArray⟩) ∧ Below W.heap.size W w') := fun W => refDigits_any _ W (by omega) (by omega)
  generalize Lib.itoa ((s.size : Int) + s2.size) = d at HD ⊢
  have h3 : (s.size : Int) + s2.size > 65536 := by omega
  clear hl
  simp only [D] at HO ⊢
  go_enter Tryd.func16, Tryd.ntmps16
  go_wp2_with fail
  refine (HO.out _).mono ?_
  rintro r w1 ⟨rfl, b1⟩
  obtain ⟨ea, eb, R2, R3, z⟩ := four_kept _ _ _ _ b1
  have za : w.heap.size < w1.heap.size := by omega
  have zb : w.heap.size + 1 < w1.heap.size := by omega
  have zc : w.heap.size + 1 + 1 < w1.heap.size := by omega
  go_wp2_with fail
  refine (HW.out _).mono ?_
  rintro r w1 ⟨rfl, rfl⟩
  obtain ⟨⟨c0, c1, c2, c3, c4, c5, c6, c7, c8, c9, c10⟩, hf2⟩ := box_kept R2.out
  obtain ⟨g0, g1, gf⟩ := box35_kept R3.out
  clear R2 R3
  go_wp2_with fail
  refine (HD.out _).mono ?_
  rintro r w2 ⟨rfl, b2⟩
  go_wp2_with fail
  refine (refFault_any _ _ _).mono ?_
  rintro r w3 ⟨rfl, b3⟩
  have c12 := bnext b1 b1.size b2
  have c13 := c12.trans (b3.mono c12.size)
  clear ea eb c0 c1 c2 c3 c4 c5 c6 c7 c8 c9 c10 hf2 g0 g1 gf z za zb zc
  obtain ⟨ea, eb, R2, R3, z⟩ := four_kept _ _ _ _ c13
  obtain ⟨⟨c0, c1, c2, c3, c4, c5, c6, c7, c8, c9, c10⟩, hf2⟩ := box_kept R2.out
  obtain ⟨g0, g1, gf⟩ := box35_kept R3.out
  clear R2 R3
  go_wp2_with fail
  refine bodyPost_ret (v := .tuple #[.agg #[.int .i64 0, .string ⟨#[]⟩, .int .i64 0, .int .u64 0, .string ⟨#[]⟩, .int .i64 0, .int .i64 0, .int .i64 0, .int .i64 0, .slice none 0 0, .slice none 0 0], .agg #[.string ⟨#[99, 111, 117, 110, 116]⟩, .string ⟨d.toArray⟩]]) (by simp [results, Tryd.results16, go_sem, c0, c1, c2, c3, c4, c5, c6, c7, c8, c9, c10, g0, g1]) rfl ⟨rfl, ?_⟩
  exact ((bset ((below4 w _ _ _ _).trans (c13.mono (by simp; omega))) (by omega : w.heap.size ≤ w.heap.size + 1 + 1) _ _ _ _ _ _ _ _ _ _ _).setCell (by show _ ≤ _; simp; omega) _).setCell (by show _ ≤ _; simp; omega) _

set_option maxRecDepth 100000 in
set_option maxHeartbeats 8000000 in
theorem refBinary_tbad (u : ByteArray) (t : ByteArray) (a f : Int) (s : ByteArray) (r0 r1 r2 r3 : Int) (p i : Value) (b f2 : Int) (s2 : ByteArray) (q0 q1 q2 q3 : Int) (p2 i2 : Value) (w : World) (ht : t.size ≤ 140737488351232) (hu : u.size ≤ 140737488351232) (x0 y0 z0 : Bool) (HO : Hid (∀ W, Calls Tryd.prog 47 #[D 4 t a f s r0 r1 r2 r3 p i, D 4 t b f2 s2 q0 q1 q2 q3 p2 i2] W fun r w' => r = .returned (.tuple #[.bool x0, .bool y0, .bool z0]) ∧ Below W.heap.size W w')) (hc : NoCmp u) (hp : (u.toList == [43]) = false)  :
    Calls Tryd.prog 16 #[.string u, D 4 t a f s r0 r1 r2 r3 p i, D 4 t b f2 s2 q0 q1 q2 q3 p2 i2] w fun r w' => r = .returned (.tuple #[.agg #[.int .i64 0, .string ⟨#[]⟩, .int .i64 0, .int .u64 0, .string ⟨#[]⟩, .int .i64 0, .int .i64 0, .int .i64 0, .int .i64 0, .slice none 0 0, .slice none 0 0], .agg #[.string ⟨#[111, 112, 101, 114, 97, 110, 100]⟩, .string (opd2 u 4 t 4 t)]]) ∧ Below w.heap.size w w' := by
  have HW : Hid (∀ W, Calls Tryd.prog 48 #[.string u, .bool x0, .bool y0, .bool z0] W fun r w' => r = .returned (.tuple #[.bool false, .bool false]) ∧ w' = W) := fun W => whether_none u x0 y0 z0 W hc.n1 hc.n2 hc.n3 hc.n4
  have HU : Hid (∀ W, Calls Tryd.prog 46 #[.string u, D 4 t a f s r0 r1 r2 r3 p i, D 4 t b f2 s2 q0 q1 q2 q3 p2 i2] W fun r w' => r = .returned (.agg #[.string ⟨#[111, 112, 101, 114, 97, 110, 100]⟩, .string (opd2 u 4 t 4 t)]) ∧ Below W.heap.size W w') := fun W => refWrong_any u 4 t a f s r0 r1 r2 r3 p i 4 t b f2 s2 q0 q1 q2 q3 p2 i2 W ht ht hu
  generalize opd2 u 4 t 4 t = x at HU ⊢
  clear hc ht hu
  simp only [D] at HO HU ⊢
  go_enter Tryd.func16, Tryd.ntmps16
  go_wp2_with fail
  refine (HO.out _).mono ?_
  rintro r w1 ⟨rfl, b1⟩
  obtain ⟨ea, eb, R2, R3, z⟩ := four_kept _ _ _ _ b1
  have za : w.heap.size < w1.heap.size := by omega
  have zb : w.heap.size + 1 < w1.heap.size := by omega
  have zc : w.heap.size + 1 + 1 < w1.heap.size := by omega
  go_wp2_with fail
  refine (HW.out _).mono ?_
  rintro r w1 ⟨rfl, rfl⟩
  obtain ⟨⟨c0, c1, c2, c3, c4, c5, c6, c7, c8, c9, c10⟩, hf2⟩ := box_kept R2.out
  obtain ⟨g0, g1, gf⟩ := box35_kept R3.out
  clear R2 R3
  go_wp2_with fail
  refine (HU.out _).mono ?_
  rintro r w3 ⟨rfl, b3⟩
  have c13 := bnext b1 b1.size b3
  clear ea eb c0 c1 c2 c3 c4 c5 c6 c7 c8 c9 c10 hf2 g0 g1 gf z za zb zc
  obtain ⟨ea, eb, R2, R3, z⟩ := four_kept _ _ _ _ c13
  obtain ⟨⟨c0, c1, c2, c3, c4, c5, c6, c7, c8, c9, c10⟩, hf2⟩ := box_kept R2.out
  obtain ⟨g0, g1, gf⟩ := box35_kept R3.out
  clear R2 R3
  go_wp2_with fail
  refine bodyPost_ret (v := .tuple #[.agg #[.int .i64 0, .string ⟨#[]⟩, .int .i64 0, .int .u64 0, .string ⟨#[]⟩, .int .i64 0, .int .i64 0, .int .i64 0, .int .i64 0, .slice none 0 0, .slice none 0 0], .agg #[.string ⟨#[111, 112, 101, 114, 97, 110, 100]⟩, .string x]]) (by simp [results, Tryd.results16, go_sem, c0, c1, c2, c3, c4, c5, c6, c7, c8, c9, c10, g0, g1]) rfl ⟨rfl, ?_⟩
  exact ((bset ((below4 w _ _ _ _).trans (c13.mono (by simp; omega))) (by omega : w.heap.size ≤ w.heap.size + 1 + 1) _ _ _ _ _ _ _ _ _ _ _).setCell (by show _ ≤ _; simp; omega) _).setCell (by show _ ≤ _; simp; omega) _

set_option maxRecDepth 100000 in
set_option maxHeartbeats 8000000 in
theorem refBinary_fbad (u : ByteArray) (t : ByteArray) (a f : Int) (s : ByteArray) (r0 r1 r2 r3 : Int) (p i : Value) (b f2 : Int) (s2 : ByteArray) (q0 q1 q2 q3 : Int) (p2 i2 : Value) (w : World) (ht : t.size ≤ 140737488351232) (hu : u.size ≤ 140737488351232) (x0 y0 z0 : Bool) (HO : Hid (∀ W, Calls Tryd.prog 47 #[D 3 t a f s r0 r1 r2 r3 p i, D 3 t b f2 s2 q0 q1 q2 q3 p2 i2] W fun r w' => r = .returned (.tuple #[.bool x0, .bool y0, .bool z0]) ∧ Below W.heap.size W w')) (hc : NoCmp u) (hp1 : (u.toList == [43]) = false) (hp2 : (u.toList == [45]) = false) (hp3 : (u.toList == [42]) = false) (hp4 : (u.toList == [47]) = false)  :
    Calls Tryd.prog 16 #[.string u, D 3 t a f s r0 r1 r2 r3 p i, D 3 t b f2 s2 q0 q1 q2 q3 p2 i2] w fun r w' => r = .returned (.tuple #[.agg #[.int .i64 0, .string ⟨#[]⟩, .int .i64 0, .int .u64 0, .string ⟨#[]⟩, .int .i64 0, .int .i64 0, .int .i64 0, .int .i64 0, .slice none 0 0, .slice none 0 0], .agg #[.string ⟨#[111, 112, 101, 114, 97, 110, 100]⟩, .string (opd2 u 3 t 3 t)]]) ∧ Below w.heap.size w w' := by
  have HW : Hid (∀ W, Calls Tryd.prog 48 #[.string u, .bool x0, .bool y0, .bool z0] W fun r w' => r = .returned (.tuple #[.bool false, .bool false]) ∧ w' = W) := fun W => whether_none u x0 y0 z0 W hc.n1 hc.n2 hc.n3 hc.n4
  have HU : Hid (∀ W, Calls Tryd.prog 46 #[.string u, D 3 t a f s r0 r1 r2 r3 p i, D 3 t b f2 s2 q0 q1 q2 q3 p2 i2] W fun r w' => r = .returned (.agg #[.string ⟨#[111, 112, 101, 114, 97, 110, 100]⟩, .string (opd2 u 3 t 3 t)]) ∧ Below W.heap.size W w') := fun W => refWrong_any u 3 t a f s r0 r1 r2 r3 p i 3 t b f2 s2 q0 q1 q2 q3 p2 i2 W ht ht hu
  generalize opd2 u 3 t 3 t = x at HU ⊢
  clear hc ht hu
  simp only [D] at HO HU ⊢
  go_enter Tryd.func16, Tryd.ntmps16
  go_wp2_with fail
  refine (HO.out _).mono ?_
  rintro r w1 ⟨rfl, b1⟩
  obtain ⟨ea, eb, R2, R3, z⟩ := four_kept _ _ _ _ b1
  have za : w.heap.size < w1.heap.size := by omega
  have zb : w.heap.size + 1 < w1.heap.size := by omega
  have zc : w.heap.size + 1 + 1 < w1.heap.size := by omega
  go_wp2_with fail
  refine (HW.out _).mono ?_
  rintro r w1 ⟨rfl, rfl⟩
  obtain ⟨⟨c0, c1, c2, c3, c4, c5, c6, c7, c8, c9, c10⟩, hf2⟩ := box_kept R2.out
  obtain ⟨g0, g1, gf⟩ := box35_kept R3.out
  clear R2 R3
  go_wp2_with fail
  refine (fromB_any _ _).mono ?_
  rintro r w2 ⟨rfl, rfl⟩
  go_wp2_with fail
  refine (fromB_any _ _).mono ?_
  rintro r w2 ⟨rfl, rfl⟩
  go_wp2_with fail
  refine (HU.out _).mono ?_
  rintro r w3 ⟨rfl, b3⟩
  have c13 := bnext b1 b1.size b3
  clear ea eb c0 c1 c2 c3 c4 c5 c6 c7 c8 c9 c10 hf2 g0 g1 gf z za zb zc
  obtain ⟨ea, eb, R2, R3, z⟩ := four_kept _ _ _ _ c13
  obtain ⟨⟨c0, c1, c2, c3, c4, c5, c6, c7, c8, c9, c10⟩, hf2⟩ := box_kept R2.out
  obtain ⟨g0, g1, gf⟩ := box35_kept R3.out
  clear R2 R3
  go_wp2_with fail
  refine bodyPost_ret (v := .tuple #[.agg #[.int .i64 0, .string ⟨#[]⟩, .int .i64 0, .int .u64 0, .string ⟨#[]⟩, .int .i64 0, .int .i64 0, .int .i64 0, .int .i64 0, .slice none 0 0, .slice none 0 0], .agg #[.string ⟨#[111, 112, 101, 114, 97, 110, 100]⟩, .string x]]) (by simp [results, Tryd.results16, go_sem, c0, c1, c2, c3, c4, c5, c6, c7, c8, c9, c10, g0, g1]) rfl ⟨rfl, ?_⟩
  exact ((bset ((below4 w _ _ _ _).trans (c13.mono (by simp; omega))) (by omega : w.heap.size ≤ w.heap.size + 1 + 1) _ _ _ _ _ _ _ _ _ _ _).setCell (by show _ ≤ _; simp; omega) _).setCell (by show _ ≤ _; simp; omega) _
end Go.Proofs.YtoplmbboaobahaaDoor
