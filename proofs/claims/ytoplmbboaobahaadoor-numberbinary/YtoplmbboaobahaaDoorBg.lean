/-
  The document's own Binary.
-/
import Derived.Test.YtoplmbboaobahaaDoorBd
import Derived.Test.YtoplmbboaobahaaDoorBf
import Derived.Test.YtoplmbboaobahaaDoorFa
namespace Go.Proofs.YtoplmbboaobahaaDoor
open Go.RowKit
attribute [local go_sem] refold2 cell3_0 cell3_1 cell4_0 cell4_1 cell4_2 frozen4_1 frozen4_2 b28_0 b28_01 b28_012 b28_013 b28_014 b35_01 b35_0 b35 mkI69 x56 x57

theorem heap4_3 (w : World) (o1 o2 o3 o4 : Obj) : ((((w.alloc o1).alloc o2).alloc o3).alloc o4).heap[w.heap.size + 1 + 1 + 1]? = some o4 := by
  have := heap_alloc_new (((w.alloc o1).alloc o2).alloc o3) o4
  simpa using this

/-- What lies there from the beginning is kept. -/
theorem four_kept (w : World) (A B : Array Value) (W : World) (h : Below ((((w.alloc (.cells A 28)).alloc (.cells B 28)).alloc (.cells zeros 28)).alloc (.cells #[.string ⟨#[]⟩, .string ⟨#[]⟩] 35)).heap.size ((((w.alloc (.cells A 28)).alloc (.cells B 28)).alloc (.cells zeros 28)).alloc (.cells #[.string ⟨#[]⟩, .string ⟨#[]⟩] 35)) W) :
    (∀ j, W.cell? ⟨w.heap.size, j, none⟩ = A[j]?) ∧ (∀ j, W.cell? ⟨w.heap.size + 1, j, none⟩ = B[j]?) ∧ Hid (W.heap[w.heap.size + 1 + 1]? = some (.cells zeros 28 (0, 0))) ∧ Hid (W.heap[w.heap.size + 1 + 1 + 1]? = some (.cells #[.string ⟨#[]⟩, .string ⟨#[]⟩] 35 (0, 0))) ∧ w.heap.size + 1 + 1 + 1 < W.heap.size := by
  refine ⟨fun j => ?_, fun j => ?_, ?_, ?_, ?_⟩
  · rw [h.cell (p := ⟨w.heap.size, j, none⟩) (by simp; omega), cell4_0]
  · rw [h.cell (p := ⟨w.heap.size + 1, j, none⟩) (by simp), cell4_1]
  · exact (h.block _ (by simp)).trans (heap4_2 _ _ _ _ _)
  · exact (h.block _ (by simp)).trans (heap4_3 _ _ _ _ _)
  · have := h.size; simp at this; omega

theorem box35_kept {W : World} {g : Nat} (R : W.heap[g]? = some (.cells #[.string ⟨#[]⟩, .string ⟨#[]⟩] 35 (0, 0))) : W.cell? ⟨g, 0, none⟩ = some (.string ⟨#[]⟩) ∧ W.cell? ⟨g, 1, none⟩ = some (.string ⟨#[]⟩) ∧ ∀ j, W.frozen? ⟨g, j, none⟩ = false :=
  ⟨by unfold World.cell?; rw [R]; rfl, by unfold World.cell?; rw [R]; rfl, fun j => fz _ _ _ _ j R⟩

/-- A text that is no comparison. -/
structure NoCmp (u : ByteArray) : Prop where
  n1 : (u.toList == [60]) = false
  n2 : (u.toList == [60, 61]) = false
  n3 : (u.toList == [62]) = false
  n4 : (u.toList == [62, 61]) = false

set_option maxRecDepth 100000 in
set_option maxHeartbeats 8000000 in
theorem refBinary_badK (u : ByteArray) (k : Int) (t : ByteArray) (a f : Int) (s : ByteArray) (r0 r1 r2 r3 : Int) (p i : Value) (k2 : Int) (t2 : ByteArray) (b f2 : Int) (s2 : ByteArray) (q0 q1 q2 q3 : Int) (p2 i2 : Value) (w : World) (ht : t.size ≤ 140737488351232) (ht2 : t2.size ≤ 140737488351232) (hu : u.size ≤ 140737488351232) (h : k ≠ k2) :
    Calls Tryd.prog 16 #[.string u, D k t a f s r0 r1 r2 r3 p i, D k2 t2 b f2 s2 q0 q1 q2 q3 p2 i2] w fun r w' => r = .returned (.tuple #[.agg #[.int .i64 0, .string ⟨#[]⟩, .int .i64 0, .int .u64 0, .string ⟨#[]⟩, .int .i64 0, .int .i64 0, .int .i64 0, .int .i64 0, .slice none 0 0, .slice none 0 0], .agg #[.string ⟨#[111, 112, 101, 114, 97, 110, 100]⟩, .string (opd2 u k t k2 t2)]]) ∧ Below w.heap.size w w' := by
  have HU : Hid (∀ W, Calls Tryd.prog 46 #[.string u, D k t a f s r0 r1 r2 r3 p i, D k2 t2 b f2 s2 q0 q1 q2 q3 p2 i2] W fun r w' => r = .returned (.agg #[.string ⟨#[111, 112, 101, 114, 97, 110, 100]⟩, .string (opd2 u k t k2 t2)]) ∧ Below W.heap.size W w') := fun W => refWrong_any u k t a f s r0 r1 r2 r3 p i k2 t2 b f2 s2 q0 q1 q2 q3 p2 i2 W ht ht2 hu
  generalize opd2 u k t k2 t2 = x at HU ⊢
  clear ht ht2 hu
  simp only [D] at HU ⊢
  go_enter Tryd.func16, Tryd.ntmps16
  go_wp2_with fail
  refine (HU.out _).mono ?_
  rintro r w2 ⟨rfl, hb⟩
  obtain ⟨ea, eb, R2, R3, z⟩ := four_kept _ _ _ _ hb
  obtain ⟨⟨c0, c1, c2, c3, c4, c5, c6, c7, c8, c9, c10⟩, hf2⟩ := box_kept R2.out
  obtain ⟨g0, g1, gf⟩ := box35_kept R3.out
  clear R2 R3
  go_wp2_with fail
  refine bodyPost_ret (v := .tuple #[.agg #[.int .i64 0, .string ⟨#[]⟩, .int .i64 0, .int .u64 0, .string ⟨#[]⟩, .int .i64 0, .int .i64 0, .int .i64 0, .int .i64 0, .slice none 0 0, .slice none 0 0], .agg #[.string ⟨#[111, 112, 101, 114, 97, 110, 100]⟩, .string x]]) (by simp [results, Tryd.results16, go_sem, c0, c1, c2, c3, c4, c5, c6, c7, c8, c9, c10, g0, g1]) rfl ⟨rfl, ?_⟩
  exact ((bset ((below4 w _ _ _ _).trans (hb.mono (by simp; omega))) (by omega : w.heap.size ≤ w.heap.size + 1 + 1) _ _ _ _ _ _ _ _ _ _ _).setCell (by show _ ≤ _; simp; omega) _).setCell (by show _ ≤ _; simp; omega) _

set_option maxRecDepth 100000 in
set_option maxHeartbeats 8000000 in
theorem refBinary_badT (u : ByteArray) (k : Int) (t : ByteArray) (a f : Int) (s : ByteArray) (r0 r1 r2 r3 : Int) (p i : Value) (t2 : ByteArray) (b f2 : Int) (s2 : ByteArray) (q0 q1 q2 q3 : Int) (p2 i2 : Value) (w : World) (ht : t.size ≤ 140737488351232) (ht2 : t2.size ≤ 140737488351232) (hu : u.size ≤ 140737488351232) (h : (t.toList == t2.toList) = false) :
    Calls Tryd.prog 16 #[.string u, D k t a f s r0 r1 r2 r3 p i, D k t2 b f2 s2 q0 q1 q2 q3 p2 i2] w fun r w' => r = .returned (.tuple #[.agg #[.int .i64 0, .string ⟨#[]⟩, .int .i64 0, .int .u64 0, .string ⟨#[]⟩, .int .i64 0, .int .i64 0, .int .i64 0, .int .i64 0, .slice none 0 0, .slice none 0 0], .agg #[.string ⟨#[111, 112, 101, 114, 97, 110, 100]⟩, .string (opd2 u k t k t2)]]) ∧ Below w.heap.size w w' := by
  have HU : Hid (∀ W, Calls Tryd.prog 46 #[.string u, D k t a f s r0 r1 r2 r3 p i, D k t2 b f2 s2 q0 q1 q2 q3 p2 i2] W fun r w' => r = .returned (.agg #[.string ⟨#[111, 112, 101, 114, 97, 110, 100]⟩, .string (opd2 u k t k t2)]) ∧ Below W.heap.size W w') := fun W => refWrong_any u k t a f s r0 r1 r2 r3 p i k t2 b f2 s2 q0 q1 q2 q3 p2 i2 W ht ht2 hu
  generalize opd2 u k t k t2 = x at HU ⊢
  clear ht ht2 hu
  simp only [D] at HU ⊢
  go_enter Tryd.func16, Tryd.ntmps16
  go_wp2_with fail
  refine (HU.out _).mono ?_
  rintro r w2 ⟨rfl, hb⟩
  obtain ⟨ea, eb, R2, R3, z⟩ := four_kept _ _ _ _ hb
  obtain ⟨⟨c0, c1, c2, c3, c4, c5, c6, c7, c8, c9, c10⟩, hf2⟩ := box_kept R2.out
  obtain ⟨g0, g1, gf⟩ := box35_kept R3.out
  clear R2 R3
  go_wp2_with fail
  refine bodyPost_ret (v := .tuple #[.agg #[.int .i64 0, .string ⟨#[]⟩, .int .i64 0, .int .u64 0, .string ⟨#[]⟩, .int .i64 0, .int .i64 0, .int .i64 0, .int .i64 0, .slice none 0 0, .slice none 0 0], .agg #[.string ⟨#[111, 112, 101, 114, 97, 110, 100]⟩, .string x]]) (by simp [results, Tryd.results16, go_sem, c0, c1, c2, c3, c4, c5, c6, c7, c8, c9, c10, g0, g1]) rfl ⟨rfl, ?_⟩
  exact ((bset ((below4 w _ _ _ _).trans (hb.mono (by simp; omega))) (by omega : w.heap.size ≤ w.heap.size + 1 + 1) _ _ _ _ _ _ _ _ _ _ _).setCell (by show _ ≤ _; simp; omega) _).setCell (by show _ ≤ _; simp; omega) _

set_option maxRecDepth 100000 in
set_option maxHeartbeats 8000000 in
theorem refBinary_badC (u : ByteArray) (k : Int) (t : ByteArray) (a f : Int) (s : ByteArray) (r0 r1 r2 r3 : Int) (p i : Value) (b f2 : Int) (s2 : ByteArray) (q0 q1 q2 q3 : Int) (p2 i2 : Value) (w : World) (ht : t.size ≤ 140737488351232) (hu : u.size ≤ 140737488351232) (h2 : k ≠ 2) (h3 : k ≠ 3) (h4 : k ≠ 4) :
    Calls Tryd.prog 16 #[.string u, D k t a f s r0 r1 r2 r3 p i, D k t b f2 s2 q0 q1 q2 q3 p2 i2] w fun r w' => r = .returned (.tuple #[.agg #[.int .i64 0, .string ⟨#[]⟩, .int .i64 0, .int .u64 0, .string ⟨#[]⟩, .int .i64 0, .int .i64 0, .int .i64 0, .int .i64 0, .slice none 0 0, .slice none 0 0], .agg #[.string ⟨#[111, 112, 101, 114, 97, 110, 100]⟩, .string (opd2 u k t k t)]]) ∧ Below w.heap.size w w' := by
  have HU : Hid (∀ W, Calls Tryd.prog 46 #[.string u, D k t a f s r0 r1 r2 r3 p i, D k t b f2 s2 q0 q1 q2 q3 p2 i2] W fun r w' => r = .returned (.agg #[.string ⟨#[111, 112, 101, 114, 97, 110, 100]⟩, .string (opd2 u k t k t)]) ∧ Below W.heap.size W w') := fun W => refWrong_any u k t a f s r0 r1 r2 r3 p i k t b f2 s2 q0 q1 q2 q3 p2 i2 W ht ht hu
  generalize opd2 u k t k t = x at HU ⊢
  clear ht hu
  have e2 : (k != 2) = true := by simpa using h2
  have e3 : (k != 3) = true := by simpa using h3
  have e4 : (k != 4) = true := by simpa using h4
  clear h2 h3 h4
  simp only [D] at HU ⊢
  go_enter Tryd.func16, Tryd.ntmps16
  go_wp2_with fail
  refine (HU.out _).mono ?_
  rintro r w2 ⟨rfl, hb⟩
  obtain ⟨ea, eb, R2, R3, z⟩ := four_kept _ _ _ _ hb
  obtain ⟨⟨c0, c1, c2, c3, c4, c5, c6, c7, c8, c9, c10⟩, hf2⟩ := box_kept R2.out
  obtain ⟨g0, g1, gf⟩ := box35_kept R3.out
  clear R2 R3
  go_wp2_with fail
  refine bodyPost_ret (v := .tuple #[.agg #[.int .i64 0, .string ⟨#[]⟩, .int .i64 0, .int .u64 0, .string ⟨#[]⟩, .int .i64 0, .int .i64 0, .int .i64 0, .int .i64 0, .slice none 0 0, .slice none 0 0], .agg #[.string ⟨#[111, 112, 101, 114, 97, 110, 100]⟩, .string x]]) (by simp [results, Tryd.results16, go_sem, c0, c1, c2, c3, c4, c5, c6, c7, c8, c9, c10, g0, g1]) rfl ⟨rfl, ?_⟩
  exact ((bset ((below4 w _ _ _ _).trans (hb.mono (by simp; omega))) (by omega : w.heap.size ≤ w.heap.size + 1 + 1) _ _ _ _ _ _ _ _ _ _ _).setCell (by show _ ≤ _; simp; omega) _).setCell (by show _ ≤ _; simp; omega) _

set_option maxRecDepth 100000 in
set_option maxHeartbeats 8000000 in
theorem refBinary_cmp2 (o : COp) (t : ByteArray) (a f : Int) (s : ByteArray) (r0 r1 r2 r3 : Int) (p i : Value) (b f2 : Int) (s2 : ByteArray) (q0 q1 q2 q3 : Int) (p2 i2 : Value) (w : World) (x0 y0 z0 : Bool) (HO : Hid (∀ W, Calls Tryd.prog 47 #[D 2 t a f s r0 r1 r2 r3 p i, D 2 t b f2 s2 q0 q1 q2 q3 p2 i2] W fun r w' => r = .returned (.tuple #[.bool x0, .bool y0, .bool z0]) ∧ Below W.heap.size W w'))  :
    Calls Tryd.prog 16 #[.string o.txt, D 2 t a f s r0 r1 r2 r3 p i, D 2 t b f2 s2 q0 q1 q2 q3 p2 i2] w fun r w' => r = .returned (.tuple #[dat 1 ⟨#[98, 111, 111, 108]⟩ (b01 (whV o x0 y0 z0)) 0 ⟨#[]⟩, .agg #[.string ⟨#[]⟩, .string ⟨#[]⟩]]) ∧ Below w.heap.size w w' := by
  have HW : Hid (∀ W, Calls Tryd.prog 48 #[.string o.txt, .bool x0, .bool y0, .bool z0] W fun r w' => r = .returned (.tuple #[.bool (whV o x0 y0 z0), .bool true]) ∧ w' = W) := fun W => whether_any o x0 y0 z0 W
  have HB : Hid (∀ W, Calls Tryd.prog 49 #[.bool (whV o x0 y0 z0)] W fun r w' => r = .returned (dat 1 ⟨#[98, 111, 111, 108]⟩ (b01 (whV o x0 y0 z0)) 0 ⟨#[]⟩) ∧ Below W.heap.size W w') := fun W => boolean_any _ W
  generalize b01 (whV o x0 y0 z0) = n at HB ⊢
  generalize whV o x0 y0 z0 = v at HW HB
  generalize o.txt = u at HW ⊢
  simp only [dat, D] at HO HB ⊢
  go_enter Tryd.func16, Tryd.ntmps16
  go_wp2_with fail
  refine (HO.out _).mono ?_
  rintro r w1 ⟨rfl, b1⟩
  obtain ⟨ea, eb, R2, R3, z⟩ := four_kept _ _ _ _ b1
  go_wp2_with fail
  refine (HW.out _).mono ?_
  rintro r w1 ⟨rfl, rfl⟩
  go_wp2_with fail
  refine (HB.out _).mono ?_
  rintro r w2 ⟨rfl, b2⟩
  have hb := b1.trans (b2.mono b1.size)
  clear ea eb R2 R3 z b1 b2
  obtain ⟨ea, eb, R2, R3, z⟩ := four_kept _ _ _ _ hb
  obtain ⟨⟨c0, c1, c2, c3, c4, c5, c6, c7, c8, c9, c10⟩, hf2⟩ := box_kept R2.out
  obtain ⟨g0, g1, gf⟩ := box35_kept R3.out
  clear R2 R3
  go_wp2_with fail
  refine bodyPost_ret (v := .tuple #[.agg #[.int .i64 1, .string ⟨#[98, 111, 111, 108]⟩, .int .i64 n, .int .u64 0, .string ⟨#[]⟩, .int .i64 0, .int .i64 0, .int .i64 0, .int .i64 0, .slice none 0 0, .slice none 0 0], .agg #[.string ⟨#[]⟩, .string ⟨#[]⟩]]) (by simp [results, Tryd.results16, go_sem, c0, c1, c2, c3, c4, c5, c6, c7, c8, c9, c10, g0, g1]) rfl ⟨rfl, ?_⟩
  exact ((bset ((below4 w _ _ _ _).trans (hb.mono (by simp; omega))) (by omega : w.heap.size ≤ w.heap.size + 1 + 1) _ _ _ _ _ _ _ _ _ _ _).setCell (by show _ ≤ _; simp; omega) _).setCell (by show _ ≤ _; simp; omega) _

set_option maxRecDepth 100000 in
set_option maxHeartbeats 8000000 in
theorem refBinary_cmp3 (o : COp) (t : ByteArray) (a f : Int) (s : ByteArray) (r0 r1 r2 r3 : Int) (p i : Value) (b f2 : Int) (s2 : ByteArray) (q0 q1 q2 q3 : Int) (p2 i2 : Value) (w : World) (x0 y0 z0 : Bool) (HO : Hid (∀ W, Calls Tryd.prog 47 #[D 3 t a f s r0 r1 r2 r3 p i, D 3 t b f2 s2 q0 q1 q2 q3 p2 i2] W fun r w' => r = .returned (.tuple #[.bool x0, .bool y0, .bool z0]) ∧ Below W.heap.size W w'))  :
    Calls Tryd.prog 16 #[.string o.txt, D 3 t a f s r0 r1 r2 r3 p i, D 3 t b f2 s2 q0 q1 q2 q3 p2 i2] w fun r w' => r = .returned (.tuple #[dat 1 ⟨#[98, 111, 111, 108]⟩ (b01 (whV o x0 y0 z0)) 0 ⟨#[]⟩, .agg #[.string ⟨#[]⟩, .string ⟨#[]⟩]]) ∧ Below w.heap.size w w' := by
  have HW : Hid (∀ W, Calls Tryd.prog 48 #[.string o.txt, .bool x0, .bool y0, .bool z0] W fun r w' => r = .returned (.tuple #[.bool (whV o x0 y0 z0), .bool true]) ∧ w' = W) := fun W => whether_any o x0 y0 z0 W
  have HB : Hid (∀ W, Calls Tryd.prog 49 #[.bool (whV o x0 y0 z0)] W fun r w' => r = .returned (dat 1 ⟨#[98, 111, 111, 108]⟩ (b01 (whV o x0 y0 z0)) 0 ⟨#[]⟩) ∧ Below W.heap.size W w') := fun W => boolean_any _ W
  generalize b01 (whV o x0 y0 z0) = n at HB ⊢
  generalize whV o x0 y0 z0 = v at HW HB
  generalize o.txt = u at HW ⊢
  simp only [dat, D] at HO HB ⊢
  go_enter Tryd.func16, Tryd.ntmps16
  go_wp2_with fail
  refine (HO.out _).mono ?_
  rintro r w1 ⟨rfl, b1⟩
  obtain ⟨ea, eb, R2, R3, z⟩ := four_kept _ _ _ _ b1
  go_wp2_with fail
  refine (HW.out _).mono ?_
  rintro r w1 ⟨rfl, rfl⟩
  go_wp2_with fail
  refine (HB.out _).mono ?_
  rintro r w2 ⟨rfl, b2⟩
  have hb := b1.trans (b2.mono b1.size)
  clear ea eb R2 R3 z b1 b2
  obtain ⟨ea, eb, R2, R3, z⟩ := four_kept _ _ _ _ hb
  obtain ⟨⟨c0, c1, c2, c3, c4, c5, c6, c7, c8, c9, c10⟩, hf2⟩ := box_kept R2.out
  obtain ⟨g0, g1, gf⟩ := box35_kept R3.out
  clear R2 R3
  go_wp2_with fail
  refine bodyPost_ret (v := .tuple #[.agg #[.int .i64 1, .string ⟨#[98, 111, 111, 108]⟩, .int .i64 n, .int .u64 0, .string ⟨#[]⟩, .int .i64 0, .int .i64 0, .int .i64 0, .int .i64 0, .slice none 0 0, .slice none 0 0], .agg #[.string ⟨#[]⟩, .string ⟨#[]⟩]]) (by simp [results, Tryd.results16, go_sem, c0, c1, c2, c3, c4, c5, c6, c7, c8, c9, c10, g0, g1]) rfl ⟨rfl, ?_⟩
  exact ((bset ((below4 w _ _ _ _).trans (hb.mono (by simp; omega))) (by omega : w.heap.size ≤ w.heap.size + 1 + 1) _ _ _ _ _ _ _ _ _ _ _).setCell (by show _ ≤ _; simp; omega) _).setCell (by show _ ≤ _; simp; omega) _

set_option maxRecDepth 100000 in
set_option maxHeartbeats 8000000 in
theorem refBinary_cmp4 (o : COp) (t : ByteArray) (a f : Int) (s : ByteArray) (r0 r1 r2 r3 : Int) (p i : Value) (b f2 : Int) (s2 : ByteArray) (q0 q1 q2 q3 : Int) (p2 i2 : Value) (w : World) (x0 y0 z0 : Bool) (HO : Hid (∀ W, Calls Tryd.prog 47 #[D 4 t a f s r0 r1 r2 r3 p i, D 4 t b f2 s2 q0 q1 q2 q3 p2 i2] W fun r w' => r = .returned (.tuple #[.bool x0, .bool y0, .bool z0]) ∧ Below W.heap.size W w'))  :
    Calls Tryd.prog 16 #[.string o.txt, D 4 t a f s r0 r1 r2 r3 p i, D 4 t b f2 s2 q0 q1 q2 q3 p2 i2] w fun r w' => r = .returned (.tuple #[dat 1 ⟨#[98, 111, 111, 108]⟩ (b01 (whV o x0 y0 z0)) 0 ⟨#[]⟩, .agg #[.string ⟨#[]⟩, .string ⟨#[]⟩]]) ∧ Below w.heap.size w w' := by
  have HW : Hid (∀ W, Calls Tryd.prog 48 #[.string o.txt, .bool x0, .bool y0, .bool z0] W fun r w' => r = .returned (.tuple #[.bool (whV o x0 y0 z0), .bool true]) ∧ w' = W) := fun W => whether_any o x0 y0 z0 W
  have HB : Hid (∀ W, Calls Tryd.prog 49 #[.bool (whV o x0 y0 z0)] W fun r w' => r = .returned (dat 1 ⟨#[98, 111, 111, 108]⟩ (b01 (whV o x0 y0 z0)) 0 ⟨#[]⟩) ∧ Below W.heap.size W w') := fun W => boolean_any _ W
  generalize b01 (whV o x0 y0 z0) = n at HB ⊢
  generalize whV o x0 y0 z0 = v at HW HB
  generalize o.txt = u at HW ⊢
  simp only [dat, D] at HO HB ⊢
  go_enter Tryd.func16, Tryd.ntmps16
  go_wp2_with fail
  refine (HO.out _).mono ?_
  rintro r w1 ⟨rfl, b1⟩
  obtain ⟨ea, eb, R2, R3, z⟩ := four_kept _ _ _ _ b1
  go_wp2_with fail
  refine (HW.out _).mono ?_
  rintro r w1 ⟨rfl, rfl⟩
  go_wp2_with fail
  refine (HB.out _).mono ?_
  rintro r w2 ⟨rfl, b2⟩
  have hb := b1.trans (b2.mono b1.size)
  clear ea eb R2 R3 z b1 b2
  obtain ⟨ea, eb, R2, R3, z⟩ := four_kept _ _ _ _ hb
  obtain ⟨⟨c0, c1, c2, c3, c4, c5, c6, c7, c8, c9, c10⟩, hf2⟩ := box_kept R2.out
  obtain ⟨g0, g1, gf⟩ := box35_kept R3.out
  clear R2 R3
  go_wp2_with fail
  refine bodyPost_ret (v := .tuple #[.agg #[.int .i64 1, .string ⟨#[98, 111, 111, 108]⟩, .int .i64 n, .int .u64 0, .string ⟨#[]⟩, .int .i64 0, .int .i64 0, .int .i64 0, .int .i64 0, .slice none 0 0, .slice none 0 0], .agg #[.string ⟨#[]⟩, .string ⟨#[]⟩]]) (by simp [results, Tryd.results16, go_sem, c0, c1, c2, c3, c4, c5, c6, c7, c8, c9, c10, g0, g1]) rfl ⟨rfl, ?_⟩
  exact ((bset ((below4 w _ _ _ _).trans (hb.mono (by simp; omega))) (by omega : w.heap.size ≤ w.heap.size + 1 + 1) _ _ _ _ _ _ _ _ _ _ _).setCell (by show _ ≤ _; simp; omega) _).setCell (by show _ ≤ _; simp; omega) _
end Go.Proofs.YtoplmbboaobahaaDoor
