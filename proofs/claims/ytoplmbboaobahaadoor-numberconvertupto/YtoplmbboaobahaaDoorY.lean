/-
  The walks of the document's own Unary.
-/
import Derived.Test.YtoplmbboaobahaaDoorX
import Derived.Test.YtoplmbboaobahaaDoorL
namespace Go.Proofs.YtoplmbboaobahaaDoor
open Go.RowKit

theorem fz (w : World) (b : Nat) (c : Array Value) (t : TypeId) (i : Nat) (h : w.heap[b]? = some (.cells c t (0, 0))) : w.frozen? ⟨b, i, none⟩ = false := by unfold World.frozen?; rw [h]; simp
theorem heap4_1 (w : World) (o1 o2 o3 o4 : Obj) : ((((w.alloc o1).alloc o2).alloc o3).alloc o4).heap[w.heap.size + 1]? = some o2 := by
  rw [Below.heap_alloc _ _ _ (by simp), Below.heap_alloc _ _ _ (by simp)]; exact heap2_1 _ _ _
theorem heap4_2 (w : World) (o1 o2 o3 o4 : Obj) : ((((w.alloc o1).alloc o2).alloc o3).alloc o4).heap[w.heap.size + 1 + 1]? = some o3 := by
  rw [Below.heap_alloc _ _ _ (by simp)]; exact heap3_2 _ _ _ _
theorem frozen4_1 (w : World) (c : Array Value) (t : TypeId) (o1 o3 o4 : Obj) (i : Nat) : ((((w.alloc o1).alloc (.cells c t)).alloc o3).alloc o4).frozen? ⟨w.heap.size + 1, i, none⟩ = false := fz _ _ c t i (heap4_1 _ _ _ _ _)
theorem frozen4_2 (w : World) (c : Array Value) (t : TypeId) (o1 o2 o4 : Obj) (i : Nat) : ((((w.alloc o1).alloc o2).alloc (.cells c t)).alloc o4).frozen? ⟨w.heap.size + 1 + 1, i, none⟩ = false := fz _ _ c t i (heap4_2 _ _ _ _ _)
theorem cell4_2 (w : World) (c : Array Value) (t : TypeId) (o1 o2 o4 : Obj) (i : Nat) : ((((w.alloc o1).alloc o2).alloc (.cells c t)).alloc o4).cell? ⟨w.heap.size + 1 + 1, i, none⟩ = c[i]? := by
  unfold World.cell?; rw [heap4_2]; rfl

attribute [local go_sem] refold2 cell3_0 cell3_1 cell4_0 cell4_1 cell4_2 frozen4_1 frozen4_2 b28_0 b28_01 b28_012 b28_013 b28_014 b35_01 b35_0 b35 mkI69 x56 x57

theorem wrap64_wr (x : Int) : wrap64 x = wr x := by simp only [wrap64, wr]

set_option maxRecDepth 100000 in
set_option maxHeartbeats 4000000 in
theorem refUnary_neg (t : ByteArray) (a f : Int) (s : ByteArray) (r0 r1 r2 r3 : Int) (p i : Value) (w : World) (ha0 : -9223372036854775808 ≤ a) (ha1 : a ≤ 9223372036854775807) :
    Calls Tryd.prog 11 #[.string ⟨#[45]⟩, D 2 t a f s r0 r1 r2 r3 p i] w fun r w' => r = .returned (.tuple #[.agg #[.int .i64 2, .string t, .int .i64 (wr (-a)), .int .u64 0, .string ⟨#[]⟩, .int .i64 0, .int .i64 0, .int .i64 0, .int .i64 0, .slice none 0 0, .slice none 0 0], .agg #[.string ⟨#[]⟩, .string ⟨#[]⟩]]) ∧ Below w.heap.size w w' := by
  have e : wr (bits BinOp.xor .i64 (-1) a + 1) = wr (-a) := by rw [not_i64 a ha0 ha1]; congr 1; omega
  rw [← e]
  clear e ha0 ha1
  simp only [D]
  go_enter Tryd.func11, Tryd.ntmps11
  go_wp2
  · refine bodyPost_ret (v := .tuple #[.agg #[.int .i64 2, .string t, .int .i64 (wr (bits BinOp.xor .i64 (-1) a + 1)), .int .u64 0, .string ⟨#[]⟩, .int .i64 0, .int .i64 0, .int .i64 0, .int .i64 0, .slice none 0 0, .slice none 0 0], .agg #[.string ⟨#[]⟩, .string ⟨#[]⟩]]) (by simp [results, Tryd.results11, go_sem, wrap64_wr]) rfl ⟨rfl, below4 _ _ _ _ _⟩
  all_goals exact absurd ‹IntKind.i64.signed = false› (by decide)

set_option maxRecDepth 100000 in
set_option maxHeartbeats 4000000 in
theorem refUnary_xor (t : ByteArray) (a f : Int) (s : ByteArray) (r0 r1 r2 r3 : Int) (p i : Value) (w : World) (ha0 : -9223372036854775808 ≤ a) (ha1 : a ≤ 9223372036854775807) :
    Calls Tryd.prog 11 #[.string ⟨#[94]⟩, D 2 t a f s r0 r1 r2 r3 p i] w fun r w' => r = .returned (.tuple #[.agg #[.int .i64 2, .string t, .int .i64 (bits BinOp.xor .i64 (-1) a), .int .u64 0, .string ⟨#[]⟩, .int .i64 0, .int .i64 0, .int .i64 0, .int .i64 0, .slice none 0 0, .slice none 0 0], .agg #[.string ⟨#[]⟩, .string ⟨#[]⟩]]) ∧ Below w.heap.size w w' := by
  rw [not_i64 a ha0 ha1]
  simp only [D]
  go_enter Tryd.func11, Tryd.ntmps11
  go_wp2
  · refine bodyPost_ret (v := .tuple #[.agg #[.int .i64 2, .string t, .int .i64 (-1 - a), .int .u64 0, .string ⟨#[]⟩, .int .i64 0, .int .i64 0, .int .i64 0, .int .i64 0, .slice none 0 0, .slice none 0 0], .agg #[.string ⟨#[]⟩, .string ⟨#[]⟩]]) (by simp [results, Tryd.results11, go_sem]) rfl ⟨rfl, below4 _ _ _ _ _⟩

set_option maxRecDepth 100000 in
set_option maxHeartbeats 4000000 in
theorem refUnary_bool (t : ByteArray) (a f : Int) (s : ByteArray) (r0 r1 r2 r3 : Int) (p i : Value) (w : World) :
    Calls Tryd.prog 11 #[.string ⟨#[33]⟩, D 1 t a f s r0 r1 r2 r3 p i] w fun r w' => r = .returned (.tuple #[.agg #[.int .i64 1, .string t, .int .i64 (b01 (a == 0)), .int .u64 0, .string ⟨#[]⟩, .int .i64 0, .int .i64 0, .int .i64 0, .int .i64 0, .slice none 0 0, .slice none 0 0], .agg #[.string ⟨#[]⟩, .string ⟨#[]⟩]]) ∧ Below w.heap.size w w' := by
  simp only [D]
  by_cases h : a = 0
  · subst h
    rw [show b01 ((0 : Int) == 0) = 1 from rfl]
    go_enter Tryd.func11, Tryd.ntmps11
    go_wp2
    refine bodyPost_ret (v := .tuple #[.agg #[.int .i64 1, .string t, .int .i64 1, .int .u64 0, .string ⟨#[]⟩, .int .i64 0, .int .i64 0, .int .i64 0, .int .i64 0, .slice none 0 0, .slice none 0 0], .agg #[.string ⟨#[]⟩, .string ⟨#[]⟩]]) (by simp [results, Tryd.results11, go_sem]) rfl ⟨rfl, below4 _ _ _ _ _⟩
  · have hb : (a == 0) = false := by simpa using h
    rw [hb, show b01 false = 0 from rfl]
    go_enter Tryd.func11, Tryd.ntmps11
    go_wp2
    refine bodyPost_ret (v := .tuple #[.agg #[.int .i64 1, .string t, .int .i64 0, .int .u64 0, .string ⟨#[]⟩, .int .i64 0, .int .i64 0, .int .i64 0, .int .i64 0, .slice none 0 0, .slice none 0 0], .agg #[.string ⟨#[]⟩, .string ⟨#[]⟩]]) (by simp [results, Tryd.results11, go_sem]) rfl ⟨rfl, below4 _ _ _ _ _⟩

theorem and2047 (x : Int) (h0 : 0 ≤ x) (h1 : x ≤ 18446744073709551615) : bits .and .u64 x 2047 = x % 2048 := by
  obtain ⟨n, rfl⟩ : ∃ n : Nat, x = n := ⟨x.toNat, by omega⟩
  show IntKind.u64.wrap ((BitVec.ofInt 64 (n : Int) &&& BitVec.ofInt 64 2047).toNat : Int) = _
  have e1 : BitVec.ofInt 64 2047 = BitVec.ofNat 64 (2 ^ 11 - 1) := by decide
  rw [e1, BitVec.toNat_and, BitVec.toNat_ofInt, BitVec.toNat_ofNat]
  have e2 : ((n : Int) % ((2 ^ 64 : Nat) : Int)).toNat = n := by
    have : (n : Int) % ((2 ^ 64 : Nat) : Int) = n := by rw [show ((2 ^ 64 : Nat) : Int) = 18446744073709551616 by decide]; omega
    rw [this]; rfl
  rw [e2, Nat.mod_eq_of_lt (by decide : 2 ^ 11 - 1 < 2 ^ 64), Nat.and_two_pow_sub_one_eq_mod]
  simp [IntKind.wrap, IntKind.bits, IntKind.signed]
  omega

theorem wrap4096 (f : Int) : IntKind.u64.wrap (f * 4096) = f * 4096 % 18446744073709551616 := by simp [IntKind.wrap, IntKind.bits, IntKind.signed]

theorem refIsNaN_any (f : Int) (w : World) (h0 : 0 ≤ f) (h1 : f ≤ 18446744073709551615) : Calls Tryd.prog 66 #[.int .u64 f] w fun r w' => r = .returned (.bool (isNan f.toNat)) ∧ w' = w := by
  have e1 := and2047 (f / 4503599627370496) (by omega) (by omega)
  have e2 := wrap4096 f
  have e3 : isNan f.toNat = ((f / 4503599627370496 % 2048 == 2047) && (f * 4096 % 18446744073709551616 != 0)) := by
    unfold isNan
    rw [Bool.eq_iff_iff]
    simp
    omega
  have E1 : Hid _ := e1
  have E2 : Hid _ := e2
  clear e1 e2
  rw [e3]
  clear e3
  go_enter Tryd.func66, Tryd.ntmps66
  go_wp2
  · have hq : bits BinOp.and IntKind.u64 (f / 4503599627370496) 2047 = 2047 := by assumption
    rw [E1.out] at hq
    go_ret
    rw [hq, E2.out]
    exact ⟨rfl, rfl⟩
  · have hq : ¬ bits BinOp.and IntKind.u64 (f / 4503599627370496) 2047 = 2047 := by assumption
    rw [E1.out] at hq
    have hb : (f / 4503599627370496 % 2048 == 2047) = false := by simpa using hq
    go_ret
    rw [hb]
    exact ⟨rfl, rfl⟩

set_option maxRecDepth 100000 in
theorem refBits_any (f : Int) (w : World) (h0 : 0 ≤ f) (h1 : f ≤ 18446744073709551615) : Calls Tryd.prog 39 #[.int .u64 f] w fun r w' => r = .returned (.int .u64 (canon f)) ∧ w' = w := by
  have HN : Hid (∀ W, Calls Tryd.prog 66 #[.int .u64 f] W fun r w' => r = .returned (.bool (isNan f.toNat)) ∧ w' = W) := fun W => refIsNaN_any f W h0 h1
  unfold canon
  generalize isNan f.toNat = v at HN ⊢
  clear h0 h1
  cases v <;> simp only [Bool.false_eq_true, ↓reduceIte]
  all_goals
    go_enter Tryd.func39, Tryd.ntmps39
    go_wp2_with (go_at_call 66; refine (HN.out _).mono ?_; rintro r w' ⟨rfl, rfl⟩)
    go_ret
    exact ⟨rfl, rfl⟩

set_option maxRecDepth 100000 in
set_option maxHeartbeats 4000000 in
theorem refUnary_flt (t : ByteArray) (a f : Int) (s : ByteArray) (r0 r1 r2 r3 : Int) (p i : Value) (w : World) :
    Calls Tryd.prog 11 #[.string ⟨#[45]⟩, D 3 t a f s r0 r1 r2 r3 p i] w fun r w' => r = .returned (.tuple #[.agg #[.int .i64 3, .string t, .int .i64 0, .int .u64 (canon (flip f)), .string ⟨#[]⟩, .int .i64 0, .int .i64 0, .int .i64 0, .int .i64 0, .slice none 0 0, .slice none 0 0], .agg #[.string ⟨#[]⟩, .string ⟨#[]⟩]]) ∧ Below w.heap.size w w' := by
  have HF : Hid (∀ W, Calls Tryd.prog 39 #[.int .u64 (flip f)] W fun r w' => r = .returned (.int .u64 (canon (flip f))) ∧ w' = W) := fun W => refBits_any _ W (flip_bounds f).1 (flip_bounds f).2
  generalize canon (flip f) = v at HF ⊢
  unfold flip at HF
  simp only [D]
  go_enter Tryd.func11, Tryd.ntmps11
  go_wp2_with (go_at_call 39; refine (HF.out _).mono ?_; rintro r w' ⟨rfl, rfl⟩)
  refine bodyPost_ret (v := .tuple #[.agg #[.int .i64 3, .string t, .int .i64 0, .int .u64 v, .string ⟨#[]⟩, .int .i64 0, .int .i64 0, .int .i64 0, .int .i64 0, .slice none 0 0, .slice none 0 0], .agg #[.string ⟨#[]⟩, .string ⟨#[]⟩]]) (by simp [results, Tryd.results11, go_sem]) rfl ⟨rfl, below4 _ _ _ _ _⟩

set_option maxRecDepth 100000 in
set_option maxHeartbeats 1000000 in
theorem refFault_any (x y : ByteArray) (w : World) : Calls Tryd.prog 40 #[.string x, .string y] w fun r w' => r = .returned (.agg #[.string x, .string y]) ∧ Below w.heap.size w w' := by
  go_enter Tryd.func40, Tryd.ntmps40
  go_wp2
  refine bodyPost_ret (v := .agg #[.string x, .string y]) (by simp [results, Tryd.results40, go_sem]) rfl ⟨rfl, ?_⟩
  exact below1 _ _

set_option maxRecDepth 100000 in
set_option maxHeartbeats 8000000 in
theorem refUnary_bad (u : ByteArray) (k : Int) (t : ByteArray) (a f : Int) (s : ByteArray) (r0 r1 r2 r3 : Int) (p i : Value) (w : World) (ht : t.size ≤ 140737488351232) (hu : u.size ≤ 140737488351232) (h : noUn u k) :
    Calls Tryd.prog 11 #[.string u, D k t a f s r0 r1 r2 r3 p i] w fun r w' => r = .returned (.tuple #[.agg #[.int .i64 0, .string ⟨#[]⟩, .int .i64 0, .int .u64 0, .string ⟨#[]⟩, .int .i64 0, .int .i64 0, .int .i64 0, .int .i64 0, .slice none 0 0, .slice none 0 0], .agg #[.string ⟨#[111, 112, 101, 114, 97, 110, 100]⟩, .string (opd u k t)]]) ∧ Below w.heap.size w w' := by
  have HN : Hid (∀ W, Calls Tryd.prog 29 #[D k t a f s r0 r1 r2 r3 p i] W fun r w' => r = .returned (.string (nm k t)) ∧ Below W.heap.size W w') := fun W => refName_any k t a f s r0 r1 r2 r3 p i W ht
  have hns := nm_size k t ht
  unfold opd
  generalize nm k t = v at HN hns ⊢
  have hus : (u ++ ⟨#[32]⟩ : ByteArray).size = u.size + 1 := by rw [ByteArray.size_append]; rfl
  obtain ⟨h1, h2, h3⟩ := h
  simp only [D] at HN ⊢
  by_cases e45 : u.toList = [45]
  · obtain ⟨k2, k3⟩ := h1 e45
    clear h1 h2 h3
    go_enter Tryd.func11, Tryd.ntmps11
    go_wp2_with fail
    refine (HN.out _).mono ?_
    rintro r w1 ⟨rfl, b1⟩
    go_wp2_with fail
    refine (refFault_any _ _ _).mono ?_
    rintro r w2 ⟨rfl, b2⟩
    have hb := b1.trans (b2.mono b1.size)
    have R1 := (hb.block (w.heap.size + 1) (by simp)).trans (heap4_1 _ _ _ _ _)
    have R2 := (hb.block (w.heap.size + 1 + 1) (by simp)).trans (heap4_2 _ _ _ _ _)
    obtain ⟨⟨c0, c1, c2, c3, c4, c5, c6, c7, c8, c9, c10⟩, hf2⟩ := box_kept R1
    have g0 : w2.cell? ⟨w.heap.size + 1 + 1, 0, none⟩ = some (.string ⟨#[]⟩) := by unfold World.cell?; rw [R2]; rfl
    have g1 : w2.cell? ⟨w.heap.size + 1 + 1, 1, none⟩ = some (.string ⟨#[]⟩) := by unfold World.cell?; rw [R2]; rfl
    have gf : ∀ j, w2.frozen? ⟨w.heap.size + 1 + 1, j, none⟩ = false := fun j => fz _ _ _ _ j R2
    clear R1 R2
    go_wp2_with fail
    refine bodyPost_ret (v := .tuple #[.agg #[.int .i64 0, .string ⟨#[]⟩, .int .i64 0, .int .u64 0, .string ⟨#[]⟩, .int .i64 0, .int .i64 0, .int .i64 0, .int .i64 0, .slice none 0 0, .slice none 0 0], .agg #[.string ⟨#[111, 112, 101, 114, 97, 110, 100]⟩, .string (u ++ ⟨#[32]⟩ ++ v)]]) (by simp [results, Tryd.results11, go_sem, c0, c1, c2, c3, c4, c5, c6, c7, c8, c9, c10, g0, g1]) rfl ⟨rfl, ?_⟩
    have hq := bset ((below4 w _ _ _ _).trans (hb.mono (by simp; omega))) (by omega : w.heap.size ≤ w.heap.size + 1) (.int .i64 0) (.string ⟨#[]⟩) (.int .i64 0) (.int .u64 0) (.string ⟨#[]⟩) (.int .i64 0) (.int .i64 0) (.int .i64 0) (.int .i64 0) (.slice none 0 0) (.slice none 0 0)
    exact (hq.setCell (by show _ ≤ _; simp; omega) _).setCell (by show _ ≤ _; simp; omega) _
  · by_cases e94 : u.toList = [94]
    · have k2 := h2 e94
      clear h1 h2 h3
      go_enter Tryd.func11, Tryd.ntmps11
      go_wp2_with fail
      refine (HN.out _).mono ?_
      rintro r w1 ⟨rfl, b1⟩
      go_wp2_with fail
      refine (refFault_any _ _ _).mono ?_
      rintro r w2 ⟨rfl, b2⟩
      have hb := b1.trans (b2.mono b1.size)
      have R1 := (hb.block (w.heap.size + 1) (by simp)).trans (heap4_1 _ _ _ _ _)
      have R2 := (hb.block (w.heap.size + 1 + 1) (by simp)).trans (heap4_2 _ _ _ _ _)
      obtain ⟨⟨c0, c1, c2, c3, c4, c5, c6, c7, c8, c9, c10⟩, hf2⟩ := box_kept R1
      have g0 : w2.cell? ⟨w.heap.size + 1 + 1, 0, none⟩ = some (.string ⟨#[]⟩) := by unfold World.cell?; rw [R2]; rfl
      have g1 : w2.cell? ⟨w.heap.size + 1 + 1, 1, none⟩ = some (.string ⟨#[]⟩) := by unfold World.cell?; rw [R2]; rfl
      have gf : ∀ j, w2.frozen? ⟨w.heap.size + 1 + 1, j, none⟩ = false := fun j => fz _ _ _ _ j R2
      clear R1 R2
      go_wp2_with fail
      refine bodyPost_ret (v := .tuple #[.agg #[.int .i64 0, .string ⟨#[]⟩, .int .i64 0, .int .u64 0, .string ⟨#[]⟩, .int .i64 0, .int .i64 0, .int .i64 0, .int .i64 0, .slice none 0 0, .slice none 0 0], .agg #[.string ⟨#[111, 112, 101, 114, 97, 110, 100]⟩, .string (u ++ ⟨#[32]⟩ ++ v)]]) (by simp [results, Tryd.results11, go_sem, c0, c1, c2, c3, c4, c5, c6, c7, c8, c9, c10, g0, g1]) rfl ⟨rfl, ?_⟩
      have hq := bset ((below4 w _ _ _ _).trans (hb.mono (by simp; omega))) (by omega : w.heap.size ≤ w.heap.size + 1) (.int .i64 0) (.string ⟨#[]⟩) (.int .i64 0) (.int .u64 0) (.string ⟨#[]⟩) (.int .i64 0) (.int .i64 0) (.int .i64 0) (.int .i64 0) (.slice none 0 0) (.slice none 0 0)
      exact (hq.setCell (by show _ ≤ _; simp; omega) _).setCell (by show _ ≤ _; simp; omega) _
    · by_cases e33 : u.toList = [33]
      · have k1 := h3 e33
        clear h1 h2 h3
        go_enter Tryd.func11, Tryd.ntmps11
        go_wp2_with fail
        refine (HN.out _).mono ?_
        rintro r w1 ⟨rfl, b1⟩
        go_wp2_with fail
        refine (refFault_any _ _ _).mono ?_
        rintro r w2 ⟨rfl, b2⟩
        have hb := b1.trans (b2.mono b1.size)
        have R1 := (hb.block (w.heap.size + 1) (by simp)).trans (heap4_1 _ _ _ _ _)
        have R2 := (hb.block (w.heap.size + 1 + 1) (by simp)).trans (heap4_2 _ _ _ _ _)
        obtain ⟨⟨c0, c1, c2, c3, c4, c5, c6, c7, c8, c9, c10⟩, hf2⟩ := box_kept R1
        have g0 : w2.cell? ⟨w.heap.size + 1 + 1, 0, none⟩ = some (.string ⟨#[]⟩) := by unfold World.cell?; rw [R2]; rfl
        have g1 : w2.cell? ⟨w.heap.size + 1 + 1, 1, none⟩ = some (.string ⟨#[]⟩) := by unfold World.cell?; rw [R2]; rfl
        have gf : ∀ j, w2.frozen? ⟨w.heap.size + 1 + 1, j, none⟩ = false := fun j => fz _ _ _ _ j R2
        clear R1 R2
        go_wp2_with fail
        refine bodyPost_ret (v := .tuple #[.agg #[.int .i64 0, .string ⟨#[]⟩, .int .i64 0, .int .u64 0, .string ⟨#[]⟩, .int .i64 0, .int .i64 0, .int .i64 0, .int .i64 0, .slice none 0 0, .slice none 0 0], .agg #[.string ⟨#[111, 112, 101, 114, 97, 110, 100]⟩, .string (u ++ ⟨#[32]⟩ ++ v)]]) (by simp [results, Tryd.results11, go_sem, c0, c1, c2, c3, c4, c5, c6, c7, c8, c9, c10, g0, g1]) rfl ⟨rfl, ?_⟩
        have hq := bset ((below4 w _ _ _ _).trans (hb.mono (by simp; omega))) (by omega : w.heap.size ≤ w.heap.size + 1) (.int .i64 0) (.string ⟨#[]⟩) (.int .i64 0) (.int .u64 0) (.string ⟨#[]⟩) (.int .i64 0) (.int .i64 0) (.int .i64 0) (.int .i64 0) (.slice none 0 0) (.slice none 0 0)
        exact (hq.setCell (by show _ ≤ _; simp; omega) _).setCell (by show _ ≤ _; simp; omega) _
      · clear h1 h2 h3
        have e45b : (u.toList == [45]) = false := by simpa using e45
        have e94b : (u.toList == [94]) = false := by simpa using e94
        have e33b : (u.toList == [33]) = false := by simpa using e33
        go_enter Tryd.func11, Tryd.ntmps11
        go_wp2_with fail
        refine (HN.out _).mono ?_
        rintro r w1 ⟨rfl, b1⟩
        go_wp2_with fail
        refine (refFault_any _ _ _).mono ?_
        rintro r w2 ⟨rfl, b2⟩
        have hb := b1.trans (b2.mono b1.size)
        have R1 := (hb.block (w.heap.size + 1) (by simp)).trans (heap4_1 _ _ _ _ _)
        have R2 := (hb.block (w.heap.size + 1 + 1) (by simp)).trans (heap4_2 _ _ _ _ _)
        obtain ⟨⟨c0, c1, c2, c3, c4, c5, c6, c7, c8, c9, c10⟩, hf2⟩ := box_kept R1
        have g0 : w2.cell? ⟨w.heap.size + 1 + 1, 0, none⟩ = some (.string ⟨#[]⟩) := by unfold World.cell?; rw [R2]; rfl
        have g1 : w2.cell? ⟨w.heap.size + 1 + 1, 1, none⟩ = some (.string ⟨#[]⟩) := by unfold World.cell?; rw [R2]; rfl
        have gf : ∀ j, w2.frozen? ⟨w.heap.size + 1 + 1, j, none⟩ = false := fun j => fz _ _ _ _ j R2
        clear R1 R2
        go_wp2_with fail
        refine bodyPost_ret (v := .tuple #[.agg #[.int .i64 0, .string ⟨#[]⟩, .int .i64 0, .int .u64 0, .string ⟨#[]⟩, .int .i64 0, .int .i64 0, .int .i64 0, .int .i64 0, .slice none 0 0, .slice none 0 0], .agg #[.string ⟨#[111, 112, 101, 114, 97, 110, 100]⟩, .string (u ++ ⟨#[32]⟩ ++ v)]]) (by simp [results, Tryd.results11, go_sem, c0, c1, c2, c3, c4, c5, c6, c7, c8, c9, c10, g0, g1]) rfl ⟨rfl, ?_⟩
        have hq := bset ((below4 w _ _ _ _).trans (hb.mono (by simp; omega))) (by omega : w.heap.size ≤ w.heap.size + 1) (.int .i64 0) (.string ⟨#[]⟩) (.int .i64 0) (.int .u64 0) (.string ⟨#[]⟩) (.int .i64 0) (.int .i64 0) (.int .i64 0) (.int .i64 0) (.slice none 0 0) (.slice none 0 0)
        exact (hq.setCell (by show _ ≤ _; simp; omega) _).setCell (by show _ ≤ _; simp; omega) _
end Go.Proofs.YtoplmbboaobahaaDoor
