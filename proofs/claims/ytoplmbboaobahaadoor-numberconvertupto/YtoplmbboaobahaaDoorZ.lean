/-
  The walk of NumberUnary.
-/
import Derived.Test.YtoplmbboaobahaaDoorY
import Derived.Test.YtoplmbboaobahaaDoorK
import Derived.LaidEql
namespace Go.Proofs.YtoplmbboaobahaaDoor
open Go.RowKit

attribute [local go_sem] refold2 cell3_0 cell3_1 b28_0 b28_01 b28_012 b28_013 b28_014 b35_01 b35_0 b35 mkI69 ta69

theorem ta_nil (W : World) : (Instr.typeAssert .nilIface 31 69 true).run Tryd.prog W = .ok (.tuple #[.pointer none, .bool false]) W := by
  simp [Instr.typeAssert, go_sem]

set_option maxRecDepth 100000 in
theorem told_nil (w : World) : Calls Tryd.prog 13 #[.nilIface, .agg #[.string ⟨#[]⟩, .string ⟨#[]⟩]] w fun r w' => r = .returned (.bool true) ∧ Below w.heap.size w w' := by
  go_enter Tryd.func13, Tryd.ntmps13
  go_wp2
  go_ret
  exact ⟨rfl, below1 _ _⟩

theorem fresh_nil (w : World) : Calls Tryd.prog 14 #[.nilIface, .nilIface] w fun r w' => r = .returned (.bool true) ∧ w' = w := by
  have ha := ta_nil
  go_enter Tryd.func14, Tryd.ntmps14
  go_wp2
  go_ret
  exact ⟨rfl, rfl⟩

theorem eqIn_two (d : Nat) (b b' : Nat) (c c' : Array Value) (w : World) (hne : b ≠ b') (h : w.heap[b]? = some (.cells c 35 (0, 0))) (h' : w.heap[b']? = some (.cells c' 35 (0, 0))) :
    (Op.equalIn (d + 1) 69 (.pointer (some ⟨b, 0, none⟩)) (.pointer (some ⟨b', 0, none⟩))).run Tryd.prog w = .ok false w := by
  have hs : (sameAddr ⟨b, 0, none⟩ ⟨b', 0, none⟩).run Tryd.prog w = .ok false w := run_sameAddr_other w (fun e => hne (congrArg Addr.block e)) h h'
  have hz : (sizeOf 35).run Tryd.prog w = .ok 2 w := by kernel_rfl
  simp [Op.equalIn, run_underlying Tryd.underlying69, hz, hs]

theorem neq_two (b b' : Nat) (c c' : Array Value) (w : World) (hne : b ≠ b') (h : w.heap[b]? = some (.cells c 35 (0, 0))) (h' : w.heap[b']? = some (.cells c' 35 (0, 0))) :
    (binOp .neq 69 (.pointer (some ⟨b, 0, none⟩)) (.pointer (some ⟨b', 0, none⟩))).run Tryd.prog w = .ok (.bool true) w := by
  have he : (Op.equal 69 (.pointer (some ⟨b, 0, none⟩)) (.pointer (some ⟨b', 0, none⟩))).run Tryd.prog w = .ok false w := eqIn_two 9999 b b' c c' w hne h h'
  simp only [binOp]
  simp [he]

set_option maxHeartbeats 1000000 in
theorem fresh_two (b b' : Nat) (x y x' y' : ByteArray) (w : World) (hne : b ≠ b') (h : w.heap[b]? = some (.cells #[.string x, .string y] 35 (0, 0))) (h' : w.heap[b']? = some (.cells #[.string x', .string y'] 35 (0, 0))) :
    Calls Tryd.prog 14 #[.iface 69 (.pointer (some ⟨b, 0, none⟩)), .iface 69 (.pointer (some ⟨b', 0, none⟩))] w fun r w' => r = .returned (.bool true) ∧ w' = w := by
  have hn := neq_two b b' _ _ w hne h h'
  clear h h' hne
  go_enter Tryd.func14, Tryd.ntmps14
  go_wp2
  go_ret
  exact ⟨rfl, rfl⟩

theorem row_lt {w : World} {n : Nat} {o : Obj} (h : w.heap[n]? = some o) : n < w.heap.size := by
  rcases Nat.lt_or_ge n w.heap.size with h1 | h1
  · exact h1
  · rw [Array.getElem?_eq_none h1] at h; cases h

theorem one_kept (w : World) (c : Array Value) (W : World) (h : Below (w.alloc (.cells c 28)).heap.size (w.alloc (.cells c 28)) W) : ∀ j, W.cell? ⟨w.heap.size, j, none⟩ = c[j]? := fun j => by
  rw [h.cell (p := ⟨w.heap.size, j, none⟩) (by simp), World.cell?_alloc_new]

theorem two_kept (w : World) (c d : Array Value) (W : World) (h : Below ((w.alloc (.cells c 28)).alloc (.cells d 35)).heap.size ((w.alloc (.cells c 28)).alloc (.cells d 35)) W) :
    (∀ j, W.cell? ⟨w.heap.size, j, none⟩ = c[j]?) ∧ (∀ j, W.cell? ⟨w.heap.size + 1, j, none⟩ = d[j]?) := by
  refine ⟨fun j => ?_, fun j => ?_⟩
  · rw [h.cell (p := ⟨w.heap.size, j, none⟩) (by simp; omega), World.cell?_alloc_lt _ _ _ (by simp), World.cell?_alloc_new]
  · rw [h.cell (p := ⟨w.heap.size + 1, j, none⟩) (by simp), show w.heap.size + 1 = (w.alloc (.cells c 28)).heap.size by simp, World.cell?_alloc_new]

theorem bnext {B : Nat} {a w w' : World} {o : Obj} (h : Below B a w) (hB : B ≤ w.heap.size) (k : Below (w.alloc o).heap.size (w.alloc o) w') : Below B a w' :=
  (h.alloc hB o).trans (k.mono (by simp; omega))
theorem bnext2 {B : Nat} {a w w' : World} {o o' : Obj} (h : Below B a w) (hB : B ≤ w.heap.size) (k : Below ((w.alloc o).alloc o').heap.size ((w.alloc o).alloc o') w') : Below B a w' :=
  ((h.alloc hB o).alloc (by simp; omega) o').trans (k.mono (by simp; omega))

set_option maxRecDepth 100000 in
set_option maxHeartbeats 8000000 in
theorem unaryLaw_good (u : ByteArray) (k : Int) (t : ByteArray) (a f : Int) (s : ByteArray) (r0 r1 r2 r3 : Int) (p i : Value) (w : World) (k' : Int) (t' : ByteArray) (n' f' : Int)
    (HU : Hid (∀ W, Calls Tryd.prog 10 #[.string u, .agg #[.int .i64 k, .string t, .int .i64 a, .int .u64 f, .string s, .int .i64 r0, .int .i64 r1, .int .i64 r2, .int .i64 r3, p, i]] W fun r w' => r = .returned (.tuple #[.agg #[.int .i64 k', .string t', .int .i64 n', .int .u64 f', .string ⟨#[]⟩, .int .i64 0, .int .i64 0, .int .i64 0, .int .i64 0, .slice none 0 0, .slice none 0 0], .nilIface]) ∧ Below W.heap.size W w'))
    (HR : Hid (∀ W, Calls Tryd.prog 11 #[.string u, .agg #[.int .i64 k, .string t, .int .i64 a, .int .u64 f, .string s, .int .i64 r0, .int .i64 r1, .int .i64 r2, .int .i64 r3, p, i]] W fun r w' => r = .returned (.tuple #[.agg #[.int .i64 k', .string t', .int .i64 n', .int .u64 f', .string ⟨#[]⟩, .int .i64 0, .int .i64 0, .int .i64 0, .int .i64 0, .slice none 0 0, .slice none 0 0], .agg #[.string ⟨#[]⟩, .string ⟨#[]⟩]]) ∧ Below W.heap.size W w')) :
    Calls Tryd.prog 3 #[.string u, D k t a f s r0 r1 r2 r3 p i] w fun r w' => r = .returned (.bool true) ∧ Below w.heap.size w w' := by
  have HS : Hid (∀ W, Calls Tryd.prog 12 #[.agg #[.int .i64 k', .string t', .int .i64 n', .int .u64 f', .string ⟨#[]⟩, .int .i64 0, .int .i64 0, .int .i64 0, .int .i64 0, .slice none 0 0, .slice none 0 0], .agg #[.int .i64 k', .string t', .int .i64 n', .int .u64 f', .string ⟨#[]⟩, .int .i64 0, .int .i64 0, .int .i64 0, .int .i64 0, .slice none 0 0, .slice none 0 0]] W fun r w' => r = .returned (.bool true) ∧ Below W.heap.size W w') := fun W => same_refl k' t' n' f' ⟨#[]⟩ W
  simp only [D]
  go_enter Tryd.func3, Tryd.ntmps3
  go_wp2_with fail
  refine (known_any _).mono ?_
  rintro r w1 ⟨rfl, b1⟩
  have e1 := one_kept _ _ _ b1
  have y1 : w.heap.size < w1.heap.size := by have := b1.size; simp at this; omega
  have q1 := bnext (Below.refl w.heap.size w) (Nat.le_refl _) b1
  go_wp2_with fail
  refine (HU.out _).mono ?_
  rintro r w2 ⟨rfl, b2⟩
  have c2 := b1.trans (b2.mono b1.size)
  have e2 := one_kept _ _ _ c2
  have y2 : w.heap.size < w2.heap.size := by have := c2.size; simp at this; omega
  have q2 := q1.trans (b2.mono q1.size)
  clear b1 b2 e1 q1 y1
  go_wp2_with fail
  refine (HU.out _).mono ?_
  rintro r w3 ⟨rfl, b3⟩
  have c3 := bnext c2 c2.size b3
  have e3 := one_kept _ _ _ c3
  have x3 := one_kept _ _ _ b3
  have y3 : w.heap.size < w3.heap.size := by have := c3.size; simp at this; omega
  have u3 : w2.heap.size < w3.heap.size := by have := b3.size; simp at this; omega
  have q3 := bnext q2 q2.size b3
  clear e2 c2 y2 q2
  go_wp2_with fail
  refine (HR.out _).mono ?_
  rintro r w4 ⟨rfl, b4⟩
  have d4 := bnext b3 b3.size b4
  have x4 := one_kept _ _ _ d4
  have v4 := one_kept _ _ _ b4
  have u4 : w2.heap.size < w4.heap.size := by have := d4.size; simp at this; omega
  have u5 : w3.heap.size < w4.heap.size := by have := b4.size; simp at this; omega
  have q4 := bnext q3 q3.size b4
  clear e3 c3 x3 q3 y3 u3
  go_wp2_with fail
  refine (HS.out _).mono ?_
  rintro r w5 ⟨rfl, b5⟩
  have f5 := bnext2 b4 b4.size b5
  have v5 := one_kept _ _ _ f5
  obtain ⟨g5, h5⟩ := two_kept _ _ _ _ b5
  have q5 := bnext2 q4 q4.size b5
  clear x4 v4 d4 q4
  go_wp2_with fail
  refine (HS.out _).mono ?_
  rintro r w6 ⟨rfl, b6⟩
  have c6 := b5.trans (b6.mono b5.size)
  obtain ⟨g6, h6⟩ := two_kept _ _ _ _ c6
  have q6 := q5.trans (b6.mono q5.size)
  clear v5 g5 h5 q5 f5
  go_wp2_with fail
  refine (told_nil _).mono ?_
  rintro r w7 ⟨rfl, b7⟩
  have c7 := c6.trans (b7.mono c6.size)
  obtain ⟨g7, h7⟩ := two_kept _ _ _ _ c7
  have q7 := q6.trans (b7.mono q6.size)
  clear g6 h6 q6
  go_wp2_with fail
  refine (told_nil _).mono ?_
  rintro r w8 ⟨rfl, b8⟩
  have q8 := q7.trans (b8.mono q7.size)
  clear g7 h7 q7
  go_wp2_with fail
  refine (fresh_nil _).mono ?_
  rintro r w9 ⟨rfl, rfl⟩
  go_wp2_with fail
  go_ret
  exact ⟨rfl, q8⟩

set_option maxRecDepth 100000 in
set_option maxHeartbeats 8000000 in
theorem unaryLaw_bad (u : ByteArray) (k : Int) (t : ByteArray) (a f : Int) (s : ByteArray) (r0 r1 r2 r3 : Int) (p i : Value) (w : World) (x : ByteArray)
    (HU : Hid (∀ W, Calls Tryd.prog 10 #[.string u, .agg #[.int .i64 k, .string t, .int .i64 a, .int .u64 f, .string s, .int .i64 r0, .int .i64 r1, .int .i64 r2, .int .i64 r3, p, i]] W fun r w' => ∃ n, r = .returned (.tuple #[.agg #[.int .i64 0, .string ⟨#[]⟩, .int .i64 0, .int .u64 0, .string ⟨#[]⟩, .int .i64 0, .int .i64 0, .int .i64 0, .int .i64 0, .slice none 0 0, .slice none 0 0], .iface 69 (.pointer (some ⟨n, 0, none⟩))]) ∧ W.heap.size ≤ n ∧ w'.heap[n]? = some (.cells #[.string ⟨#[111, 112, 101, 114, 97, 110, 100]⟩, .string x] 35 (0, 0)) ∧ Below W.heap.size W w'))
    (HR : Hid (∀ W, Calls Tryd.prog 11 #[.string u, .agg #[.int .i64 k, .string t, .int .i64 a, .int .u64 f, .string s, .int .i64 r0, .int .i64 r1, .int .i64 r2, .int .i64 r3, p, i]] W fun r w' => r = .returned (.tuple #[.agg #[.int .i64 0, .string ⟨#[]⟩, .int .i64 0, .int .u64 0, .string ⟨#[]⟩, .int .i64 0, .int .i64 0, .int .i64 0, .int .i64 0, .slice none 0 0, .slice none 0 0], .agg #[.string ⟨#[111, 112, 101, 114, 97, 110, 100]⟩, .string x]]) ∧ Below W.heap.size W w')) :
    Calls Tryd.prog 3 #[.string u, D k t a f s r0 r1 r2 r3 p i] w fun r w' => r = .returned (.bool true) ∧ Below w.heap.size w w' := by
  have HS : Hid (∀ W, Calls Tryd.prog 12 #[.agg #[.int .i64 0, .string ⟨#[]⟩, .int .i64 0, .int .u64 0, .string ⟨#[]⟩, .int .i64 0, .int .i64 0, .int .i64 0, .int .i64 0, .slice none 0 0, .slice none 0 0], .agg #[.int .i64 0, .string ⟨#[]⟩, .int .i64 0, .int .u64 0, .string ⟨#[]⟩, .int .i64 0, .int .i64 0, .int .i64 0, .int .i64 0, .slice none 0 0, .slice none 0 0]] W fun r w' => r = .returned (.bool true) ∧ Below W.heap.size W w') := fun W => same_refl 0 ⟨#[]⟩ 0 0 ⟨#[]⟩ W
  simp only [D]
  go_enter Tryd.func3, Tryd.ntmps3
  go_wp2_with fail
  refine (known_any _).mono ?_
  rintro r w1 ⟨rfl, b1⟩
  have e1 := one_kept _ _ _ b1
  have y1 : w.heap.size < w1.heap.size := by have := b1.size; simp at this; omega
  have q1 := bnext (Below.refl w.heap.size w) (Nat.le_refl _) b1
  go_wp2_with fail
  refine (HU.out _).mono ?_
  rintro r w2 ⟨m2, rfl, hm2, hr2, b2⟩
  have c2 := b1.trans (b2.mono b1.size)
  have e2 := one_kept _ _ _ c2
  have y2 : w.heap.size < w2.heap.size := by have := c2.size; simp at this; omega
  have q2 := q1.trans (b2.mono q1.size)
  have t2 : m2 < w2.heap.size := row_lt hr2
  have hR2 : Hid _ := hr2
  clear hr2
  clear b1 b2 e1 q1 y1
  go_wp2_with fail
  refine (HU.out _).mono ?_
  rintro r w3 ⟨m3, rfl, hm3, hr3, b3⟩
  have c3 := bnext c2 c2.size b3
  have e3 := one_kept _ _ _ c3
  have x3 := one_kept _ _ _ b3
  have y3 : w.heap.size < w3.heap.size := by have := c3.size; simp at this; omega
  have u3 : w2.heap.size < w3.heap.size := by have := b3.size; simp at this; omega
  have q3 := bnext q2 q2.size b3
  have t3 : m3 < w3.heap.size := row_lt hr3
  have hR3 : Hid _ := hr3
  have hne : m2 ≠ m3 := by simp at hm3; omega
  clear hr3
  clear e2 c2 y2 q2
  go_wp2_with fail
  refine (HR.out _).mono ?_
  rintro r w4 ⟨rfl, b4⟩
  have d4 := bnext b3 b3.size b4
  have x4 := one_kept _ _ _ d4
  have v4 := one_kept _ _ _ b4
  have u4 : w2.heap.size < w4.heap.size := by have := d4.size; simp at this; omega
  have u5 : w3.heap.size < w4.heap.size := by have := b4.size; simp at this; omega
  have q4 := bnext q3 q3.size b4
  clear e3 c3 x3 q3 y3 u3
  go_wp2_with fail
  refine (HS.out _).mono ?_
  rintro r w5 ⟨rfl, b5⟩
  have f5 := bnext2 b4 b4.size b5
  have v5 := one_kept _ _ _ f5
  obtain ⟨g5, h5⟩ := two_kept _ _ _ _ b5
  have q5 := bnext2 q4 q4.size b5
  clear x4 v4 d4 q4
  go_wp2_with fail
  refine (HS.out _).mono ?_
  rintro r w6 ⟨rfl, b6⟩
  have c6 := b5.trans (b6.mono b5.size)
  obtain ⟨g6, h6⟩ := two_kept _ _ _ _ c6
  have q6 := q5.trans (b6.mono q5.size)
  clear v5 g5 h5 q5 f5
  go_wp2_with fail
  have s6 : Below w3.heap.size w3 w6 := ((below1 w3 _).trans ((bnext2 b4 b4.size (b5.trans (b6.mono b5.size))).mono (by simp)))
  have s6' : Below w2.heap.size w2 w6 := (below1 w2 _).trans ((b3.trans (s6.mono b3.size)).mono (by simp))
  refine (told_hit m2 _ _ _ ((s6'.block _ t2).trans hR2.out) (by decide)).mono ?_
  rintro r w7 ⟨rfl, b7⟩
  have c7 := c6.trans (b7.mono c6.size)
  obtain ⟨g7, h7⟩ := two_kept _ _ _ _ c7
  have q7 := q6.trans (b7.mono q6.size)
  have s7 := s6.trans (b7.mono s6.size)
  have s7' := s6'.trans (b7.mono s6'.size)
  clear g6 h6 q6
  go_wp2_with fail
  refine (told_hit m3 _ _ _ ((s7.block _ t3).trans hR3.out) (by decide)).mono ?_
  rintro r w8 ⟨rfl, b8⟩
  have q8 := q7.trans (b8.mono q7.size)
  have s8 := s7.trans (b8.mono s7.size)
  have s8' := s7'.trans (b8.mono s7'.size)
  clear g7 h7 q7
  go_wp2_with fail
  refine (fresh_two m2 m3 _ _ _ _ _ hne ((s8'.block _ t2).trans hR2.out) ((s8.block _ t3).trans hR3.out)).mono ?_
  rintro r w9 ⟨rfl, rfl⟩
  go_wp2_with fail
  go_ret
  exact ⟨rfl, q8⟩
end Go.Proofs.YtoplmbboaobahaaDoor
