/-
  The walk of NumberReads.
-/
import Derived.Test.YtoplmbboaobahaaDoorRf
import Derived.Test.YtoplmbboaobahaaDoorZ
namespace Go.Proofs.YtoplmbboaobahaaDoor
open Go.RowKit

attribute [local go_sem] refold2 cell3_0 cell3_1 b28_0 b28_01 b28_012 b28_013 b28_014 b35_01 b35_0 b35 mkI69

set_option maxRecDepth 100000 in
set_option maxHeartbeats 8000000 in
theorem readsLaw_of (s : ByteArray) (k1 n1 f1 k2 n2 f2 : Int) (t1 t2 : ByteArray) (o1 o2 : Bool) (w : World)
    (H22 : Hid (∀ W, Calls Tryd.prog 22 #[.string s] W fun r w' => r = .returned (.tuple #[.agg #[.int .i64 k1, .string t1, .int .i64 n1, .int .u64 f1, .string ⟨#[]⟩, .int .i64 0, .int .i64 0, .int .i64 0, .int .i64 0, .slice none 0 0, .slice none 0 0], .bool o1]) ∧ Below W.heap.size W w'))
    (H23 : Hid (∀ W, Calls Tryd.prog 23 #[.string s] W fun r w' => r = .returned (.tuple #[.agg #[.int .i64 k1, .string t1, .int .i64 n1, .int .u64 f1, .string ⟨#[]⟩, .int .i64 0, .int .i64 0, .int .i64 0, .int .i64 0, .slice none 0 0, .slice none 0 0], .bool o1]) ∧ Below W.heap.size W w'))
    (H24 : Hid (∀ W, Calls Tryd.prog 24 #[.string s] W fun r w' => r = .returned (.tuple #[.agg #[.int .i64 k2, .string t2, .int .i64 n2, .int .u64 f2, .string ⟨#[]⟩, .int .i64 0, .int .i64 0, .int .i64 0, .int .i64 0, .slice none 0 0, .slice none 0 0], .bool o2]) ∧ Below W.heap.size W w'))
    (H25 : Hid (∀ W, Calls Tryd.prog 25 #[.string s] W fun r w' => r = .returned (.tuple #[.agg #[.int .i64 k2, .string t2, .int .i64 n2, .int .u64 f2, .string ⟨#[]⟩, .int .i64 0, .int .i64 0, .int .i64 0, .int .i64 0, .slice none 0 0, .slice none 0 0], .bool o2]) ∧ Below W.heap.size W w')) :
    Calls Tryd.prog 6 #[.string s] w fun r w' => r = .returned (.bool true) ∧ Below w.heap.size w w' := by
  have S1 : Hid (∀ W, Calls Tryd.prog 12 #[.agg #[.int .i64 k1, .string t1, .int .i64 n1, .int .u64 f1, .string ⟨#[]⟩, .int .i64 0, .int .i64 0, .int .i64 0, .int .i64 0, .slice none 0 0, .slice none 0 0], .agg #[.int .i64 k1, .string t1, .int .i64 n1, .int .u64 f1, .string ⟨#[]⟩, .int .i64 0, .int .i64 0, .int .i64 0, .int .i64 0, .slice none 0 0, .slice none 0 0]] W fun r w' => r = .returned (.bool true) ∧ Below W.heap.size W w') := fun W => same_refl k1 t1 n1 f1 ⟨#[]⟩ W
  have S2 : Hid (∀ W, Calls Tryd.prog 12 #[.agg #[.int .i64 k2, .string t2, .int .i64 n2, .int .u64 f2, .string ⟨#[]⟩, .int .i64 0, .int .i64 0, .int .i64 0, .int .i64 0, .slice none 0 0, .slice none 0 0], .agg #[.int .i64 k2, .string t2, .int .i64 n2, .int .u64 f2, .string ⟨#[]⟩, .int .i64 0, .int .i64 0, .int .i64 0, .int .i64 0, .slice none 0 0, .slice none 0 0]] W fun r w' => r = .returned (.bool true) ∧ Below W.heap.size W w') := fun W => same_refl k2 t2 n2 f2 ⟨#[]⟩ W
  go_enter Tryd.func6, Tryd.ntmps6
  go_wp2_with fail
  refine (known_any _).mono ?_
  rintro r w1 ⟨rfl, q1⟩
  go_wp2_with fail
  refine (H22.out _).mono ?_
  rintro r w2 ⟨rfl, b2⟩
  have q2 := q1.trans (b2.mono q1.size)
  clear b2 q1
  go_wp2_with fail
  refine (H23.out _).mono ?_
  rintro r w3 ⟨rfl, b3⟩
  have p2_3 := b3
  have q3 := bnext q2 q2.size b3
  have e2_3 := one_kept _ _ _ p2_3
  have u2_3 : w2.heap.size < w3.heap.size := by have := p2_3.size; simp at this; omega
  clear q2 b3
  go_wp2_with fail
  refine (H24.out _).mono ?_
  rintro r w4 ⟨rfl, b4⟩
  have p2_4 := bnext p2_3 p2_3.size b4
  have p3_4 := b4
  have q4 := bnext q3 q3.size b4
  have e2_4 := one_kept _ _ _ p2_4
  have u2_4 : w2.heap.size < w4.heap.size := by have := p2_4.size; simp at this; omega
  have e3_4 := one_kept _ _ _ p3_4
  have u3_4 : w3.heap.size < w4.heap.size := by have := p3_4.size; simp at this; omega
  clear p2_3 e2_3 u2_3 q3 b4
  go_wp2_with fail
  refine (H25.out _).mono ?_
  rintro r w5 ⟨rfl, b5⟩
  have p2_5 := bnext p2_4 p2_4.size b5
  have p3_5 := bnext p3_4 p3_4.size b5
  have p4_5 := b5
  have q5 := bnext q4 q4.size b5
  have e2_5 := one_kept _ _ _ p2_5
  have u2_5 : w2.heap.size < w5.heap.size := by have := p2_5.size; simp at this; omega
  have e3_5 := one_kept _ _ _ p3_5
  have u3_5 : w3.heap.size < w5.heap.size := by have := p3_5.size; simp at this; omega
  have e4_5 := one_kept _ _ _ p4_5
  have u4_5 : w4.heap.size < w5.heap.size := by have := p4_5.size; simp at this; omega
  clear p2_4 e2_4 u2_4 p3_4 e3_4 u3_4 q4 b5
  go_wp2_with fail
  refine (S1.out _).mono ?_
  rintro r w6 ⟨rfl, b6⟩
  have p4_6 := bnext p4_5 p4_5.size b6
  have p5_6 := b6
  have q6 := bnext q5 q5.size b6
  have e4_6 := one_kept _ _ _ p4_6
  have u4_6 : w4.heap.size < w6.heap.size := by have := p4_6.size; simp at this; omega
  have e5_6 := one_kept _ _ _ p5_6
  have u5_6 : w5.heap.size < w6.heap.size := by have := p5_6.size; simp at this; omega
  clear p2_5 e2_5 u2_5 p3_5 e3_5 u3_5 p4_5 e4_5 u4_5 q5 b6
  go_wp2_with fail
  refine (S2.out _).mono ?_
  rintro r w7 ⟨rfl, b7⟩
  have q7 := q6.trans (b7.mono q6.size)
  clear p4_6 e4_6 u4_6 p5_6 e5_6 u5_6 q6 b7
  go_wp2_with fail
  go_ret
  exact ⟨rfl, q7⟩

theorem litI_is (o : Option Nat) : ∃ k t n f b, litI o = .tuple #[dat k t n f ⟨#[]⟩, .bool b] := by
  cases o with
  | none => exact ⟨0, ⟨#[]⟩, 0, 0, false, rfl⟩
  | some n => exact ⟨2, _, n, 0, true, rfl⟩

theorem litF_is (o : Option (Nat × Nat)) : ∃ k t n f b, litF o = .tuple #[dat k t n f ⟨#[]⟩, .bool b] := by
  match o with
  | none => exact ⟨0, ⟨#[]⟩, 0, 0, false, rfl⟩
  | some (n, j) => exact ⟨3, _, 0, fq n j, true, rfl⟩

theorem readsLaw_any (s : ByteArray) (w : World) (hs : s.size ≤ 140737488351232) :
    Calls Tryd.prog 6 #[.string s] w fun r w' => r = .returned (.bool true) ∧ Below w.heap.size w w' := by
  obtain ⟨k1, t1, n1, f1, o1, e1⟩ := litI_is (intLit s.data.toList)
  obtain ⟨k2, t2, n2, f2, o2, e2⟩ := litF_is (fEnd s.data.toList (rfl' s.data.toList 0 (-1) 0 0 0))
  refine readsLaw_of s k1 n1 f1 k2 n2 f2 t1 t2 o1 o2 w ?_ ?_ ?_ ?_
  · exact fun W => by have := int_any s W; rw [e1] at this; exact this
  · exact fun W => by have := refInt_any s W; rw [e1] at this; exact this
  · exact fun W => by have := float_any s W hs; rw [e2] at this; exact this
  · exact fun W => by have := refFloat_any s W; rw [e2] at this; exact this
end Go.Proofs.YtoplmbboaobahaaDoor
