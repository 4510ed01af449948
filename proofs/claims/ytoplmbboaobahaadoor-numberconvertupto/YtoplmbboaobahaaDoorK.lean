/-
  The walk of known.
-/
import Derived.Test.YtoplmbboaobahaaDoorJ
namespace Go.Proofs.YtoplmbboaobahaaDoor
open Go.RowKit

attribute [local go_sem] refold2 cell3_0 cell3_1 b28_0 b28_01 b28_012 b28_013 b28_014 b35_01 b35_0 b35 mkI69

set_option maxRecDepth 100000 in
set_option maxHeartbeats 4000000 in
theorem known_any (w : World) : Calls Tryd.prog 9 #[] w fun r w' => r = .returned (.bool true) ∧ Below w.heap.size w w' := by
  go_enter Tryd.func9, Tryd.ntmps9
  go_wp2_with fail
  refine (whole_any 3 _).mono ?_
  simp only [dat, D]
  rintro r w1 ⟨rfl, b1⟩
  go_wp2_with fail
  refine (whole_any 4 _).mono ?_
  simp only [dat, D]
  rintro r w2 ⟨rfl, b2⟩
  go_wp2_with fail
  refine (binary_int .add ⟨#[105, 110, 116]⟩ 3 4 0 0 ⟨#[]⟩ ⟨#[]⟩ 0 0 0 0 (.slice none 0 0) (.slice none 0 0) 0 0 0 0 (.slice none 0 0) (.slice none 0 0) _ (by decide) trivial).mono ?_
  simp only [dat, D, show IOp.add.val 3 4 = 7 by decide]
  rintro r w3 ⟨rfl, b3⟩
  have p3 : Below w.heap.size w w3 := (b1.trans (b2.mono b1.size)).trans (b3.mono (Nat.le_trans b1.size b2.size))
  clear b1 b2 b3
  go_wp2_with fail
  refine (whole_any 3 _).mono ?_
  simp only [dat, D]
  rintro r w4 ⟨rfl, b4⟩
  have z4 : w3.heap.size < w4.heap.size := by have := b4.size; simp at this; omega
  have A1 : w4.heap[w3.heap.size]? = some (.cells #[.int .i64 2, .string ⟨#[105, 110, 116]⟩, .int .i64 7, .int .u64 0, .string ⟨#[]⟩, .int .i64 0, .int .i64 0, .int .i64 0, .int .i64 0, .slice none 0 0, .slice none 0 0] 28 (0, 0)) := (b4.block _ (by simp)).trans (heap_alloc_new _ _)
  have p4 : Below w.heap.size w w4 := p3.trans (((below1 w3 _).trans (b4.mono (by simp))).mono p3.size)
  clear b4
  have hA1 : Hid _ := A1
  clear A1
  go_wp2_with fail
  refine (whole_any 0 _).mono ?_
  simp only [dat, D]
  rintro r w5 ⟨rfl, b5⟩
  go_wp2_with fail
  refine (binary_div0 .quo (.inl rfl) ⟨#[105, 110, 116]⟩ 3 0 0 ⟨#[]⟩ ⟨#[]⟩ 0 0 0 0 (.slice none 0 0) (.slice none 0 0) 0 0 0 0 (.slice none 0 0) (.slice none 0 0) _).mono ?_
  simp only [dat, D]
  rintro r w6 ⟨nf, rfl, hnf, F6, b6⟩
  have p6 : Below w4.heap.size w4 w6 := b5.trans (b6.mono b5.size)
  have hnf4 : w4.heap.size ≤ nf := Nat.le_trans b5.size hnf
  have hnf6 : nf < w6.heap.size := by
    rcases Nat.lt_or_ge nf w6.heap.size with h | h
    · exact h
    · rw [Array.getElem?_eq_none h] at F6; cases F6
  have hF6 : Hid _ := F6
  clear F6 b5 b6 hnf
  go_wp2_with fail
  refine (whole_any 5 _).mono ?_
  simp only [dat, D]
  rintro r w7 ⟨rfl, b7⟩
  go_wp2_with fail
  refine (unary_int true ⟨#[105, 110, 116]⟩ 5 0 ⟨#[]⟩ 0 0 0 0 (.slice none 0 0) (.slice none 0 0) _ (by decide)).mono ?_
  simp only [dat, D, show UnV true 5 = -5 by decide]
  rintro r w8 ⟨rfl, b8⟩
  have p8 : Below w6.heap.size w6 w8 := (below1 w6 _).trans ((b7.trans (b8.mono b7.size)).mono (by simp))
  clear b7 b8
  go_wp2_with fail
  refine (whole_any 5 _).mono ?_
  simp only [dat, D]
  rintro r w9 ⟨rfl, b9⟩
  have z9 : w8.heap.size < w9.heap.size := by have := b9.size; simp at this; omega
  have A3 : w9.heap[w8.heap.size]? = some (.cells #[.int .i64 2, .string ⟨#[105, 110, 116]⟩, .int .i64 (-5), .int .u64 0, .string ⟨#[]⟩, .int .i64 0, .int .i64 0, .int .i64 0, .int .i64 0, .slice none 0 0, .slice none 0 0] 28 (0, 0)) := (b9.block _ (by simp)).trans (heap_alloc_new _ _)
  have p9 : Below w8.heap.size w8 w9 := (below1 w8 _).trans (b9.mono (by simp))
  have hA3 : Hid _ := A3
  clear A3 b9
  go_wp2_with fail
  refine (convert_int ⟨#[84]⟩ ⟨#[105, 110, 116]⟩ 5 0 ⟨#[]⟩ 0 0 0 0 (.slice none 0 0) (.slice none 0 0) _ (by decide)).mono ?_
  simp only [dat, D]
  rintro r w10 ⟨rfl, b10⟩
  go_wp2_with fail
  refine (int_x _).mono ?_
  simp only [dat, D]
  rintro r w11 ⟨rfl, b11⟩
  have z11 : w10.heap.size < w11.heap.size := by have := b11.size; simp at this; omega
  have A4 : w11.heap[w10.heap.size]? = some (.cells #[.int .i64 2, .string ⟨#[84]⟩, .int .i64 5, .int .u64 0, .string ⟨#[]⟩, .int .i64 0, .int .i64 0, .int .i64 0, .int .i64 0, .slice none 0 0, .slice none 0 0] 28 (0, 0)) := (b11.block _ (by simp)).trans (heap_alloc_new _ _)
  have p11 : Below w9.heap.size w9 w11 := b10.trans (((below1 w10 _).trans (b11.mono (by simp))).mono b10.size)
  have hA4 : Hid _ := A4
  clear A4 b11 b10
  go_wp2_with fail
  refine (float_x _).mono ?_
  simp only [dat, D]
  rintro r w12 ⟨rfl, b12⟩
  have z12 : w11.heap.size < w12.heap.size := by have := b12.size; simp at this; omega
  have A5 : w12.heap[w11.heap.size]? = some (.cells #[.int .i64 2, .string ⟨#[105, 110, 116]⟩, .int .i64 120, .int .u64 0, .string ⟨#[]⟩, .int .i64 0, .int .i64 0, .int .i64 0, .int .i64 0, .slice none 0 0, .slice none 0 0] 28 (0, 0)) := (b12.block _ (by simp)).trans (heap_alloc_new _ _)
  have p12 : Below w11.heap.size w11 w12 := (below1 w11 _).trans (b12.mono (by simp))
  have hA5 : Hid _ := A5
  clear A5 b12
  have R4 := (p12.block _ z11).trans hA4.out
  have g0 := row_at R4 0
  have g1 := row_at R4 1
  have g2 := row_at R4 2
  have g3 := row_at R4 3
  have g4 := row_at R4 4
  have g5 := row_at R4 5
  have g6 := row_at R4 6
  have g7 := row_at R4 7
  have g8 := row_at R4 8
  have g9 := row_at R4 9
  have g10 := row_at R4 10
  simp only [List.getElem?_toArray, List.getElem?_cons_zero, List.getElem?_cons_succ] at g0 g1 g2 g3 g4 g5 g6 g7 g8 g9 g10
  have z10 : w10.heap.size < w12.heap.size := by omega
  clear R4
  go_wp2_with fail
  refine (show_x _).mono ?_
  rintro r w13 ⟨rfl, b13⟩
  have z13 : w12.heap.size < w13.heap.size := by have := b13.size; simp at this; omega
  have A6 : w13.heap[w12.heap.size]? = some (.cells #[.int .i64 3, .string ⟨#[102, 108, 111, 97, 116]⟩, .int .i64 0, .int .u64 4609434218613702656, .string ⟨#[]⟩, .int .i64 0, .int .i64 0, .int .i64 0, .int .i64 0, .slice none 0 0, .slice none 0 0] 28 (0, 0)) := (b13.block _ (by simp)).trans (heap_alloc_new _ _)
  have p13 : Below w12.heap.size w12 w13 := (below1 w12 _).trans (b13.mono (by simp))
  have hA6 : Hid _ := A6
  clear A6 b13 g0 g1 g2 g3 g4 g5 g6 g7 g8 g9 g10
  go_wp2_with fail
  refine (name_ptr _).mono ?_
  rintro r w14 ⟨rfl, b14⟩
  go_wp2_with fail
  have q1 : Below w6.heap.size w6 w14 := p8.trans ((p9.trans ((p11.trans ((p12.trans ((p13.trans (b14.mono p13.size)).mono p12.size)).mono p11.size)).mono p9.size)).mono p8.size)
  refine (told_hit nf ⟨#[100, 105, 118, 105, 100, 101]⟩ ⟨#[]⟩ _ ((q1.block _ hnf6).trans hF6.out) (by decide)).mono ?_
  rintro r w15 ⟨rfl, b15⟩
  have q2 : Below w6.heap.size w6 w15 := q1.trans (b15.mono q1.size)
  have q4 : Below w4.heap.size w4 w15 := p6.trans (q2.mono p6.size)
  have q9 : Below w9.heap.size w9 w15 := p11.trans ((p12.trans ((p13.trans ((b14.trans (b15.mono b14.size)).mono p13.size)).mono p12.size)).mono p11.size)
  have q12 : Below w12.heap.size w12 w15 := p13.trans ((b14.trans (b15.mono b14.size)).mono p13.size)
  have q13 : Below w13.heap.size w13 w15 := b14.trans (b15.mono b14.size)
  have f1 := row_at ((q4.block _ z4).trans hA1.out) 2
  have f3 := row_at ((q9.block _ z9).trans hA3.out) 2
  have f5 := row_at ((q12.block _ z12).trans hA5.out) 2
  have f6 := row_at ((q13.block _ z13).trans hA6.out) 3
  simp only [List.getElem?_toArray, List.getElem?_cons_zero, List.getElem?_cons_succ] at f1 f3 f5 f6
  have q0 : Below w.heap.size w w15 := p4.trans (q4.mono p4.size)
  clear q1 q2 q4 q9 q12 q13 b14 b15 p3 p4 p6 p8 p9 p11 p12 p13
  go_wp2_with fail
  go_ret
  exact ⟨rfl, q0⟩
end Go.Proofs.YtoplmbboaobahaaDoor
