/-
  What a kind has of its own; a pointer's ref; when two heads are the same.
-/
import Derived.Test.YtnhbpcmiolkllaaDoorEa
namespace Go.Proofs.YtnhbpcmiolkllaaDoor
open Go.RowKit
attribute [local go_sem] refold2 cell3_0 cell3_1 b28_0 b28_01

set_option maxHeartbeats 1000000 in
theorem ownOf_bool (t : ByteArray) (a f : Int) (s : ByteArray) (r0 r1 r2 r3 : Int) (p : Value) (ip : Option Addr) (il ic : Nat) (w : World) :
    Calls Tryd.prog 54 #[D 1 t a f s r0 r1 r2 r3 p (.slice ip il ic)] w fun r w' => r = .returned (dat 1 t a 0 ⟨#[]⟩) ∧ Below w.heap.size w w' := by
  simp only [dat, D]
  go_enter Tryd.func54, Tryd.ntmps54
  go_wp2
  refine bodyPost_ret (v := dat 1 t a 0 ⟨#[]⟩) (by simp [results, Tryd.results54, go_sem, dat, D]) rfl ⟨rfl, ?_⟩
  exact below3 _ _ _ _

set_option maxHeartbeats 1000000 in
theorem ownOf_float (t : ByteArray) (a f : Int) (s : ByteArray) (r0 r1 r2 r3 : Int) (p : Value) (ip : Option Addr) (il ic : Nat) (w : World) :
    Calls Tryd.prog 54 #[D 3 t a f s r0 r1 r2 r3 p (.slice ip il ic)] w fun r w' => r = .returned (dat 3 t 0 f ⟨#[]⟩) ∧ Below w.heap.size w w' := by
  simp only [dat, D]
  go_enter Tryd.func54, Tryd.ntmps54
  go_wp2
  refine bodyPost_ret (v := dat 3 t 0 f ⟨#[]⟩) (by simp [results, Tryd.results54, go_sem, dat, D]) rfl ⟨rfl, ?_⟩
  exact below3 _ _ _ _

set_option maxHeartbeats 1000000 in
theorem ownOf_text (t : ByteArray) (a f : Int) (s : ByteArray) (r0 r1 r2 r3 : Int) (p : Value) (ip : Option Addr) (il ic : Nat) (w : World) :
    Calls Tryd.prog 54 #[D 4 t a f s r0 r1 r2 r3 p (.slice ip il ic)] w fun r w' => r = .returned (dat 4 t 0 0 s) ∧ Below w.heap.size w w' := by
  simp only [dat, D]
  go_enter Tryd.func54, Tryd.ntmps54
  go_wp2
  refine bodyPost_ret (v := dat 4 t 0 0 s) (by simp [results, Tryd.results54, go_sem, dat, D]) rfl ⟨rfl, ?_⟩
  exact below3 _ _ _ _

set_option maxHeartbeats 1000000 in
theorem ownOf_struct (t : ByteArray) (a f : Int) (s : ByteArray) (r0 r1 r2 r3 : Int) (p : Value) (ip : Option Addr) (il ic : Nat) (w : World) :
    Calls Tryd.prog 54 #[D 8 t a f s r0 r1 r2 r3 p (.slice ip il ic)] w fun r w' => r = .returned (D 8 t 0 0 ⟨#[]⟩ 0 0 0 0 (.slice none 0 0) (.slice ip il ic)) ∧ Below w.heap.size w w' := by
  simp only [D]
  go_enter Tryd.func54, Tryd.ntmps54
  go_wp2
  refine bodyPost_ret (v := D 8 t 0 0 ⟨#[]⟩ 0 0 0 0 (.slice none 0 0) (.slice ip il ic)) (by simp [results, Tryd.results54, go_sem, D]) rfl ⟨rfl, ?_⟩
  exact below3 _ _ _ _

/-- Two heads, field by field. -/
def headB (n f : Int) (s : ByteArray) (r0 r1 r2 r3 : Int) (m i : Nat) (n' f' : Int) (s' : ByteArray) (r0' r1' r2' r3' : Int) (m' i' : Nat) : Bool :=
  n == n' && f == f' && s.toList == s'.toList && r0 == r0' && r1 == r1' && r2 == r2' && r3 == r3' && (m : Int) == m' && (i : Int) == i'

set_option maxRecDepth 100000 in
set_option maxHeartbeats 2000000 in
theorem head_neq (k : Int) (t : ByteArray) (n f : Int) (s : ByteArray) (r0 r1 r2 r3 : Int) (m i : Nat) (n' f' : Int) (s' : ByteArray) (r0' r1' r2' r3' : Int) (m' i' : Nat) (w : World) :
    (binOp .neq 109 (.agg #[.int .i64 k, .string t, .int .i64 n, .int .u64 f, .string s, .int .i64 r0, .int .i64 r1, .int .i64 r2, .int .i64 r3, .int .i64 m, .int .i64 i]) (.agg #[.int .i64 k, .string t, .int .i64 n', .int .u64 f', .string s', .int .i64 r0', .int .i64 r1', .int .i64 r2', .int .i64 r3', .int .i64 m', .int .i64 i'])).run Tryd.prog w
      = .ok (.bool (!headB n f s r0 r1 r2 r3 m i n' f' s' r0' r1' r2' r3' m' i')) w := by
  unfold headB
  by_cases h1 : n = n'
  · by_cases h2 : f = f'
    · by_cases h3 : s.toList = s'.toList
      · by_cases h4 : r0 = r0'
        · by_cases h5 : r1 = r1'
          · by_cases h6 : r2 = r2'
            · by_cases h7 : r3 = r3'
              · by_cases h8 : (m : Int) = m'
                · by_cases h9 : (i : Int) = i'
                  · simp [go_sem, h1, h2, h3, h4, h5, h6, h7, h8, h9]
                  · simp [go_sem, h1, h2, h3, h4, h5, h6, h7, h8, h9]
                · simp [go_sem, h1, h2, h3, h4, h5, h6, h7, h8]
              · simp [go_sem, h1, h2, h3, h4, h5, h6, h7]
            · simp [go_sem, h1, h2, h3, h4, h5, h6]
          · simp [go_sem, h1, h2, h3, h4, h5]
        · simp [go_sem, h1, h2, h3, h4]
      · simp [go_sem, h1, h2, h3]
    · simp [go_sem, h1, h2]
  · simp [go_sem, h1]
end Go.Proofs.YtnhbpcmiolkllaaDoor
