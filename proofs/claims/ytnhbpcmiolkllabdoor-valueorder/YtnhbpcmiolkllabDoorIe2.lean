/-
  Ranks of ints, floats and texts, at any two data.
-/
import Derived.Test.YtnhbpcmiolkllabDoorId2
import Derived.Laws.Cover1
namespace Go.Proofs.YtnhbpcmiolkllabDoor
open Go.RowKit
attribute [local go_sem] refold2 cell3_0 cell3_1 b28_0 b28_01 x56

/-- How texts are ranked. -/
def rankS (x y : ByteArray) : Int × Bool := if Op.bytesLess x.toList y.toList = true then (-1, true) else if (x.toList == y.toList) = true then (0, true) else (1, true)
def rankP (a c : Int) : Int × Bool := (rankI a c, true)
/-- How floats are ranked. -/
def rankF (f g : Int) : Int × Bool := match FloatKind.f64.format.order f.toNat g.toNat with
  | some .lt => (-1, true) | some .gt => (1, true) | some .eq => (0, true) | none => (0, false)
theorem rank_int' (a c : Int) (w : World) : Calls Tryd.prog 80 #[.int .i64 a, .int .i64 c] w fun r w' => r = .returned (.tuple #[.int .i64 (rankP a c).1, .bool (rankP a c).2]) ∧ w' = w := rank_int a c w

set_option maxRecDepth 100000 in
set_option maxHeartbeats 4000000 in
theorem rank_txt (x y : ByteArray) (w : World) : Calls Tryd.prog 82 #[.string x, .string y] w fun r w' => r = .returned (.tuple #[.int .i64 (rankS x y).1, .bool (rankS x y).2]) ∧ w' = w := by
  unfold rankS
  by_cases h1 : Op.bytesLess x.toList y.toList = true
  · rw [if_pos h1]
    go_enter Tryd.func82, Tryd.ntmps82
    go_wp2
    refine bodyPost_ret (v := .tuple #[.int .i64 (-1), .bool true]) (by simp [results, Tryd.results82, go_sem]) rfl ⟨rfl, rfl⟩
  · rw [if_neg h1]
    have h1' : Op.bytesLess x.toList y.toList = false := by simpa using h1
    clear h1
    by_cases h2 : (x.toList == y.toList) = true
    · rw [if_pos h2]
      go_enter Tryd.func82, Tryd.ntmps82
      go_wp2
      refine bodyPost_ret (v := .tuple #[.int .i64 0, .bool true]) (by simp [results, Tryd.results82, go_sem]) rfl ⟨rfl, rfl⟩
    · rw [if_neg h2]
      have h2' : (x.toList == y.toList) = false := by simpa using h2
      clear h2
      go_enter Tryd.func82, Tryd.ntmps82
      go_wp2
      refine bodyPost_ret (v := .tuple #[.int .i64 1, .bool true]) (by simp [results, Tryd.results82, go_sem]) rfl ⟨rfl, rfl⟩
set_option maxRecDepth 100000 in
set_option maxHeartbeats 4000000 in
theorem rank_flt (f g : Int) (w : World) : Calls Tryd.prog 78 #[.float .f64 f.toNat, .float .f64 g.toNat] w fun r w' => r = .returned (.tuple #[.int .i64 (rankF f g).1, .bool (rankF f g).2]) ∧ w' = w := by
  unfold rankF
  generalize f.toNat = x
  generalize g.toNat = y
  rcases hq : FloatKind.f64.format.order x y with _ | (_ | _ | _)
  · go_enter Tryd.func78, Tryd.ntmps78
    go_wp2
    refine bodyPost_ret (v := .tuple #[.int .i64 0, .bool false]) (by simp [results, Tryd.results78, go_sem]) rfl ⟨rfl, rfl⟩
  · go_enter Tryd.func78, Tryd.ntmps78
    go_wp2
    refine bodyPost_ret (v := .tuple #[.int .i64 (-1), .bool true]) (by simp [results, Tryd.results78, go_sem]) rfl ⟨rfl, rfl⟩
  · go_enter Tryd.func78, Tryd.ntmps78
    go_wp2
    refine bodyPost_ret (v := .tuple #[.int .i64 0, .bool true]) (by simp [results, Tryd.results78, go_sem]) rfl ⟨rfl, rfl⟩
  · go_enter Tryd.func78, Tryd.ntmps78
    go_wp2
    refine bodyPost_ret (v := .tuple #[.int .i64 1, .bool true]) (by simp [results, Tryd.results78, go_sem]) rfl ⟨rfl, rfl⟩
set_option maxRecDepth 100000 in
set_option maxHeartbeats 4000000 in
theorem RankM_2 (b : Nat) (k : Int) (t : ByteArray) (a f : Int) (s : ByteArray) (r0 r1 r2 r3 : Int) (pp : Option Addr) (path : List Int) (pc : Nat) (ip : Option Addr) (ic : Nat) (items : List MD) (k' : Int) (t' : ByteArray) (a' f' : Int) (s' : ByteArray) (r0' r1' r2' r3' : Int) (pp' : Option Addr) (path' : List Int) (pc' : Nat) (ip' : Option Addr) (ic' : Nat) (items' : List MD) (w : World) (q : Bool)
    (hr : w.heap[b]? = some (.cells #[.int .i64 k, .string t, .int .i64 a, .int .u64 f, .string s, .int .i64 r0, .int .i64 r1, .int .i64 r2, .int .i64 r3, .slice pp path.length pc, .slice ip items.length ic] 32 (0, 0))) (hs : ∀ W, Below w.heap.size w W → Calls Tryd.prog 77 #[.agg #[.pointer (some ⟨b, 0, none⟩)], .agg #[.int .i64 k', .string t', .int .i64 a', .int .u64 f', .string s', .int .i64 r0', .int .i64 r1', .int .i64 r2', .int .i64 r3', .slice pp' path'.length pc', .slice ip' items'.length ic']] W fun r w' => r = .returned (.bool q) ∧ Below W.heap.size W w') :
    Calls Tryd.prog 79 #[.agg #[.pointer (some ⟨b, 0, none⟩)], .agg #[.int .i64 k', .string t', .int .i64 a', .int .u64 f', .string s', .int .i64 r0', .int .i64 r1', .int .i64 r2', .int .i64 r3', .slice pp' path'.length pc', .slice ip' items'.length ic']] w fun r w' => r = .returned (.tuple #[.int .i64 (if q then (rankP a a').1 else 0), .bool (if q then (rankP a a').2 else false)]) ∧ Below w.heap.size w w' := by
  have HS : Hid _ := hs
  have HR : Hid _ := hr
  have hb : b < w.heap.size := (Array.getElem?_eq_some_iff.1 hr).1
  clear hs hr
  go_enter Tryd.func79, Tryd.ntmps79
  go_wp2_with fail
  refine (HS.out _ (below2 _ _ _)).mono ?_
  rintro r w1 ⟨rfl, b1⟩
  have c0 : w1.cell? ⟨w.heap.size, 0, none⟩ = some (.pointer (some ⟨b, 0, none⟩)) := row_at ((b1.block w.heap.size (by simp; omega)).trans ((Below.heap_alloc _ _ _ (by simp)).trans (heap_alloc_new w (.cells #[.pointer (some ⟨b, 0, none⟩)] 122)))) 0
  have c1 : w1.cell? ⟨b, 2, none⟩ = some (.int .i64 a) := row_at ((b1.block b (by simp; omega)).trans (((below2 w _ _).block b hb).trans HR.out)) 2
  have c2 : w1.cell? ⟨w.heap.size + 1, 2, none⟩ = some (.int .i64 a') := row_at ((b1.block (w.heap.size + 1) (by simp)).trans (heap2_1 w (.cells #[.pointer (some ⟨b, 0, none⟩)] 122) (.cells #[.int .i64 k', .string t', .int .i64 a', .int .u64 f', .string s', .int .i64 r0', .int .i64 r1', .int .i64 r2', .int .i64 r3', .slice pp' path'.length pc', .slice ip' items'.length ic'] 32))) 2
  have q1 : Below w.heap.size w w1 := (below2 _ _ _).trans (b1.mono (by simp; omega))
  clear b1 HS HR
  cases q
  · go_wp2_with fail
    refine bodyPost_ret (v := .tuple #[.int .i64 0, .bool false]) (by simp [results, Tryd.results79, go_sem]) rfl ⟨rfl, q1⟩
  · go_wp2_with (go_at_call 80; refine (rank_int' _ _ _).mono ?_; rintro r w' ⟨rfl, rfl⟩)
    go_quiet (exact Calls.quiet_of_same (rank_int' _ _ _))
    go_wp2
    refine bodyPost_ret (v := .tuple #[.int .i64 (rankP a a').1, .bool (rankP a a').2]) (by simp [results, Tryd.results79, go_sem]) rfl ⟨rfl, ?_⟩
    exact q1.trans ⟨rfl, rfl, rfl, Nat.le_refl _, fun _ _ => rfl⟩
set_option maxRecDepth 100000 in
set_option maxHeartbeats 4000000 in
theorem RankM_4 (b : Nat) (k : Int) (t : ByteArray) (a f : Int) (s : ByteArray) (r0 r1 r2 r3 : Int) (pp : Option Addr) (path : List Int) (pc : Nat) (ip : Option Addr) (ic : Nat) (items : List MD) (k' : Int) (t' : ByteArray) (a' f' : Int) (s' : ByteArray) (r0' r1' r2' r3' : Int) (pp' : Option Addr) (path' : List Int) (pc' : Nat) (ip' : Option Addr) (ic' : Nat) (items' : List MD) (w : World) (q : Bool)
    (hr : w.heap[b]? = some (.cells #[.int .i64 k, .string t, .int .i64 a, .int .u64 f, .string s, .int .i64 r0, .int .i64 r1, .int .i64 r2, .int .i64 r3, .slice pp path.length pc, .slice ip items.length ic] 32 (0, 0))) (hs : ∀ W, Below w.heap.size w W → Calls Tryd.prog 77 #[.agg #[.pointer (some ⟨b, 0, none⟩)], .agg #[.int .i64 k', .string t', .int .i64 a', .int .u64 f', .string s', .int .i64 r0', .int .i64 r1', .int .i64 r2', .int .i64 r3', .slice pp' path'.length pc', .slice ip' items'.length ic']] W fun r w' => r = .returned (.bool q) ∧ Below W.heap.size W w') :
    Calls Tryd.prog 81 #[.agg #[.pointer (some ⟨b, 0, none⟩)], .agg #[.int .i64 k', .string t', .int .i64 a', .int .u64 f', .string s', .int .i64 r0', .int .i64 r1', .int .i64 r2', .int .i64 r3', .slice pp' path'.length pc', .slice ip' items'.length ic']] w fun r w' => r = .returned (.tuple #[.int .i64 (if q then (rankS s s').1 else 0), .bool (if q then (rankS s s').2 else false)]) ∧ Below w.heap.size w w' := by
  have HS : Hid _ := hs
  have HR : Hid _ := hr
  have hb : b < w.heap.size := (Array.getElem?_eq_some_iff.1 hr).1
  clear hs hr
  go_enter Tryd.func81, Tryd.ntmps81
  go_wp2_with fail
  refine (HS.out _ (below2 _ _ _)).mono ?_
  rintro r w1 ⟨rfl, b1⟩
  have c0 : w1.cell? ⟨w.heap.size, 0, none⟩ = some (.pointer (some ⟨b, 0, none⟩)) := row_at ((b1.block w.heap.size (by simp; omega)).trans ((Below.heap_alloc _ _ _ (by simp)).trans (heap_alloc_new w (.cells #[.pointer (some ⟨b, 0, none⟩)] 123)))) 0
  have c1 : w1.cell? ⟨b, 4, none⟩ = some (.string s) := row_at ((b1.block b (by simp; omega)).trans (((below2 w _ _).block b hb).trans HR.out)) 4
  have c2 : w1.cell? ⟨w.heap.size + 1, 4, none⟩ = some (.string s') := row_at ((b1.block (w.heap.size + 1) (by simp)).trans (heap2_1 w (.cells #[.pointer (some ⟨b, 0, none⟩)] 123) (.cells #[.int .i64 k', .string t', .int .i64 a', .int .u64 f', .string s', .int .i64 r0', .int .i64 r1', .int .i64 r2', .int .i64 r3', .slice pp' path'.length pc', .slice ip' items'.length ic'] 32))) 4
  have q1 : Below w.heap.size w w1 := (below2 _ _ _).trans (b1.mono (by simp; omega))
  clear b1 HS HR
  cases q
  · go_wp2_with fail
    refine bodyPost_ret (v := .tuple #[.int .i64 0, .bool false]) (by simp [results, Tryd.results81, go_sem]) rfl ⟨rfl, q1⟩
  · go_wp2_with (go_at_call 82; refine (rank_txt _ _ _).mono ?_; rintro r w' ⟨rfl, rfl⟩)
    go_quiet (exact Calls.quiet_of_same (rank_txt _ _ _))
    go_wp2
    refine bodyPost_ret (v := .tuple #[.int .i64 (rankS s s').1, .bool (rankS s s').2]) (by simp [results, Tryd.results81, go_sem]) rfl ⟨rfl, ?_⟩
    exact q1.trans ⟨rfl, rfl, rfl, Nat.le_refl _, fun _ _ => rfl⟩
set_option maxRecDepth 100000 in
set_option maxHeartbeats 4000000 in
theorem RankM_3 (b : Nat) (k : Int) (t : ByteArray) (a f : Int) (s : ByteArray) (r0 r1 r2 r3 : Int) (pp : Option Addr) (path : List Int) (pc : Nat) (ip : Option Addr) (ic : Nat) (items : List MD) (k' : Int) (t' : ByteArray) (a' f' : Int) (s' : ByteArray) (r0' r1' r2' r3' : Int) (pp' : Option Addr) (path' : List Int) (pc' : Nat) (ip' : Option Addr) (ic' : Nat) (items' : List MD) (w : World) (q : Bool)
    (hr : w.heap[b]? = some (.cells #[.int .i64 k, .string t, .int .i64 a, .int .u64 f, .string s, .int .i64 r0, .int .i64 r1, .int .i64 r2, .int .i64 r3, .slice pp path.length pc, .slice ip items.length ic] 32 (0, 0))) (hs : ∀ W, Below w.heap.size w W → Calls Tryd.prog 77 #[.agg #[.pointer (some ⟨b, 0, none⟩)], .agg #[.int .i64 k', .string t', .int .i64 a', .int .u64 f', .string s', .int .i64 r0', .int .i64 r1', .int .i64 r2', .int .i64 r3', .slice pp' path'.length pc', .slice ip' items'.length ic']] W fun r w' => r = .returned (.bool q) ∧ Below W.heap.size W w') :
    Calls Tryd.prog 76 #[.agg #[.pointer (some ⟨b, 0, none⟩)], .agg #[.int .i64 k', .string t', .int .i64 a', .int .u64 f', .string s', .int .i64 r0', .int .i64 r1', .int .i64 r2', .int .i64 r3', .slice pp' path'.length pc', .slice ip' items'.length ic']] w fun r w' => r = .returned (.tuple #[.int .i64 (if q then (rankF f f').1 else 0), .bool (if q then (rankF f f').2 else false)]) ∧ Below w.heap.size w w' := by
  have HS : Hid _ := hs
  have HR : Hid _ := hr
  have hb : b < w.heap.size := (Array.getElem?_eq_some_iff.1 hr).1
  clear hs hr
  go_enter Tryd.func76, Tryd.ntmps76
  go_wp2_with fail
  refine (HS.out _ (below2 _ _ _)).mono ?_
  rintro r w1 ⟨rfl, b1⟩
  have c0 : w1.cell? ⟨w.heap.size, 0, none⟩ = some (.pointer (some ⟨b, 0, none⟩)) := row_at ((b1.block w.heap.size (by simp; omega)).trans ((Below.heap_alloc _ _ _ (by simp)).trans (heap_alloc_new w (.cells #[.pointer (some ⟨b, 0, none⟩)] 111)))) 0
  have c1 : w1.cell? ⟨b, 3, none⟩ = some (.int .u64 f) := row_at ((b1.block b (by simp; omega)).trans (((below2 w _ _).block b hb).trans HR.out)) 3
  have c2 : w1.cell? ⟨w.heap.size + 1, 3, none⟩ = some (.int .u64 f') := row_at ((b1.block (w.heap.size + 1) (by simp)).trans (heap2_1 w (.cells #[.pointer (some ⟨b, 0, none⟩)] 111) (.cells #[.int .i64 k', .string t', .int .i64 a', .int .u64 f', .string s', .int .i64 r0', .int .i64 r1', .int .i64 r2', .int .i64 r3', .slice pp' path'.length pc', .slice ip' items'.length ic'] 32))) 3
  have q1 : Below w.heap.size w w1 := (below2 _ _ _).trans (b1.mono (by simp; omega))
  clear b1 HS HR
  cases q
  · go_wp2_with fail
    refine bodyPost_ret (v := .tuple #[.int .i64 0, .bool false]) (by simp [results, Tryd.results76, go_sem]) rfl ⟨rfl, q1⟩
  · go_wp2_with (go_at_call 78; refine (rank_flt _ _ _).mono ?_; rintro r w' ⟨rfl, rfl⟩)
    go_quiet (exact Calls.quiet_of_same (rank_flt _ _ _))
    go_wp2
    refine bodyPost_ret (v := .tuple #[.int .i64 (rankF f f').1, .bool (rankF f f').2]) (by simp [results, Tryd.results76, go_sem]) rfl ⟨rfl, ?_⟩
    exact q1.trans ⟨rfl, rfl, rfl, Nat.le_refl _, fun _ _ => rfl⟩
end Go.Proofs.YtnhbpcmiolkllabDoor
