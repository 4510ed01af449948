/-
  .
  .
  .
  .
  .
  .
-/
import Derived.Test.YtdbijkgnddcneaaGreatDoorIJ
import Derived.Test.YtdbijkgnddcneaaGreatDoorMaJ
import Derived.Test.YtdbijkgnddcneaaGreatDoorFl
import Derived.Laws.Cover2
import Derived.Test.YtdbijkgnddcneaaGreatDoorSq
namespace Go.Proofs.YtdbijkgnddcneaaGreatDoor
open Go.RowKit
set_option maxHeartbeats 4000000
attribute [local go_sem] refold2 cell3_0 cell3_1 b28_0 b28_01
theorem x56 (n : Int) (W : World) : (callFunc 97 #[.int .u64 n]).run Tryz.prog W = .ok (.value (.float .f64 n.toNat)) W :=
 (@run_callFunc_extern Tryz.prog 97 _ Extern.MathFloatBits.float64frombits Tryz.func97 (by kernel_rfl) (by kernel_rfl) (by kernel_rfl) (by kernel_rfl) _ W).trans rfl
attribute [local go_sem] x56
theorem mathIsNaN_any (x : Nat) (w : World) : Calls Tryz.prog 96 #[.float .f64 x] w fun r w' => r = .returned (.bool (isNan x)) ∧ w' = w := by
 have h : (FloatKind.f64.format.order x x != some .eq) = isNan x := by
  have h1 := order_none x x
  have h2 := order_swap x x
  show (Ieee.double.order x x != some .eq) = _
  cases ho : Ieee.double.order x x with
  | none => have := h1.1 ho; simp at this; rw [this]; rfl
  | some o =>
   rw [ho] at h1 h2
   have : isNan x = false := by cases hx : isNan x with
    | false => rfl
    | true => have := h1.2 (.inl hx); cases this
   rw [this]
   cases o <;> simp [Ordering.swap] at h2 ⊢
 go_enter Tryz.func96, Tryz.ntmps96
 go_wp2
 go_ret
 exact ⟨rfl, rfl⟩
def objB (n : Int) : Bool := decide (0 ≤ n) && decide (n ≤ 2147483647)
theorem rightObject_any (n : Int) (w : World) : Calls Tryz.prog 99 #[.int .i64 n] w fun r w' => r = .returned (.bool (objB n)) ∧ w' = w := by
 unfold objB
 go_enter Tryz.func99, Tryz.ntmps99
 go_wp2
 all_goals (go_ret; refine ⟨?_, rfl⟩; simp_all)
 all_goals omega
def pieceB (r0 r1 r2 r3 : Int) : Bool := if r0 = 0 then r1 == 0 && r2 == 0 && r3 == 0 else objB r0 && decide (0 ≤ r1) && decide (0 ≤ r2) && decide (r2 ≤ r3) && decide (r3 ≤ 1048576) && decide (r1 ≤ 1048576 - r3)
theorem rightPiece_any (r0 r1 r2 r3 : Int) (p : Option Addr) (m c : Nat) (w : World) (h0 : -9223372036854775808 ≤ r3) (h1 : r3 ≤ 9223372036854775807) :
  Calls Tryz.prog 98 #[.agg #[.int .i64 r0, .int .i64 r1, .int .i64 r2, .int .i64 r3, .slice p m c]] w fun r w' => r = .returned (.bool (pieceB r0 r1 r2 r3)) ∧ Below w.heap.size w w' := by
 by_cases hr : r0 = 0
 ·unfold pieceB
  rw [if_pos hr]
  subst hr
  go_enter Tryz.func98, Tryz.ntmps98
  go_wp2
  all_goals (go_ret; refine ⟨?_, below1 _ _⟩; simp_all)
 ·have e : pieceB r0 r1 r2 r3 = (objB r0 && decide (0 ≤ r1) && decide (0 ≤ r2) && decide (r2 ≤ r3) && decide (r3 ≤ 1048576) && decide (r1 ≤ 1048576 - r3)) := by unfold pieceB; rw [if_neg hr]
  rw [e]
  clear e
  obtain ⟨x, hx⟩ : ∃ x, x = objB r0 := ⟨_, rfl⟩
  have HO : Hid (∀ W, Calls Tryz.prog 99 #[.int .i64 r0] W fun r w' => r = .returned (.bool x) ∧ w' = W) := fun W => by rw [hx]; exact rightObject_any r0 W
  rw [← hx]
  clear hx
  cases x with
  | false =>
   go_enter Tryz.func98, Tryz.ntmps98
   go_wp2_with (go_at_call 99; refine (HO.out _).mono ?_; rintro r w' ⟨rfl, rfl⟩)
   all_goals (go_ret; refine ⟨?_, below1 _ _⟩; simp)
  | true =>
   go_enter Tryz.func98, Tryz.ntmps98
   go_wp2_with (go_at_call 99; refine (HO.out _).mono ?_; rintro r w' ⟨rfl, rfl⟩)
   all_goals (go_ret; refine ⟨?_, below1 _ _⟩; simp_all)
   all_goals omega
def targetB (r0 : Int) (path : List Int) : Bool := objB r0 && decide (path.length ≤ 100) && !(r0 == 0 && decide (0 < path.length)) && path.all (fun z => decide (0 ≤ z) && decide (z < 30))
end Go.Proofs.YtdbijkgnddcneaaGreatDoor
namespace Go.Proofs.YtdbijkgnddcneaaGreatDoor
open Go.RowKit
set_option maxRecDepth 100000
set_option maxHeartbeats 2000000
attribute [local go_sem] refold2 cell3_0 cell3_1 b28_0 b28_01
theorem ownOf_bool (t : ByteArray) (a f : Int) (s : ByteArray) (r0 r1 r2 r3 : Int) (p : Value) (ip : Option Addr) (il ic : Nat) (w : World) :
  Calls Tryz.prog 95 #[D 1 t a f s r0 r1 r2 r3 p (.slice ip il ic)] w fun r w' => r = .returned (dat 1 t a 0 ⟨#[]⟩) ∧ Below w.heap.size w w' := by
 simp only [dat, D]
 go_enter Tryz.func95, Tryz.ntmps95
 go_wp2
 refine bodyPost_ret (v := dat 1 t a 0 ⟨#[]⟩) (by simp [results, Tryz.results95, go_sem, dat, D]) rfl ⟨rfl, ?_⟩
 exact below3 _ _ _ _
theorem ownOf_float (t : ByteArray) (a f : Int) (s : ByteArray) (r0 r1 r2 r3 : Int) (p : Value) (ip : Option Addr) (il ic : Nat) (w : World) :
  Calls Tryz.prog 95 #[D 3 t a f s r0 r1 r2 r3 p (.slice ip il ic)] w fun r w' => r = .returned (dat 3 t 0 f ⟨#[]⟩) ∧ Below w.heap.size w w' := by
 simp only [dat, D]
 go_enter Tryz.func95, Tryz.ntmps95
 go_wp2
 refine bodyPost_ret (v := dat 3 t 0 f ⟨#[]⟩) (by simp [results, Tryz.results95, go_sem, dat, D]) rfl ⟨rfl, ?_⟩
 exact below3 _ _ _ _
theorem ownOf_text (t : ByteArray) (a f : Int) (s : ByteArray) (r0 r1 r2 r3 : Int) (p : Value) (ip : Option Addr) (il ic : Nat) (w : World) :
  Calls Tryz.prog 95 #[D 4 t a f s r0 r1 r2 r3 p (.slice ip il ic)] w fun r w' => r = .returned (dat 4 t 0 0 s) ∧ Below w.heap.size w w' := by
 simp only [dat, D]
 go_enter Tryz.func95, Tryz.ntmps95
 go_wp2
 refine bodyPost_ret (v := dat 4 t 0 0 s) (by simp [results, Tryz.results95, go_sem, dat, D]) rfl ⟨rfl, ?_⟩
 exact below3 _ _ _ _
theorem ownOf_struct (t : ByteArray) (a f : Int) (s : ByteArray) (r0 r1 r2 r3 : Int) (p : Value) (ip : Option Addr) (il ic : Nat) (w : World) :
  Calls Tryz.prog 95 #[D 8 t a f s r0 r1 r2 r3 p (.slice ip il ic)] w fun r w' => r = .returned (D 8 t 0 0 ⟨#[]⟩ 0 0 0 0 (.slice none 0 0) (.slice ip il ic)) ∧ Below w.heap.size w w' := by
 simp only [D]
 go_enter Tryz.func95, Tryz.ntmps95
 go_wp2
 refine bodyPost_ret (v := D 8 t 0 0 ⟨#[]⟩ 0 0 0 0 (.slice none 0 0) (.slice ip il ic)) (by simp [results, Tryz.results95, go_sem, D]) rfl ⟨rfl, ?_⟩
 exact below3 _ _ _ _
def headB (n f : Int) (s : ByteArray) (r0 r1 r2 r3 : Int) (m i : Nat) (n' f' : Int) (s' : ByteArray) (r0' r1' r2' r3' : Int) (m' i' : Nat) : Bool :=
 n == n' && f == f' && s.toList == s'.toList && r0 == r0' && r1 == r1' && r2 == r2' && r3 == r3' && (m : Int) == m' && (i : Int) == i'
theorem head_neq (k : Int) (t : ByteArray) (n f : Int) (s : ByteArray) (r0 r1 r2 r3 : Int) (m i : Nat) (n' f' : Int) (s' : ByteArray) (r0' r1' r2' r3' : Int) (m' i' : Nat) (w : World) :
  (binOp .neq 178 (.agg #[.int .i64 k, .string t, .int .i64 n, .int .u64 f, .string s, .int .i64 r0, .int .i64 r1, .int .i64 r2, .int .i64 r3, .int .i64 m, .int .i64 i]) (.agg #[.int .i64 k, .string t, .int .i64 n', .int .u64 f', .string s', .int .i64 r0', .int .i64 r1', .int .i64 r2', .int .i64 r3', .int .i64 m', .int .i64 i'])).run Tryz.prog w
   = .ok (.bool (!headB n f s r0 r1 r2 r3 m i n' f' s' r0' r1' r2' r3' m' i')) w := by
 unfold headB
 by_cases h1 : n = n'
 ·by_cases h2 : f = f'
  ·by_cases h3 : s.toList = s'.toList
   ·by_cases h4 : r0 = r0'
    ·by_cases h5 : r1 = r1'
     ·by_cases h6 : r2 = r2'
      ·by_cases h7 : r3 = r3'
       ·by_cases h8 : (m : Int) = m'
        ·by_cases h9 : (i : Int) = i'
         ·simp [go_sem, h1, h2, h3, h4, h5, h6, h7, h8, h9]
         ·simp [go_sem, h1, h2, h3, h4, h5, h6, h7, h8, h9]
        ·simp [go_sem, h1, h2, h3, h4, h5, h6, h7, h8]
       ·simp [go_sem, h1, h2, h3, h4, h5, h6, h7]
      ·simp [go_sem, h1, h2, h3, h4, h5, h6]
     ·simp [go_sem, h1, h2, h3, h4, h5]
    ·simp [go_sem, h1, h2, h3, h4]
   ·simp [go_sem, h1, h2, h3]
  ·simp [go_sem, h1, h2]
 ·simp [go_sem, h1]
end Go.Proofs.YtdbijkgnddcneaaGreatDoor
namespace Go.Proofs.YtdbijkgnddcneaaGreatDoor
open Go.RowKit
set_option maxRecDepth 100000
set_option maxHeartbeats 4000000
attribute [local go_sem] refold2 cell3_0 cell3_1 b28_0 b28_01
def tyB (k : Int) (t : ByteArray) : Bool := if k = 0 then t.toList == [] else if k = 1 then (t.toList == [98, 111, 111, 108] || declB t) else if k = 2 then (t.toList == [105, 110, 116] || declB t) else if k = 3 then (t.toList == [102, 108, 111, 97, 116] || declB t) else if k = 4 then (t.toList == [116, 101, 120, 116] || declB t) else if k = 5 then (t.toList == [108, 105, 115, 116] || declB t) else if k = 6 then (t.toList == [109, 97, 112] || declB t) else if k = 7 then (t.toList == [102, 117, 110, 99] || declB t) else if k = 8 then declB t else if k = 9 then declB t else false
def zeroK (k : Int) (n f : Int) (s : ByteArray) (r0 r1 r2 r3 : Int) (m i : Nat) : Bool :=
 (k == 1 || k == 2 || n == 0) && (k == 3 || f == 0) && (k == 4 || s.toList == []) && (k == 5 || k == 6 || k == 7 || k == 9 || r0 == 0) && (k == 5 || r1 == 0) && (k == 5 || r2 == 0) && (k == 5 || r3 == 0) && (k == 9 || (m : Int) == 0) && (k == 8 || (i : Int) == 0)
theorem kinds (k : Int) : k = 0 ∨ k = 1 ∨ k = 2 ∨ k = 3 ∨ k = 4 ∨ k = 5 ∨ k = 6 ∨ k = 7 ∨ k = 8 ∨ k = 9 ∨ k < 0 ∨ 9 < k := by omega
theorem rightType_0 (t : ByteArray) (a f : Int) (s : ByteArray) (r0 r1 r2 r3 : Int) (p i : Value) (w : World) :
  Calls Tryz.prog 93 #[D 0 t a f s r0 r1 r2 r3 p i] w fun r w' => r = .returned (.bool (t.toList == [])) ∧ Below w.heap.size w w' := by
 simp only [D]
 go_enter Tryz.func93, Tryz.ntmps93
 go_wp2
 all_goals (go_ret; refine ⟨by simp_all, below1 _ _⟩)
theorem rightType_out (k : Int) (hk : k < 0 ∨ 9 < k) (t : ByteArray) (a f : Int) (s : ByteArray) (r0 r1 r2 r3 : Int) (p i : Value) (w : World) :
  Calls Tryz.prog 93 #[D k t a f s r0 r1 r2 r3 p i] w fun r w' => r = .returned (.bool false) ∧ Below w.heap.size w w' := by
 simp only [D]
 have h0 : ¬ k = 0 := by omega
 rcases hk with hk | hk
 ·have h1 : k < 1 := by omega
  go_enter Tryz.func93, Tryz.ntmps93
  go_wp2
  go_ret
  exact ⟨rfl, below1 _ _⟩
 ·have h1 : ¬ k < 1 := by omega
  go_enter Tryz.func93, Tryz.ntmps93
  go_wp2
  go_ret
  exact ⟨rfl, below1 _ _⟩
theorem rightType_any (k : Int) (t : ByteArray) (a f : Int) (s : ByteArray) (r0 r1 r2 r3 : Int) (p i : Value) (w : World) (hN : NamesAt w) :
  Calls Tryz.prog 93 #[D k t a f s r0 r1 r2 r3 p i] w fun r w' => r = .returned (.bool (tyB k t)) ∧ Below w.heap.size w w' := by
 rcases kinds k with rfl | rfl | rfl | rfl | rfl | rfl | rfl | rfl | rfl | rfl | h
 ·exact rightType_0 t a f s r0 r1 r2 r3 p i w
 ·exact rightType_1 t a f s r0 r1 r2 r3 p i w hN
 ·exact rightType_2 t a f s r0 r1 r2 r3 p i w hN
 ·exact rightType_3 t a f s r0 r1 r2 r3 p i w hN
 ·exact rightType_4 t a f s r0 r1 r2 r3 p i w hN
 ·exact rightType_5 t a f s r0 r1 r2 r3 p i w hN
 ·exact rightType_6 t a f s r0 r1 r2 r3 p i w hN
 ·exact rightType_7 t a f s r0 r1 r2 r3 p i w hN
 ·exact rightType_8 t a f s r0 r1 r2 r3 p i w hN
 ·exact rightType_9 t a f s r0 r1 r2 r3 p i w hN
 ·have e : tyB k t = false := by
   unfold tyB
   rw [if_neg (by omega), if_neg (by omega), if_neg (by omega), if_neg (by omega), if_neg (by omega), if_neg (by omega), if_neg (by omega), if_neg (by omega), if_neg (by omega), if_neg (by omega)]
  rw [e]
  exact rightType_out k h t a f s r0 r1 r2 r3 p i w
theorem own_ex (k : Int) (h0 : 0 ≤ k) (h9 : k ≤ 9) (t : ByteArray) (n f : Int) (s : ByteArray) (r0 r1 r2 r3 : Int) (pp : Option Addr) (m c : Nat) (ip : Option Addr) (il ic : Nat) :
  ∃ (n' f' : Int) (s' : ByteArray) (r0' r1' r2' r3' : Int) (pp' : Option Addr) (m' c' : Nat) (ip' : Option Addr) (il' ic' : Nat),
   (∀ W, Calls Tryz.prog 95 #[D k t n f s r0 r1 r2 r3 (.slice pp m c) (.slice ip il ic)] W fun r w' => r = .returned (D k t n' f' s' r0' r1' r2' r3' (.slice pp' m' c') (.slice ip' il' ic')) ∧ Below W.heap.size W w') ∧
   headB n f s r0 r1 r2 r3 m il n' f' s' r0' r1' r2' r3' m' il' = zeroK k n f s r0 r1 r2 r3 m il := by
 rcases kinds k with rfl | rfl | rfl | rfl | rfl | rfl | rfl | rfl | rfl | rfl | h
 ·exact ⟨0, 0, ⟨#[]⟩, 0, 0, 0, 0, none, 0, 0, none, 0, 0, fun W => ownOf_nil _ _ _ _ _ _ _ _ _ _ W, by simp [headB, zeroK]⟩
 ·exact ⟨n, 0, ⟨#[]⟩, 0, 0, 0, 0, none, 0, 0, none, 0, 0, fun W => ownOf_bool _ _ _ _ _ _ _ _ _ _ _ _ W, by simp [headB, zeroK]⟩
 ·exact ⟨n, 0, ⟨#[]⟩, 0, 0, 0, 0, none, 0, 0, none, 0, 0, fun W => ownOf_int _ _ _ _ _ _ _ _ _ _ W, by simp [headB, zeroK]⟩
 ·exact ⟨0, f, ⟨#[]⟩, 0, 0, 0, 0, none, 0, 0, none, 0, 0, fun W => ownOf_float _ _ _ _ _ _ _ _ _ _ _ _ W, by simp [headB, zeroK]⟩
 ·exact ⟨0, 0, s, 0, 0, 0, 0, none, 0, 0, none, 0, 0, fun W => ownOf_text _ _ _ _ _ _ _ _ _ _ _ _ W, by simp [headB, zeroK]⟩
 ·exact ⟨0, 0, ⟨#[]⟩, r0, r1, r2, r3, none, 0, 0, none, 0, 0, fun W => ownOf_list _ _ _ _ _ _ _ _ _ _ _ _ W, by simp [headB, zeroK]⟩
 ·exact ⟨0, 0, ⟨#[]⟩, r0, 0, 0, 0, none, 0, 0, none, 0, 0, fun W => ownOf_map _ _ _ _ _ _ _ _ _ _ W, by simp [headB, zeroK]⟩
 ·exact ⟨0, 0, ⟨#[]⟩, r0, 0, 0, 0, none, 0, 0, none, 0, 0, fun W => ownOf_func _ _ _ _ _ _ _ _ _ _ W, by simp [headB, zeroK]⟩
 ·exact ⟨0, 0, ⟨#[]⟩, 0, 0, 0, 0, none, 0, 0, ip, il, ic, fun W => ownOf_struct _ _ _ _ _ _ _ _ _ _ _ _ W, by simp [headB, zeroK]⟩
 ·exact ⟨0, 0, ⟨#[]⟩, r0, 0, 0, 0, pp, m, c, none, 0, 0, fun W => ownOf_ptr _ _ _ _ _ _ _ _ _ _ _ _ W, by simp [headB, zeroK]⟩
 ·omega
def stepB (z : Int) : Bool := decide (0 ≤ z) && decide (z < 30)
theorem targetB_eq (r0 : Int) (path : List Int) : targetB r0 path = (objB r0 && decide (path.length ≤ 100) && !(r0 == 0 && decide (0 < path.length)) && path.all stepB) := rfl
theorem rightTarget_any (h : Hd) (w : World) (hP : MD.PathIn w.heap.size w h) (hl : h.path.length ≤ maxLen) :
  Calls Tryz.prog 101 #[.agg #[.int .i64 h.r0, .int .i64 h.r1, .int .i64 h.r2, .int .i64 h.r3, .slice h.pp h.path.length h.pc]] w fun r w' => r = .returned (.bool (targetB h.r0 h.path)) ∧ Below w.heap.size w w' := by
 rw [targetB_eq]
 obtain ⟨k, t, n, f, s, r0, r1, r2, r3, pp, path, pc⟩ := h
 simp only [MD.PathIn] at *
 unfold maxLen at hl
 have hP2 := hP.2
 clear hP
 obtain ⟨x, hx⟩ : ∃ x, x = objB r0 := ⟨_, rfl⟩
 have HO : Hid (∀ W, Calls Tryz.prog 99 #[.int .i64 r0] W fun r w' => r = .returned (.bool x) ∧ w' = W) := fun W => by rw [hx]; exact rightObject_any r0 W
 rw [← hx]
 clear hx
 cases x with
 | false =>
  go_enter Tryz.func101, Tryz.ntmps101
  go_wp2_with (go_at_call 99; refine (HO.out _).mono ?_; rintro r w' ⟨rfl, rfl⟩)
  all_goals (go_ret; refine ⟨?_, below1 _ _⟩; simp)
 | true =>
  by_cases h1 : 100 < path.length
  ·have h1' : (100 : Int) < path.length := by omega
   have e1 : decide (path.length ≤ 100) = false := by simpa using h1
   rw [e1]
   clear e1
   go_enter Tryz.func101, Tryz.ntmps101
   go_wp2_with (go_at_call 99; refine (HO.out _).mono ?_; rintro r w' ⟨rfl, rfl⟩)
   all_goals (go_ret; refine ⟨?_, below1 _ _⟩; simp)
  ·have h1' : ¬ (100 : Int) < path.length := by omega
   have e1 : decide (path.length ≤ 100) = true := by simpa using h1
   rw [e1]
   clear e1
   by_cases h2 : r0 = 0 ∧ 0 < path.length
   ·obtain ⟨rfl, h3⟩ := h2
    have h3' : (0 : Int) < path.length := by omega
    have e1 : decide (0 < path.length) = true := by simpa using h3
    rw [e1]
    clear e1
    go_enter Tryz.func101, Tryz.ntmps101
    go_wp2_with (go_at_call 99; refine (HO.out _).mono ?_; rintro r w' ⟨rfl, rfl⟩)
    all_goals (go_ret; refine ⟨?_, below1 _ _⟩; simp)
   ·have e1 : (!(r0 == 0 && decide (0 < path.length))) = true := by
     cases hh : (r0 == 0 && decide (0 < path.length)) with
     | false => rfl
     | true => rw [Bool.and_eq_true, beq_iff_eq, decide_eq_true_eq] at hh; exact absurd hh h2
    rw [e1]
    simp only [Bool.true_and]
    have HE : Hid (r0 = 0 → ¬ (0 : Int) < path.length) := fun h => by omega
    clear e1 h2
    have key : ∀ (W : World), W = w.alloc (.cells #[.int .i64 r0, .int .i64 r1, .int .i64 r2, .int .i64 r3, .slice pp path.length pc] 30) → ∀ (j : Nat) (hj : j < path.length), ∃ b o, pp = some ⟨b, o, none⟩ ∧ W.cell? ⟨b, o + j, none⟩ = some (.int .i64 path[j]) := by
     intro W hW j hj
     rcases hP2 with e | ⟨b, o, e1, e2, e3⟩
     ·rw [e] at hj; simp at hj
     ·exact ⟨b, o, e1, by rw [hW, World.cell?_alloc_lt _ _ _ e2]; exact e3 j hj⟩
    have HY : Hid _ := key _ rfl
    clear key hP2
    by_cases hr : r0 = 0
    ·subst hr
     have hz : ¬ (0 : Int) < path.length := HE.out rfl
     obtain rfl : path = [] := List.eq_nil_of_length_eq_zero (by omega)
     clear HY HE hz h1 h1' hl
     go_enter Tryz.func101, Tryz.ntmps101
     go_wp2_with (go_at_call 99; refine (HO.out _).mono ?_; rintro r w' ⟨rfl, rfl⟩)
     go_rounds 1
     all_goals (go_ret; exact ⟨rfl, below1 _ _⟩)
    ·go_enter Tryz.func101, Tryz.ntmps101
     go_wp2_with (go_at_call 99; refine (HO.out _).mono ?_; rintro r w' ⟨rfl, rfl⟩)
     go_loop [29] (fun i => ∃ j : Nat, j ≤ path.length ∧ i = .int .i64 j ∧ Hid ((path.take j).all stepB = true)) (fun i => path.length - (intOf i).toNat)
     case atStart => exact ⟨0, by omega, rfl, rfl⟩
     case round =>
      obtain ⟨j, hj, rfl, hal⟩ := hrel
      by_cases hlt : j < path.length
      ·have i1 : (j : Int) < path.length := by omega
       obtain ⟨b, o, rfl, hcell⟩ := HY.out j hlt
       have HS : Hid ((path.take (j + 1)).all stepB = stepB path[j]) := by
        show _ = _
        rw [List.take_succ_eq_append_getElem hlt, List.all_append, hal.out]; simp
       have HA : Hid (stepB path[j] = false → path.all stepB = false) := fun hz => by
        rw [List.all_eq_false]; exact ⟨path[j], List.getElem_mem hlt, by rw [hz]; exact Bool.false_ne_true⟩
       generalize path[j] = z at hcell HS HA
       go_wp2
       all_goals first
        | (refine ⟨⟨j + 1, by omega, by go_num, ?_⟩, by simp [intOf]; omega⟩; show _ = _; rw [HS.out, stepB]; simp; omega)
        | (go_ret; refine ⟨?_, below1 _ _⟩; rw [HA.out (by unfold stepB; simp; omega)]; rfl)
      ·obtain rfl : j = path.length := by omega
       have HX : Hid (path.all stepB = true) := by
        show _ = _
        have := hal.out
        rwa [List.take_of_length_le (Nat.le_refl _)] at this
       go_wp2
       go_ret
       refine ⟨?_, below1 _ _⟩
       rw [HX.out]; rfl
end Go.Proofs.YtdbijkgnddcneaaGreatDoor
namespace Go.Proofs.YtdbijkgnddcneaaGreatDoor
open Go.RowKit
set_option maxRecDepth 100000
set_option maxHeartbeats 2000000
attribute [local go_sem] refold2 cell3_0 cell3_1 b28_0 b28_01
def kindB (h : Hd) : Bool :=
 if h.k = 1 then (h.n == 0 || h.n == 1) else if h.k = 3 then (h.f == 9221120237041090561 || !isNan h.f.toNat) else if h.k = 4 then decide (h.s.size ≤ 65536)
 else if h.k = 5 then pieceB h.r0 h.r1 h.r2 h.r3 else if h.k = 6 then objB h.r0 else if h.k = 7 then objB h.r0 else if h.k = 9 then targetB h.r0 h.path else true
def headOK (h : Hd) (il : Nat) : Bool := tyB h.k h.t && zeroK h.k h.n h.f h.s h.r0 h.r1 h.r2 h.r3 h.path.length il && kindB h
def MD.size : Nat → MD → Nat
 | 0, _ => 1
 | n + 1, d => 1 + (if d.h.k = 8 then (d.items.map (MD.size n)).sum else 0)
def MD.full : Nat → MD → Bool
 | 0, _ => false
 | n + 1, d => headOK d.h d.items.length && (d.h.k != 8 || (decide (d.items.length ≤ 30) && d.items.all (MD.full n)))
theorem MD.size_pos (n : Nat) (d : MD) : 1 ≤ MD.size n d := by cases n <;> simp [MD.size]
theorem sum_take_succ {α : Type} (g : α → Nat) (l : List α) (i : Nat) (hi : i < l.length) : ((l.take (i + 1)).map g).sum = ((l.take i).map g).sum + g l[i] := by
 rw [List.take_succ_eq_append_getElem hi, List.map_append, List.sum_append]; simp
theorem sum_take_le {α : Type} (g : α → Nat) (l : List α) (i : Nat) : ((l.take i).map g).sum ≤ (l.map g).sum := by
 have : (l.map g).sum = ((l.take i).map g).sum + ((l.drop i).map g).sum := by rw [← List.sum_append, ← List.map_append, List.take_append_drop]
 omega
structure RoomAt (w : World) (b : Nat) (rm : Int) : Prop where
 c : w.cell? ⟨b, 0, none⟩ = some (.int .i64 rm)
 f : w.frozen? ⟨b, 0, none⟩ = false
 lt : b < w.heap.size
theorem RoomAt.kept {w W : World} {b : Nat} {rm : Int} (h : RoomAt w b rm) (hb : Below w.heap.size w W) : RoomAt W b rm :=
 ⟨(hb.cell (p := ⟨b, 0, none⟩) h.lt).trans h.c, (hb.frozen (p := ⟨b, 0, none⟩) h.lt).trans h.f, Nat.lt_of_lt_of_le h.lt hb.size⟩
theorem NamesAt.under {w W : World} {b : Nat} (h : NamesAt w) (h0 : 0 < b) (hb : Below b w W) : NamesAt W := ⟨fun j => (hb.cell (p := ⟨0, j, none⟩) h0).trans (h.cells j), Nat.lt_of_lt_of_le h.lt hb.size⟩
def MD.ItemsIn (B : Nat) (w : World) (n : Nat) (d : MD) : Prop :=
 d.items = [] ∨ ∃ b o, d.ip = some ⟨b, o, none⟩ ∧ b < B ∧ ∀ (i : Nat) (hi : i < d.items.length), MD.CellsAt w b (o + i * 11) d.items[i] ∧ MD.In B w n d.items[i]
theorem MD.In.items {B : Nat} {w : World} {n : Nat} {d : MD} (h : MD.In B w (n + 1) d) : MD.ItemsIn B w n d := h.2.2.2.2
theorem MD.ItemsIn.below {B : Nat} {w w' : World} {n : Nat} {d : MD} (h : MD.ItemsIn B w n d) (hb : Below B w w') : MD.ItemsIn B w' n d := by
 rcases h with e | ⟨b, o, e1, e2, e3⟩
 ·exact .inl e
 ·exact .inr ⟨b, o, e1, e2, fun i hi => ⟨(e3 i hi).1.below e2 hb, MD.In.below hb n _ (e3 i hi).2⟩⟩
def RightP (fu : Bool) (z : Nat) (b : Nat) (rm : Int) (w : World) (r : Ending) (w' : World) : Prop :=
 ∃ (x : Bool) (rm' : Int), r = .returned (.bool x) ∧ Below b w w' ∧ RoomAt w' b rm' ∧ x = (fu && decide ((z : Int) ≤ rm)) ∧ (x = true → rm' = rm - z)
def RightC (n : Nat) : Prop := ∀ (d : MD) (b : Nat) (rm : Int) (w : World), NamesAt w → 0 < b → RoomAt w b rm → 0 ≤ rm → rm ≤ 100 → MD.In b w n d →
 Calls Tryz.prog 67 #[d.val, .pointer (some ⟨b, 0, none⟩)] w (RightP (MD.full n d) (MD.size n d) b rm w)
def ItemsC (n : Nat) : Prop := ∀ (d : MD) (b : Nat) (rm : Int) (w : World), NamesAt w → 0 < b → RoomAt w b rm → 0 ≤ rm → rm ≤ 100 → MD.ItemsIn b w n d → d.items.length ≤ d.ic → d.ic ≤ maxLen →
 Calls Tryz.prog 100 #[.slice d.ip d.items.length d.ic, .pointer (some ⟨b, 0, none⟩)] w (RightP (decide (d.items.length ≤ 30) && d.items.all (MD.full n)) (d.items.map (MD.size n)).sum b rm w)
theorem rightItems_step (n : Nat) (hI : RightC n) : ItemsC n := by
 intro d b rm w hN hb0 hR h0 h1 hin hl1 hl2
 obtain ⟨h, ip, ic, items⟩ := d
 simp only at *
 have HI : Hid (RightC n) := hI
 clear hI
 unfold maxLen at hl2
 by_cases h30 : 30 < items.length
 ·have h30' : (30 : Int) < items.length := by omega
  have e : decide (items.length ≤ 30) = false := by simpa using h30
  rw [e]
  clear e
  go_enter Tryz.func100, Tryz.ntmps100
  go_wp2_with fail
  go_ret
  exact ⟨false, rm, rfl, Below.refl _ _, hR, rfl, fun h => by cases h⟩
 ·have h30' : ¬ (30 : Int) < items.length := by omega
  have e : decide (items.length ≤ 30) = true := by simpa using h30
  rw [e]
  simp only [Bool.true_and]
  clear e
  have HH : Hid (NamesAt w ∧ MD.ItemsIn b w n ⟨h, ip, ic, items⟩) := ⟨hN, hin⟩
  have HR : Hid (RoomAt w b rm) := hR
  clear hN hin hR
  go_enter Tryz.func100, Tryz.ntmps100
  go_wp2_with fail
  go_loopw [12] (fun i wr => ∃ (k : Nat) (rk : Int), k ≤ items.length ∧ i = .int .i64 k ∧ 0 ≤ rk ∧ rk ≤ 100 ∧ Hid (RoomAt wr b rk ∧ Below b w wr ∧ (items.take k).all (MD.full n) = true ∧ rk = rm - ((items.take k).map (MD.size n)).sum)) (fun i _ => items.length - (intOf i).toNat)
  case atStart => exact ⟨0, rm, Nat.zero_le _, rfl, h0, h1, HR.out, Below.refl _ _, rfl, by simp⟩
  case round =>
   obtain ⟨k, rk, hk, rfl, hk0, hk1, hk2⟩ := hrel
   by_cases hlt : k < items.length
   ·have i1 : (k : Int) < items.length := by omega
    obtain ⟨bb, o, rfl, hbB, hC, hIn⟩ : ∃ bb o, ip = some ⟨bb, o, none⟩ ∧ bb < b ∧ MD.CellsAt wr bb (o + k * 11) items[k] ∧ MD.In b wr n items[k] := by
     rcases HH.out.2.below hk2.out.2.1 with e | ⟨bb, o, e1, e2, e3⟩
     ·have e' : items = [] := e
      rw [e'] at hlt; simp at hlt
     ·exact ⟨bb, o, e1, e2, e3 k hlt⟩
    have HS : Hid (((items.take (k + 1)).map (MD.size n)).sum = ((items.take k).map (MD.size n)).sum + MD.size n items[k]) := sum_take_succ _ _ _ hlt
    have HL : Hid (((items.take (k + 1)).map (MD.size n)).sum ≤ (items.map (MD.size n)).sum) := sum_take_le _ _ _
    have HT : Hid ((items.take (k + 1)).all (MD.full n) = MD.full n items[k]) := by
     show _ = _
     rw [List.take_succ_eq_append_getElem hlt, List.all_append, hk2.out.2.2.1]; simp
    have HA : Hid (MD.full n items[k] = false → items.all (MD.full n) = false) := fun hz => by
     rw [List.all_eq_false]; exact ⟨items[k], List.getElem_mem hlt, by rw [hz]; exact Bool.false_ne_true⟩
    generalize items[k] = kid at hC hIn HS HT HA
    obtain ⟨⟨k0, k1, k2, k3, k4, k5, k6, k7, k8, kp, kpath, kpc⟩, kip, kic, kit⟩ := kid
    have c0 : wr.cell? ⟨bb, o + k * 11, none⟩ = some (.int .i64 k0) := hC 0 (by omega)
    have c1 : wr.cell? ⟨bb, o + k * 11 + 1, none⟩ = some (.string k1) := hC 1 (by omega)
    have c2 : wr.cell? ⟨bb, o + k * 11 + 2, none⟩ = some (.int .i64 k2) := hC 2 (by omega)
    have c3 : wr.cell? ⟨bb, o + k * 11 + 3, none⟩ = some (.int .u64 k3) := hC 3 (by omega)
    have c4 : wr.cell? ⟨bb, o + k * 11 + 4, none⟩ = some (.string k4) := hC 4 (by omega)
    have c5 : wr.cell? ⟨bb, o + k * 11 + 5, none⟩ = some (.int .i64 k5) := hC 5 (by omega)
    have c6 : wr.cell? ⟨bb, o + k * 11 + 6, none⟩ = some (.int .i64 k6) := hC 6 (by omega)
    have c7 : wr.cell? ⟨bb, o + k * 11 + 7, none⟩ = some (.int .i64 k7) := hC 7 (by omega)
    have c8 : wr.cell? ⟨bb, o + k * 11 + 8, none⟩ = some (.int .i64 k8) := hC 8 (by omega)
    have c9 : wr.cell? ⟨bb, o + k * 11 + 9, none⟩ = some (.slice kp kpath.length kpc) := hC 9 (by omega)
    have c10 : wr.cell? ⟨bb, o + k * 11 + 10, none⟩ = some (.slice kip kit.length kic) := hC 10 (by omega)
    have HC : Hid (∀ W, Below wr.heap.size wr W → Calls Tryz.prog 67 #[.agg #[.int .i64 k0, .string k1, .int .i64 k2, .int .u64 k3, .string k4, .int .i64 k5, .int .i64 k6, .int .i64 k7, .int .i64 k8, .slice kp kpath.length kpc, .slice kip kit.length kic], .pointer (some ⟨b, 0, none⟩)] W (RightP (MD.full n ⟨⟨k0, k1, k2, k3, k4, k5, k6, k7, k8, kp, kpath, kpc⟩, kip, kic, kit⟩) (MD.size n ⟨⟨k0, k1, k2, k3, k4, k5, k6, k7, k8, kp, kpath, kpc⟩, kip, kic, kit⟩) b rk W)) := fun W hW => by
     obtain ⟨q1, q2, q3, q4⟩ := hk2.out
     have hbW : Below b wr W := hW.mono (Nat.le_of_lt q1.lt)
     exact (HI.out ⟨⟨k0, k1, k2, k3, k4, k5, k6, k7, k8, kp, kpath, kpc⟩, kip, kic, kit⟩ b rk W (HH.out.1.under hb0 (q2.trans hbW)) hb0 (q1.kept hW) hk0 hk1 (MD.In.below hbW n _ hIn))
    clear hC hIn HI
    generalize MD.size n ⟨⟨k0, k1, k2, k3, k4, k5, k6, k7, k8, kp, kpath, kpc⟩, kip, kic, kit⟩ = zk at HC HS
    generalize MD.full n ⟨⟨k0, k1, k2, k3, k4, k5, k6, k7, k8, kp, kpath, kpc⟩, kip, kic, kit⟩ = fk at HC HT HA
    go_wp2_with (go_at_call 67; refine (HC.out _ (below1 _ _)).mono ?_; rintro r w2 ⟨x, rm2, rfl, hx'⟩; have hx : Hid (Below b _ w2 ∧ RoomAt w2 b rm2 ∧ x = (fk && decide ((zk : Int) ≤ rk)) ∧ (x = true → rm2 = rk - zk)) := hx'; clear hx'; cases x)
    ·go_ret
     obtain ⟨q1, q2, q3, q4⟩ := hk2.out
     obtain ⟨g1, g2, g3, g4⟩ := hx.out
     have gB : Below b w w2 := q2.trans (((below1 wr _).mono (Nat.le_of_lt q1.lt)).trans g1)
     refine ⟨false, rm2, rfl, gB, g2, ?_, fun h => by cases h⟩
     cases hf : fk with
     | false => rw [HA.out hf]; rfl
     | true =>
      rw [hf, Bool.true_and] at g3
      have g5 : ¬ (zk : Int) ≤ rk := by simpa using g3
      have e : decide (((items.map (MD.size n)).sum : Int) ≤ rm) = false := by
       have := HS.out; have := HL.out
       simp only [decide_eq_false_iff_not]; omega
      rw [e, Bool.and_false]
    ·obtain ⟨q1, q2, q3, q4⟩ := hk2.out
     obtain ⟨g1, g2, g3, g4⟩ := hx.out
     have gB : Below b w w2 := q2.trans (((below1 wr _).mono (Nat.le_of_lt q1.lt)).trans g1)
     have g5 : rm2 = rk - zk := by simpa using g4
     have g6 := g3.symm
     rw [Bool.and_eq_true, decide_eq_true_eq] at g6
     have g7 := HS.out
     refine ⟨⟨k + 1, rm2, hlt, by go_num, by omega, by omega, g2, gB, ?_, by omega⟩, by simp [intOf]; omega⟩
     rw [HT.out]; exact g6.1
   ·obtain rfl : k = items.length := by omega
    have hnl : ¬ (items.length : Int) < items.length := by omega
    go_wp2_with fail
    go_ret
    obtain ⟨q1, q2, q3, q4⟩ := hk2.out
    rw [List.take_of_length_le (Nat.le_refl _)] at q3 q4
    refine ⟨true, rk, rfl, q2, q1, ?_, fun _ => q4⟩
    rw [q3, Bool.true_and]
    have : ((items.map (MD.size n)).sum : Int) ≤ rm := by omega
    simpa using this
end Go.Proofs.YtdbijkgnddcneaaGreatDoor
namespace Go.Proofs.YtdbijkgnddcneaaGreatDoor
open Go.RowKit
def all2 {α : Type} (p : α → α → Bool) : List α → List α → Bool
 | [], _ => true
 | _ :: _, [] => true
 | x :: xs, y :: ys => p x y && all2 p xs ys
theorem all2_snoc {α : Type} (p : α → α → Bool) : ∀ (xs ys : List α) (k : Nat) (hx : k < xs.length) (hy : k < ys.length), all2 p (xs.take (k + 1)) (ys.take (k + 1)) = (all2 p (xs.take k) (ys.take k) && p xs[k] ys[k])
 | x :: xs, y :: ys, 0, _, _ => by simp [all2]
 | x :: xs, y :: ys, k + 1, hx, hy => by
  have := all2_snoc p xs ys k (by simpa using hx) (by simpa using hy)
  simp only [List.take_succ_cons, List.getElem_cons_succ, all2]
  rw [this, Bool.and_assoc]
theorem all2_take {α : Type} (p : α → α → Bool) : ∀ (xs ys : List α) (k : Nat), all2 p (xs.take k) (ys.take k) = false → all2 p xs ys = false
 | [], ys, k, h => by simp [all2] at h
 | x :: xs, [], k, h => by cases k <;> simp [all2] at h
 | x :: xs, y :: ys, 0, h => by simp [all2] at h
 | x :: xs, y :: ys, k + 1, h => by
  simp only [List.take_succ_cons, all2, Bool.and_eq_false_iff] at h ⊢
  rcases h with h | h
  ·exact .inl h
  ·exact .inr (all2_take p xs ys k h)
def sameH (a b : Hd) (il jl : Nat) : Bool := decide (a.k = b.k ∧ a.t = b.t ∧ a.n = b.n ∧ a.f = b.f ∧ a.s = b.s ∧ a.r0 = b.r0 ∧ a.r1 = b.r1 ∧ a.r2 = b.r2 ∧ a.r3 = b.r3 ∧ a.path.length = b.path.length ∧ il = jl)
def MD.same : Nat → MD → MD → Bool
 | 0, _, _ => true
 | n + 1, a, b => sameH a.h b.h a.items.length b.items.length && decide (a.h.path = b.h.path) && all2 (MD.same n) a.items b.items
theorem byteArray_ext {s t : ByteArray} (h : s.toList = t.toList) : s = t := by
 rw [Lib.toList_data, Lib.toList_data] at h
 exact ByteArray.ext (Array.toList_inj.1 h)
theorem kept2 {w W : World} {c d : Array Value} {t u : TypeId} (b : Below ((w.alloc (.cells c t)).alloc (.cells d u)).heap.size ((w.alloc (.cells c t)).alloc (.cells d u)) W) : Below w.heap.size w W ∧ (∀ j, W.cell? ⟨w.heap.size, j, none⟩ = c[j]?) ∧ ∀ j, W.cell? ⟨w.heap.size + 1, j, none⟩ = d[j]? :=
 ⟨(below2 w _ _).trans (b.mono (by simp; omega)), fun j => by
  rw [b.cell (p := ⟨w.heap.size, j, none⟩) (by simp; omega), World.cell?_alloc_lt _ _ _ (by simp)]; exact row_at (heap_alloc_new _ _) j, fun j => by
  rw [b.cell (p := ⟨w.heap.size + 1, j, none⟩) (by simp)]; exact row_at (heap2_1 _ _ _) j⟩
def PathRel (path path' : List Int) (W2 : World) (i : Value) (wr : World) : Prop := ∃ j : Nat, j ≤ path.length ∧ i = .int .i64 j ∧ path.take j = path'.take j ∧ Below W2.heap.size W2 wr
def SameRel (n : Nat) (items items' : List MD) (W2 : World) (i : Value) (wr : World) : Prop := ∃ j : Nat, j ≤ items.length ∧ i = .int .i64 j ∧ all2 (MD.same n) (items.take j) (items'.take j) = true ∧ Below W2.heap.size W2 wr
end Go.Proofs.YtdbijkgnddcneaaGreatDoor
namespace Go.Proofs.YtdbijkgnddcneaaGreatDoor
open Go.RowKit
set_option maxRecDepth 100000
set_option maxHeartbeats 8000000
attribute [local go_sem] refold2 cell3_0 cell3_1 b28_0 b28_01 x56
theorem RightP.leaf {fu x : Bool} {z b : Nat} {rm : Int} {w W : World} (hB : Below b w W) (hR : RoomAt W b (rm - 1)) (hf : fu = x) (hz : z = 1) (h1 : 1 ≤ rm) : RightP fu z b rm w (.returned (.bool x)) W := by
 subst hz hf
 refine ⟨fu, rm - 1, rfl, hB, hR, ?_, fun _ => rfl⟩
 have : ((1 : Nat) : Int) ≤ rm := h1
 rw [decide_eq_true this, Bool.and_true]
theorem RightP.no {fu : Bool} {z b : Nat} {rm q : Int} {w W : World} (hB : Below b w W) (hR : RoomAt W b q) (hf : fu = false ∨ rm < z) : RightP fu z b rm w (.returned (.bool false)) W := by
 refine ⟨false, q, rfl, hB, hR, ?_, fun h => by cases h⟩
 rcases hf with h | h
 ·rw [h]; rfl
 ·rw [decide_eq_false (by omega), Bool.and_false]
theorem tyB_range {k : Int} {t : ByteArray} (h : tyB k t = true) : 0 ≤ k ∧ k ≤ 9 := by
 rcases kinds k with rfl | rfl | rfl | rfl | rfl | rfl | rfl | rfl | rfl | rfl | hk
 iterate 10 (exact ⟨by decide, by decide⟩)
 have e : tyB k t = false := by
  unfold tyB
  rw [if_neg (by omega), if_neg (by omega), if_neg (by omega), if_neg (by omega), if_neg (by omega), if_neg (by omega), if_neg (by omega), if_neg (by omega), if_neg (by omega), if_neg (by omega)]
 rw [e] at h; cases h
theorem right_step (n : Nat) (hI : ItemsC n) : RightC (n + 1) := by
 intro d b rm w hN hb0 hR h0 h1 hin
 have hfine := hin.fine
 have hpath := hin.path
 have hlen := hin.len
 have hits := hin.items
 clear hin
 obtain ⟨⟨k, t, a, f, s, r0, r1, r2, r3, pp, path, pc⟩, ip, ic, items⟩ := d
 have HI : Hid (∀ W, Below b w W → RoomAt W b (rm - 1) → 1 ≤ rm → Calls Tryz.prog 100 #[.slice ip items.length ic, .pointer (some ⟨b, 0, none⟩)] W (RightP (decide (items.length ≤ 30) && items.all (MD.full n)) (items.map (MD.size n)).sum b (rm - 1) W)) := fun W hW hRW h1m =>
  hI ⟨⟨k, t, a, f, s, r0, r1, r2, r3, pp, path, pc⟩, ip, ic, items⟩ b (rm - 1) W (hN.under hb0 hW) hb0 hRW (by omega) (by omega) (hits.below hW) hlen.1 hlen.2
 have HP : Hid (∀ W, Below b w W → Calls Tryz.prog 101 #[.agg #[.int .i64 r0, .int .i64 r1, .int .i64 r2, .int .i64 r3, .slice pp path.length pc]] W fun r w' => r = .returned (.bool (targetB r0 path)) ∧ Below W.heap.size W w') := fun W hW =>
  rightTarget_any ⟨k, t, a, f, s, r0, r1, r2, r3, pp, path, pc⟩ W ((hpath.below hW).mono (Nat.le_trans (Nat.le_of_lt hR.lt) hW.size)) (Nat.le_trans hfine.pl hfine.pm)
 have HFn : Hid (MD.Fine ⟨k, t, a, f, s, r0, r1, r2, r3, pp, path, pc⟩) := hfine
 obtain ⟨fu, hfu⟩ : ∃ fu, fu = MD.full (n + 1) ⟨⟨k, t, a, f, s, r0, r1, r2, r3, pp, path, pc⟩, ip, ic, items⟩ := ⟨_, rfl⟩
 obtain ⟨z, hz⟩ : ∃ z, z = MD.size (n + 1) ⟨⟨k, t, a, f, s, r0, r1, r2, r3, pp, path, pc⟩, ip, ic, items⟩ := ⟨_, rfl⟩
 rw [← hfu, ← hz]
 have HF : Hid (fu = (tyB k t && zeroK k a f s r0 r1 r2 r3 path.length items.length && kindB ⟨k, t, a, f, s, r0, r1, r2, r3, pp, path, pc⟩ && (k != 8 || (decide (items.length ≤ 30) && items.all (MD.full n))))) := hfu
 have HZ : Hid (z = 1 + (if k = 8 then (items.map (MD.size n)).sum else 0)) := hz
 have HZ1 : Hid (1 ≤ z) := by rw [hz]; exact MD.size_pos _ _
 simp only [MD.val, D]
 clear hfu hz hI hits hpath hlen hfine
 obtain ⟨W1, hW1⟩ : ∃ W1, W1 = (w.setCell ⟨b, 0, none⟩ (.int .i64 (rm - 1))).alloc (.cells #[.int .i64 k, .string t, .int .i64 a, .int .u64 f, .string s, .int .i64 r0, .int .i64 r1, .int .i64 r2, .int .i64 r3, .slice pp path.length pc, .slice ip items.length ic] 32) := ⟨_, rfl⟩
 have hc := hR.c
 have hf := hR.f
 have hbw := hR.lt
 have hB1 : Below b w W1 := by rw [hW1]; exact ((Below.refl _ _).setCell (p := ⟨b, 0, none⟩) (Nat.le_refl _) _).alloc (by simp; omega) _
 have hz1 : W1.heap.size = w.heap.size + 1 := by rw [hW1]; simp
 have HK : Hid (∀ W, Below W1.heap.size W1 W → ((∀ j, W.cell? ⟨w.heap.size, j, none⟩ = (#[.int .i64 k, .string t, .int .i64 a, .int .u64 f, .string s, .int .i64 r0, .int .i64 r1, .int .i64 r2, .int .i64 r3, .slice pp path.length pc, .slice ip items.length ic] : Array Value)[j]?) ∧ W.cell? ⟨b, 0, none⟩ = some (.int .i64 (rm - 1)))) := fun W hW => by
  refine ⟨fun j => ?_, ?_⟩
  ·rw [hW.cell (p := ⟨w.heap.size, j, none⟩) (by show w.heap.size < _; omega), hW1, show w.heap.size = (w.setCell ⟨b, 0, none⟩ (.int .i64 (rm - 1))).heap.size by simp, World.cell?_alloc_new]
  ·rw [hW.cell (p := ⟨b, 0, none⟩) (by show b < _; omega), hW1, World.cell?_alloc_lt _ _ _ (by simpa using hbw)]
   exact cell_set hc
 have HR1 : Hid (RoomAt W1 b (rm - 1)) := ⟨(HK.out W1 (Below.refl _ _)).2, by
  rw [hW1]; simp [go_sem, hf, hbw], by omega⟩
 have HN1 : Hid (NamesAt W1) := hN.under hb0 hB1
 have HT : Hid (∀ W, Below W1.heap.size W1 W → Calls Tryz.prog 93 #[.agg #[.int .i64 k, .string t, .int .i64 a, .int .u64 f, .string s, .int .i64 r0, .int .i64 r1, .int .i64 r2, .int .i64 r3, .slice pp path.length pc, .slice ip items.length ic]] W fun r w' => r = .returned (.bool (tyB k t)) ∧ Below W.heap.size W w') := fun W hW => rightType_any k t a f s r0 r1 r2 r3 _ _ W (HN1.out.kept hW)
 have HH : Hid (∀ W, Calls Tryz.prog 94 #[.agg #[.int .i64 k, .string t, .int .i64 a, .int .u64 f, .string s, .int .i64 r0, .int .i64 r1, .int .i64 r2, .int .i64 r3, .slice pp path.length pc, .slice ip items.length ic]] W fun r w' => r = .returned (.agg #[.int .i64 k, .string t, .int .i64 a, .int .u64 f, .string s, .int .i64 r0, .int .i64 r1, .int .i64 r2, .int .i64 r3, .int .i64 path.length, .int .i64 items.length]) ∧ Below W.heap.size W w') := fun W => headOf_any _ _ _ _ _ _ _ _ _ _ _ _ _ _ _ W
 clear hN
 have HRw : Hid (RoomAt w b rm) := hR
 clear hR
 by_cases hrm : rm = 0
 ·have hlt : rm - 1 < 0 := by omega
  have HRM : Hid (rm = 0) := hrm
  clear hrm
  go_enter Tryz.func67, Tryz.ntmps67
  go_wp2_with fail
  rw [← hW1]
  clear hW1
  refine wp_region_noPanic ?_
  refine wp_region_held (S := fun W => (∀ j, W.cell? ⟨w.heap.size, j, none⟩ = (#[.int .i64 k, .string t, .int .i64 a, .int .u64 f, .string s, .int .i64 r0, .int .i64 r1, .int .i64 r2, .int .i64 r3, .slice pp path.length pc, .slice ip items.length ic] : Array Value)[j]?) ∧ W.cell? ⟨b, 0, none⟩ = some (.int .i64 (rm - 1))) (by kernel_rfl) ?_
  obtain ⟨W4, hW4⟩ : ∃ W4, W4 = W1.drew := ⟨_, rfl⟩
  have e4 : ({ W1 with drawn := W1.drawn + 1 } : World) = W4 := hW4.symm
  rw [e4]
  have hB4 : Below W1.heap.size W1 W4 := by rw [hW4]; exact (Below.refl _ _).drew
  have hS := HK.out W4 hB4
  clear e4 hW4
  refine tq 0 (.pointer (some ⟨b, 0, none⟩)) rfl hS ?_
  simp only [sa, sb, Act.put, sd, se, sf]
  refine tq 1 (.pointer (some ⟨b, 0, none⟩)) rfl hS ?_
  simp only [sa, sb, sc, Act.put, sd, se, sf]
  refine tk 2 (.int .i64 (rm - 1)) rfl (.inl ⟨by rfl, ?r⟩) hS ?_
  case r => intro W hW; simp [go_sem, execOp, Act.eval, hW.2]
  simp only [sa, sb, sc, Act.put, sd, se, sf]
  refine tk 3 (.bool true) rfl (.inl ⟨by rfl, ?r⟩) hS ?_
  case r => intro W hW; simp [go_sem, execOp, Act.eval, hlt]
  simp only [sa, sb, sc, Act.put, sd, se, sf]
  refine tq 4 (.bool true) rfl hS ?_
  simp only [sa, sb, sc, Act.put, sd, se, sf]
  refine tk 5 undef rfl (Or.inr ⟨by rfl, rfl⟩) hS ?_
  simp only [sa, sb, sc, Act.put, sd, se, sf]
  refine wpAnyH_all (rs := [6]) (by kernel_rfl) (by simp) (fun i2 hi2 => ?_)
  obtain rfl : i2 = 6 := by simpa using hi2
  clear hi2
  refine wpOp_step rfl (fun K hK => ite_no rfl ?_)
  simp only [sa, sb, sc]
  refine hK _ _ ⟨HK.out _ hB4, ?_⟩
  clear hK K
  refine tk 7 undef rfl (Or.inr ⟨by rfl, rfl⟩) hS ?_
  simp only [sa, sb, sc, Act.put, sd, se, sf]
  refine tq 8 (.bool true) rfl hS ?_
  simp only [sa, sb, sc, Act.put, sd, se, sf]
  refine tq 9 (.bool true) rfl hS ?_
  simp only [sa, sb, sc, Act.put, sd, se, sf]
  refine tk 10 undef rfl (Or.inr ⟨by rfl, rfl⟩) hS ?_
  simp only [sa, sb, sc, Act.put, sd, se, sf]
  refine tk 12 undef rfl (Or.inr ⟨by rfl, rfl⟩) hS ?_
  simp only [sa, sb, sc, Act.put, sd, se, sf]
  refine wpAnyH_all (rs := [11]) (by kernel_rfl) (by simp) (fun i2 hi2 => ?_)
  obtain rfl : i2 = 11 := by simpa using hi2
  clear hi2
  refine wpOp_step rfl (fun K hK => ite_no rfl ?_)
  simp only [sa, sb, sc]
  refine hK _ _ ⟨HK.out _ hB4, ?_⟩
  clear hK K
  refine wpAnyH_all (rs := [13]) (by kernel_rfl) (by simp) (fun i2 hi2 => ?_)
  obtain rfl : i2 = 13 := by simpa using hi2
  clear hi2
  refine wpOp_step rfl (fun K hK => ite_no rfl ?_)
  simp only [sa, sb, sc]
  refine hK _ _ ⟨HK.out _ hB4, ?_⟩
  clear hK K
  refine wpAnyH_all (rs := [14]) (by kernel_rfl) (by simp) (fun i2 hi2 => ?_)
  obtain rfl : i2 = 14 := by simpa using hi2
  clear hi2
  refine wpOp_step rfl (fun K hK => ite_no rfl ?_)
  simp only [sa, sb, sc]
  refine hK _ _ ⟨HK.out _ hB4, ?_⟩
  clear hK K
  refine tk 15 undef rfl (Or.inr ⟨by rfl, rfl⟩) hS ?_
  simp only [sa, sb, sc, Act.put, sd, se, sf]
  refine tq 16 (.bool true) rfl hS ?_
  simp only [sa, sb, sc, Act.put, sd, se, sf]
  refine dn ?_
  try simp only [Act.put]
  go_wp2_with fail
  go_ret
  exact RightP.no (hB1.trans (hB4.mono (by omega))) (HR1.out.kept hB4) (.inr (by have := HZ1.out; have := HRM.out; omega))
 ·have hlt : ¬ (rm - 1 < 0) := by omega
  have hr1 : 1 ≤ rm := by omega
  clear hrm
  obtain ⟨bt, hbt⟩ : ∃ bt, bt = tyB k t := ⟨_, rfl⟩
  rw [← hbt] at HT
  have HBT : Hid (bt = tyB k t) := hbt
  clear hbt
  cases bt with
  | false =>
   go_enter Tryz.func67, Tryz.ntmps67
   go_wp2_with fail
   rw [← hW1]
   clear hW1
   refine wp_region_noPanic ?_
   refine wp_region_held (S := fun W => (∀ j, W.cell? ⟨w.heap.size, j, none⟩ = (#[.int .i64 k, .string t, .int .i64 a, .int .u64 f, .string s, .int .i64 r0, .int .i64 r1, .int .i64 r2, .int .i64 r3, .slice pp path.length pc, .slice ip items.length ic] : Array Value)[j]?) ∧ W.cell? ⟨b, 0, none⟩ = some (.int .i64 (rm - 1))) (by kernel_rfl) ?_
   obtain ⟨W4, hW4⟩ : ∃ W4, W4 = W1.drew := ⟨_, rfl⟩
   have e4 : ({ W1 with drawn := W1.drawn + 1 } : World) = W4 := hW4.symm
   rw [e4]
   have hB4 : Below W1.heap.size W1 W4 := by rw [hW4]; exact (Below.refl _ _).drew
   have hS := HK.out W4 hB4
   clear e4 hW4
   refine tq 0 (.pointer (some ⟨b, 0, none⟩)) rfl hS ?_
   simp only [sa, sb, Act.put, sd, se, sf]
   refine tq 1 (.pointer (some ⟨b, 0, none⟩)) rfl hS ?_
   simp only [sa, sb, sc, Act.put, sd, se, sf]
   refine tk 2 (.int .i64 (rm - 1)) rfl (.inl ⟨by rfl, ?r⟩) hS ?_
   case r => intro W hW; simp [go_sem, execOp, Act.eval, hW.2]
   simp only [sa, sb, sc, Act.put, sd, se, sf]
   refine tk 3 (.bool false) rfl (.inl ⟨by rfl, ?r⟩) hS ?_
   case r => intro W hW; simp [go_sem, execOp, Act.eval, hr1]
   simp only [sa, sb, sc, Act.put, sd, se, sf]
   refine tq 4 (.bool false) rfl hS ?_
   simp only [sa, sb, sc, Act.put, sd, se, sf]
   refine tk 5 (.agg #[.int .i64 k, .string t, .int .i64 a, .int .u64 f, .string s, .int .i64 r0, .int .i64 r1, .int .i64 r2, .int .i64 r3, .slice pp path.length pc, .slice ip items.length ic]) rfl (.inl ⟨by rfl, ?r⟩) hS ?_
   case r => intro W hW; simp [go_sem, execOp, Act.eval, hW.1]
   simp only [sa, sb, sc, Act.put, sd, se, sf]
   refine one 6 rfl (fun K hK => ?_)
   simp only [sa, sb, sc]
   go_simp
   refine (HT.out _ hB4).mono ?_
   rintro e w5 ⟨rfl, b5⟩
   have hb5 : Below W1.heap.size W1 w5 := hB4.trans (b5.mono hB4.size)
   go_simp
   refine hK _ _ ⟨HK.out _ hb5, ?_⟩
   clear hK K hS
   have hS := HK.out _ hb5
   refine tq 7 (.bool true) rfl hS ?_
   simp only [sa, sb, sc, Act.put, sd, se, sf]
   refine tq 8 (.bool true) rfl hS ?_
   simp only [sa, sb, sc, Act.put, sd, se, sf]
   refine tq 9 (.bool true) rfl hS ?_
   simp only [sa, sb, sc, Act.put, sd, se, sf]
   refine tk 10 undef rfl (Or.inr ⟨by rfl, rfl⟩) hS ?_
   simp only [sa, sb, sc, Act.put, sd, se, sf]
   refine tk 12 undef rfl (Or.inr ⟨by rfl, rfl⟩) hS ?_
   simp only [sa, sb, sc, Act.put, sd, se, sf]
   refine wpAnyH_all (rs := [11]) (by kernel_rfl) (by simp) (fun i2 hi2 => ?_)
   obtain rfl : i2 = 11 := by simpa using hi2
   clear hi2
   refine wpOp_step rfl (fun K hK => ite_no rfl ?_)
   simp only [sa, sb, sc]
   refine hK _ _ ⟨HK.out _ hb5, ?_⟩
   clear hK K
   refine wpAnyH_all (rs := [13]) (by kernel_rfl) (by simp) (fun i2 hi2 => ?_)
   obtain rfl : i2 = 13 := by simpa using hi2
   clear hi2
   refine wpOp_step rfl (fun K hK => ite_no rfl ?_)
   simp only [sa, sb, sc]
   refine hK _ _ ⟨HK.out _ hb5, ?_⟩
   clear hK K
   refine wpAnyH_all (rs := [14]) (by kernel_rfl) (by simp) (fun i2 hi2 => ?_)
   obtain rfl : i2 = 14 := by simpa using hi2
   clear hi2
   refine wpOp_step rfl (fun K hK => ite_no rfl ?_)
   simp only [sa, sb, sc]
   refine hK _ _ ⟨HK.out _ hb5, ?_⟩
   clear hK K
   refine tk 15 undef rfl (Or.inr ⟨by rfl, rfl⟩) hS ?_
   simp only [sa, sb, sc, Act.put, sd, se, sf]
   refine tq 16 (.bool true) rfl hS ?_
   simp only [sa, sb, sc, Act.put, sd, se, sf]
   refine dn ?_
   try simp only [Act.put]
   go_wp2_with fail
   go_ret
   exact RightP.no (hB1.trans (hb5.mono (by omega))) (HR1.out.kept hb5) (.inl (by rw [HF.out, ← HBT.out]; rfl))
  | true =>
   obtain ⟨hk0, hk9⟩ := tyB_range HBT.out.symm
   obtain ⟨a', f', s', r0', r1', r2', r3', pp', m', c', ip', il', ic', hown, hhd⟩ := own_ex k hk0 hk9 t a f s r0 r1 r2 r3 pp path.length pc ip items.length ic
   have HO : Hid (∀ W, Calls Tryz.prog 95 #[.agg #[.int .i64 k, .string t, .int .i64 a, .int .u64 f, .string s, .int .i64 r0, .int .i64 r1, .int .i64 r2, .int .i64 r3, .slice pp path.length pc, .slice ip items.length ic]] W fun r w' => r = .returned (.agg #[.int .i64 k, .string t, .int .i64 a', .int .u64 f', .string s', .int .i64 r0', .int .i64 r1', .int .i64 r2', .int .i64 r3', .slice pp' m' c', .slice ip' il' ic']) ∧ Below W.heap.size W w') := hown
   have HH2 : Hid (∀ W, Calls Tryz.prog 94 #[.agg #[.int .i64 k, .string t, .int .i64 a', .int .u64 f', .string s', .int .i64 r0', .int .i64 r1', .int .i64 r2', .int .i64 r3', .slice pp' m' c', .slice ip' il' ic']] W fun r w' => r = .returned (.agg #[.int .i64 k, .string t, .int .i64 a', .int .u64 f', .string s', .int .i64 r0', .int .i64 r1', .int .i64 r2', .int .i64 r3', .int .i64 m', .int .i64 il']) ∧ Below W.heap.size W w') := fun W => headOf_any _ _ _ _ _ _ _ _ _ _ _ _ _ _ _ W
   obtain ⟨zk, hzk⟩ : ∃ zk, zk = zeroK k a f s r0 r1 r2 r3 path.length items.length := ⟨_, rfl⟩
   have HQ : ∀ W, (binOp .neq 178 (.agg #[.int .i64 k, .string t, .int .i64 a, .int .u64 f, .string s, .int .i64 r0, .int .i64 r1, .int .i64 r2, .int .i64 r3, .int .i64 path.length, .int .i64 items.length]) (.agg #[.int .i64 k, .string t, .int .i64 a', .int .u64 f', .string s', .int .i64 r0', .int .i64 r1', .int .i64 r2', .int .i64 r3', .int .i64 m', .int .i64 il'])).run Tryz.prog W = .ok (.bool (!zk)) W := fun W => by
    rw [hzk, ← hhd]; exact head_neq _ _ _ _ _ _ _ _ _ _ _ _ _ _ _ _ _ _ _ _ W
   have HZK : Hid (zk = zeroK k a f s r0 r1 r2 r3 path.length items.length) := hzk
   clear hown hhd hzk hk0 hk9
   go_enter Tryz.func67, Tryz.ntmps67
   go_wp2_with fail
   rw [← hW1]
   clear hW1
   refine wp_region_noPanic ?_
   refine wp_region_held (S := fun W => (∀ j, W.cell? ⟨w.heap.size, j, none⟩ = (#[.int .i64 k, .string t, .int .i64 a, .int .u64 f, .string s, .int .i64 r0, .int .i64 r1, .int .i64 r2, .int .i64 r3, .slice pp path.length pc, .slice ip items.length ic] : Array Value)[j]?) ∧ W.cell? ⟨b, 0, none⟩ = some (.int .i64 (rm - 1))) (by kernel_rfl) ?_
   obtain ⟨W4, hW4⟩ : ∃ W4, W4 = W1.drew := ⟨_, rfl⟩
   have e4 : ({ W1 with drawn := W1.drawn + 1 } : World) = W4 := hW4.symm
   rw [e4]
   have hB4 : Below W1.heap.size W1 W4 := by rw [hW4]; exact (Below.refl _ _).drew
   have hS := HK.out W4 hB4
   clear e4 hW4
   refine tq 0 (.pointer (some ⟨b, 0, none⟩)) rfl hS ?_
   simp only [sa, sb, Act.put, sd, se, sf]
   refine tq 1 (.pointer (some ⟨b, 0, none⟩)) rfl hS ?_
   simp only [sa, sb, sc, Act.put, sd, se, sf]
   refine tk 2 (.int .i64 (rm - 1)) rfl (.inl ⟨by rfl, ?r⟩) hS ?_
   case r => intro W hW; simp [go_sem, execOp, Act.eval, hW.2]
   simp only [sa, sb, sc, Act.put, sd, se, sf]
   refine tk 3 (.bool false) rfl (.inl ⟨by rfl, ?r⟩) hS ?_
   case r => intro W hW; simp [go_sem, execOp, Act.eval, hr1]
   simp only [sa, sb, sc, Act.put, sd, se, sf]
   refine tq 4 (.bool false) rfl hS ?_
   simp only [sa, sb, sc, Act.put, sd, se, sf]
   refine tk 5 (.agg #[.int .i64 k, .string t, .int .i64 a, .int .u64 f, .string s, .int .i64 r0, .int .i64 r1, .int .i64 r2, .int .i64 r3, .slice pp path.length pc, .slice ip items.length ic]) rfl (.inl ⟨by rfl, ?r⟩) hS ?_
   case r => intro W hW; simp [go_sem, execOp, Act.eval, hW.1]
   simp only [sa, sb, sc, Act.put, sd, se, sf]
   refine one 6 rfl (fun K hK => ?_)
   simp only [sa, sb, sc]
   go_simp
   refine (HT.out _ hB4).mono ?_
   rintro e w5 ⟨rfl, b5⟩
   have hb5 : Below W1.heap.size W1 w5 := hB4.trans (b5.mono hB4.size)
   go_simp
   refine hK _ _ ⟨HK.out _ hb5, ?_⟩
   clear hK K hS
   have hS := HK.out _ hb5
   refine tq 7 (.bool false) rfl hS ?_
   simp only [sa, sb, sc, Act.put, sd, se, sf]
   refine tq 8 (.bool false) rfl hS ?_
   simp only [sa, sb, sc, Act.put, sd, se, sf]
   refine tq 9 (.bool false) rfl hS ?_
   simp only [sa, sb, sc, Act.put, sd, se, sf]
   refine tk 10 (.agg #[.int .i64 k, .string t, .int .i64 a, .int .u64 f, .string s, .int .i64 r0, .int .i64 r1, .int .i64 r2, .int .i64 r3, .slice pp path.length pc, .slice ip items.length ic]) rfl (.inl ⟨by rfl, ?r⟩) hS ?_
   case r => intro W hW; simp [go_sem, execOp, Act.eval, hW.1]
   simp only [sa, sb, sc, Act.put, sd, se, sf]
   refine tk 12 (.agg #[.int .i64 k, .string t, .int .i64 a, .int .u64 f, .string s, .int .i64 r0, .int .i64 r1, .int .i64 r2, .int .i64 r3, .slice pp path.length pc, .slice ip items.length ic]) rfl (.inl ⟨by rfl, ?r⟩) hS ?_
   case r => intro W hW; simp [go_sem, execOp, Act.eval, hW.1]
   simp only [sa, sb, sc, Act.put, sd, se, sf]
   refine one 11 rfl (fun K hK => ?_)
   simp only [sa, sb, sc]
   go_simp
   refine (HH.out _).mono ?_
   rintro e w6 ⟨rfl, b6⟩
   have hb6 : Below W1.heap.size W1 w6 := hb5.trans (b6.mono hb5.size)
   go_simp
   refine hK _ _ ⟨HK.out _ hb6, ?_⟩
   clear hK K
   refine one 13 rfl (fun K hK => ?_)
   simp only [sa, sb, sc]
   go_simp
   refine (HO.out _).mono ?_
   rintro e w7 ⟨rfl, b7⟩
   have hb7 : Below W1.heap.size W1 w7 := hb6.trans (b7.mono hb6.size)
   go_simp
   refine hK _ _ ⟨HK.out _ hb7, ?_⟩
   clear hK K
   refine one 14 rfl (fun K hK => ?_)
   simp only [sa, sb, sc]
   go_simp
   refine (HH2.out _).mono ?_
   rintro e w8 ⟨rfl, b8⟩
   have hb8 : Below W1.heap.size W1 w8 := hb7.trans (b8.mono hb7.size)
   go_simp
   refine hK _ _ ⟨HK.out _ hb8, ?_⟩
   clear hK K
   clear hS
   have hS := HK.out _ hb8
   refine tk 15 (.bool (!zk)) rfl (.inl ⟨by rfl, ?r⟩) hS ?_
   case r => intro W hW; simp [go_sem, execOp, Act.eval, HQ]
   simp only [sa, sb, sc, Act.put, sd, se, sf]
   refine tq 16 (.bool (!zk)) rfl hS ?_
   simp only [sa, sb, sc, Act.put, sd, se, sf]
   refine dn ?_
   try simp only [Act.put]
   have hF : Below b w w8 := hB1.trans (hb8.mono (by omega))
   have HFW : Hid (Below b w w8 ∧ RoomAt w8 b (rm - 1)) := ⟨hF, HR1.out.kept hb8⟩
   have hz8 : w.heap.size < w8.heap.size := by have := hb8.size; omega
   have d8 := hS.1
   clear hF b5 b6 b7 b8 hb5 hb6 hb7 hb8 hB4 hB1 hS HQ HK HH HH2 HO HT
   cases zk with
   | false =>
    go_wp2_with fail
    go_ret
    exact RightP.no HFW.out.1 HFW.out.2 (.inl (by rw [HF.out, ← HZK.out, Bool.and_false]; rfl))
   | true =>
    have HF2 : Hid (fu = (kindB ⟨k, t, a, f, s, r0, r1, r2, r3, pp, path, pc⟩ && (k != 8 || (decide (items.length ≤ 30) && items.all (MD.full n))))) := by
     show _ = _
     rw [HF.out, ← HZK.out, ← HBT.out]; rfl
    have HRK : Hid (0 ≤ k ∧ k ≤ 9) := tyB_range HBT.out.symm
    clear HF HZK HBT
    rcases kinds k with rfl | rfl | rfl | rfl | rfl | rfl | rfl | rfl | rfl | rfl | hko
    ·go_wp2_with fail
     go_ret
     exact RightP.leaf (x := true) HFW.out.1 HFW.out.2 (by rw [HF2.out]; rfl) (by rw [HZ.out]; rfl) hr1
    ·have HX : Hid (fu = (a == 0 || a == 1)) := by show _ = _; rw [HF2.out]; simp [kindB]
     go_wp2_with fail
     all_goals (go_ret; refine RightP.leaf HFW.out.1 HFW.out.2 ?_ (by rw [HZ.out]; rfl) hr1; first | (rw [HX.out]; done) | (rw [HX.out]; simp_all))
    ·go_wp2_with fail
     go_ret
     exact RightP.leaf (x := true) HFW.out.1 HFW.out.2 (by rw [HF2.out]; rfl) (by rw [HZ.out]; rfl) hr1
    ·have HX : Hid (fu = (f == 9221120237041090561 || !isNan f.toNat)) := by show _ = _; rw [HF2.out]; simp [kindB]
     have HM : Hid (∀ W, Calls Tryz.prog 96 #[.float .f64 f.toNat] W fun r w' => r = .returned (.bool (isNan f.toNat)) ∧ w' = W) := fun W => mathIsNaN_any _ W
     generalize isNan f.toNat = nn at HX HM
     go_wp2_with (go_at_call 96; refine (HM.out _).mono ?_; rintro r w' ⟨rfl, rfl⟩)
     all_goals (go_ret; refine RightP.leaf HFW.out.1 HFW.out.2 ?_ (by rw [HZ.out]; rfl) hr1; first | (rw [HX.out]; done) | (rw [HX.out]; simp_all))
    ·have HX : Hid (fu = decide ((s.size : Int) ≤ 65536)) := by show _ = _; rw [HF2.out]; simp [kindB]; omega
     go_wp2_with fail
     go_ret
     exact RightP.leaf HFW.out.1 HFW.out.2 HX.out (by rw [HZ.out]; rfl) hr1
    ·have HX : Hid (fu = pieceB r0 r1 r2 r3) := by show _ = _; rw [HF2.out]; simp [kindB]
     have HM : Hid (∀ W, Calls Tryz.prog 98 #[.agg #[.int .i64 r0, .int .i64 r1, .int .i64 r2, .int .i64 r3, .slice pp path.length pc]] W fun r w' => r = .returned (.bool (pieceB r0 r1 r2 r3)) ∧ Below W.heap.size W w') := fun W => rightPiece_any r0 r1 r2 r3 pp path.length pc W HFn.out.c0 HFn.out.c1
     generalize pieceB r0 r1 r2 r3 = nn at HX HM
     go_wp2_with (go_at_call 98; refine (HM.out _).mono ?_; rintro r w9 ⟨rfl, b9⟩)
     go_ret
     exact RightP.leaf (HFW.out.1.trans (b9.mono (Nat.le_of_lt HFW.out.2.lt))) (HFW.out.2.kept b9) HX.out (by rw [HZ.out]; rfl) hr1
    ·have HX : Hid (fu = objB r0) := by show _ = _; rw [HF2.out]; simp [kindB]
     have HM : Hid (∀ W, Calls Tryz.prog 99 #[.int .i64 r0] W fun r w' => r = .returned (.bool (objB r0)) ∧ w' = W) := fun W => rightObject_any r0 W
     generalize objB r0 = nn at HX HM
     go_wp2_with (go_at_call 99; refine (HM.out _).mono ?_; rintro r w' ⟨rfl, rfl⟩)
     go_ret
     exact RightP.leaf HFW.out.1 HFW.out.2 HX.out (by rw [HZ.out]; rfl) hr1
    ·have HX : Hid (fu = objB r0) := by show _ = _; rw [HF2.out]; simp [kindB]
     have HM : Hid (∀ W, Calls Tryz.prog 99 #[.int .i64 r0] W fun r w' => r = .returned (.bool (objB r0)) ∧ w' = W) := fun W => rightObject_any r0 W
     generalize objB r0 = nn at HX HM
     go_wp2_with (go_at_call 99; refine (HM.out _).mono ?_; rintro r w' ⟨rfl, rfl⟩)
     go_ret
     exact RightP.leaf HFW.out.1 HFW.out.2 HX.out (by rw [HZ.out]; rfl) hr1
    ·have HX : Hid (fu = (decide (items.length ≤ 30) && items.all (MD.full n))) := by show _ = _; rw [HF2.out]; simp [kindB]
     have HY : Hid (z = 1 + (items.map (MD.size n)).sum) := by show _ = _; rw [HZ.out, if_pos rfl]
     have HM : Hid (Calls Tryz.prog 100 #[.slice ip items.length ic, .pointer (some ⟨b, 0, none⟩)] w8 (RightP fu (items.map (MD.size n)).sum b (rm - 1) w8)) := by
      rw [HX.out]; exact HI.out w8 HFW.out.1 HFW.out.2 hr1
     go_wp2_with (go_at_call 100; refine HM.out.mono ?_; rintro r w9 ⟨x, q, rfl, hq⟩; have HQ : Hid (Below b w8 w9 ∧ RoomAt w9 b q ∧ x = (fu && decide (((items.map (MD.size n)).sum : Int) ≤ rm - 1)) ∧ (x = true → q = rm - 1 - (items.map (MD.size n)).sum)) := hq; clear hq)
     go_ret
     obtain ⟨q1, q2, q3, q4⟩ := HQ.out
     refine ⟨x, q, rfl, HFW.out.1.trans q1, q2, ?_, fun h => ?_⟩
     ·rw [q3, HY.out]; congr 1; apply decide_eq_decide.2; omega
     ·rw [q4 h, HY.out]; omega
    ·have HX : Hid (fu = targetB r0 path) := by show _ = _; rw [HF2.out]; simp [kindB]
     have HM : Hid (Calls Tryz.prog 101 #[.agg #[.int .i64 r0, .int .i64 r1, .int .i64 r2, .int .i64 r3, .slice pp path.length pc]] w8 fun r w' => r = .returned (.bool (targetB r0 path)) ∧ Below w8.heap.size w8 w') := HP.out w8 HFW.out.1
     generalize targetB r0 path = nn at HX HM
     go_wp2_with (go_at_call 101; refine HM.out.mono ?_; rintro r w9 ⟨rfl, b9⟩)
     go_ret
     exact RightP.leaf (HFW.out.1.trans (b9.mono (Nat.le_of_lt HFW.out.2.lt))) (HFW.out.2.kept b9) HX.out (by rw [HZ.out]; rfl) hr1
    ·have := HRK.out; omega
theorem right_any : ∀ n, RightC n
 | 0 => fun _ _ _ _ _ _ _ _ _ h => h.elim
 | n + 1 => right_step n (rightItems_step n (right_any n))
end Go.Proofs.YtdbijkgnddcneaaGreatDoor
