/-
  The small walks beneath right: types' names, what a kind has, refs, NaNs.
  What a kind has of its own; a pointer's ref; when two heads are the same.
  Which types and fields a kind may have; the walks of rightType, ownOf and rightTarget at any of them.
-/
import Derived.Test.YtnhbpcmiolkllabDoorE
import Derived.Test.YtnhbpcmiolkllabDoorG
import Derived.Test.YtnhbpcmiolkllabDoorPh2J
import Derived.Test.YtnhbpcmiolkllabDoorFl
import Derived.Laws.Cover2
namespace Go.Proofs.YtnhbpcmiolkllabDoor
open Go.RowKit
attribute [local go_sem] refold2 cell3_0 cell3_1 b28_0 b28_01

theorem x56 (n : Int) (W : World) : (callFunc 37 #[.int .u64 n]).run Tryd.prog W = .ok (.value (.float .f64 n.toNat)) W :=
  (@run_callFunc_extern Tryd.prog 37 _ Extern.MathFloatBits.float64frombits Tryd.func37 (by kernel_rfl) (by kernel_rfl) (by kernel_rfl) (by kernel_rfl) _ W).trans rfl
attribute [local go_sem] x56

/-- The float of some bits is no number. -/
theorem mathIsNaN_any (x : Nat) (w : World) : Calls Tryd.prog 36 #[.float .f64 x] w fun r w' => r = .returned (.bool (isNan x)) ∧ w' = w := by
  have h : (FloatKind.f64.format.order x x != some .eq) = isNan x := by
    have h1 := order_none x x
    have h2 := order_swap x x
    show (Ieee.double.order x x != some .eq) = _
    cases ho : Ieee.double.order x x with
    | none => have := h1.1 ho; simp at this; rw [this]; rfl
    | some o =>
      rw [ho] at h1 h2
      have : isNan x = false := by cases hx : isNan x with
        | false => rfl
        | true => have := h1.2 (.inl hx); cases this
      rw [this]
      cases o <;> simp [Ordering.swap] at h2 ⊢
  go_enter Tryd.func36, Tryd.ntmps36
  go_wp2
  go_ret
  exact ⟨rfl, rfl⟩

/-- May an object's number be so? -/
def objB (n : Int) : Bool := decide (0 ≤ n) && decide (n ≤ 2147483647)
set_option maxHeartbeats 1000000 in
theorem rightObject_any (n : Int) (w : World) : Calls Tryd.prog 39 #[.int .i64 n] w fun r w' => r = .returned (.bool (objB n)) ∧ w' = w := by
  unfold objB
  go_enter Tryd.func39, Tryd.ntmps39
  go_wp2
  all_goals (go_ret; refine ⟨?_, rfl⟩; simp_all)
  all_goals omega

/-- May a list's ref be so? -/
def pieceB (r0 r1 r2 r3 : Int) : Bool := if r0 = 0 then r1 == 0 && r2 == 0 && r3 == 0 else objB r0 && decide (0 ≤ r1) && decide (0 ≤ r2) && decide (r2 ≤ r3) && decide (r3 ≤ 1048576) && decide (r1 ≤ 1048576 - r3)
set_option maxHeartbeats 4000000 in
theorem rightPiece_any (r0 r1 r2 r3 : Int) (p : Option Addr) (m c : Nat) (w : World) (h0 : -9223372036854775808 ≤ r3) (h1 : r3 ≤ 9223372036854775807) :
    Calls Tryd.prog 38 #[.agg #[.int .i64 r0, .int .i64 r1, .int .i64 r2, .int .i64 r3, .slice p m c]] w fun r w' => r = .returned (.bool (pieceB r0 r1 r2 r3)) ∧ Below w.heap.size w w' := by
  by_cases hr : r0 = 0
  · unfold pieceB
    rw [if_pos hr]
    subst hr
    go_enter Tryd.func38, Tryd.ntmps38
    go_wp2
    all_goals (go_ret; refine ⟨?_, below1 _ _⟩; simp_all)
  · have e : pieceB r0 r1 r2 r3 = (objB r0 && decide (0 ≤ r1) && decide (0 ≤ r2) && decide (r2 ≤ r3) && decide (r3 ≤ 1048576) && decide (r1 ≤ 1048576 - r3)) := by unfold pieceB; rw [if_neg hr]
    rw [e]
    clear e
    obtain ⟨x, hx⟩ : ∃ x, x = objB r0 := ⟨_, rfl⟩
    have HO : Hid (∀ W, Calls Tryd.prog 39 #[.int .i64 r0] W fun r w' => r = .returned (.bool x) ∧ w' = W) := fun W => by rw [hx]; exact rightObject_any r0 W
    rw [← hx]
    clear hx
    cases x with
    | false =>
      go_enter Tryd.func38, Tryd.ntmps38
      go_wp2_with (go_at_call 39; refine (HO.out _).mono ?_; rintro r w' ⟨rfl, rfl⟩)
      all_goals (go_ret; refine ⟨?_, below1 _ _⟩; simp)
    | true =>
      go_enter Tryd.func38, Tryd.ntmps38
      go_wp2_with (go_at_call 39; refine (HO.out _).mono ?_; rintro r w' ⟨rfl, rfl⟩)
      all_goals (go_ret; refine ⟨?_, below1 _ _⟩; simp_all)
      all_goals omega

/-- May a pointer's ref be so? -/
def targetB (r0 : Int) (path : List Int) : Bool := objB r0 && decide (path.length ≤ 100) && !(r0 == 0 && decide (0 < path.length)) && path.all (fun z => decide (0 ≤ z) && decide (z < 30))
end Go.Proofs.YtnhbpcmiolkllabDoor
namespace Go.Proofs.YtnhbpcmiolkllabDoor
open Go.RowKit
attribute [local go_sem] refold2 cell3_0 cell3_1 b28_0 b28_01

set_option maxHeartbeats 1000000 in
theorem ownOf_bool (t : ByteArray) (a f : Int) (s : ByteArray) (r0 r1 r2 r3 : Int) (p : Value) (ip : Option Addr) (il ic : Nat) (w : World) :
    Calls Tryd.prog 35 #[D 1 t a f s r0 r1 r2 r3 p (.slice ip il ic)] w fun r w' => r = .returned (dat 1 t a 0 ⟨#[]⟩) ∧ Below w.heap.size w w' := by
  simp only [dat, D]
  go_enter Tryd.func35, Tryd.ntmps35
  go_wp2
  refine bodyPost_ret (v := dat 1 t a 0 ⟨#[]⟩) (by simp [results, Tryd.results35, go_sem, dat, D]) rfl ⟨rfl, ?_⟩
  exact below3 _ _ _ _

set_option maxHeartbeats 1000000 in
theorem ownOf_float (t : ByteArray) (a f : Int) (s : ByteArray) (r0 r1 r2 r3 : Int) (p : Value) (ip : Option Addr) (il ic : Nat) (w : World) :
    Calls Tryd.prog 35 #[D 3 t a f s r0 r1 r2 r3 p (.slice ip il ic)] w fun r w' => r = .returned (dat 3 t 0 f ⟨#[]⟩) ∧ Below w.heap.size w w' := by
  simp only [dat, D]
  go_enter Tryd.func35, Tryd.ntmps35
  go_wp2
  refine bodyPost_ret (v := dat 3 t 0 f ⟨#[]⟩) (by simp [results, Tryd.results35, go_sem, dat, D]) rfl ⟨rfl, ?_⟩
  exact below3 _ _ _ _

set_option maxHeartbeats 1000000 in
theorem ownOf_text (t : ByteArray) (a f : Int) (s : ByteArray) (r0 r1 r2 r3 : Int) (p : Value) (ip : Option Addr) (il ic : Nat) (w : World) :
    Calls Tryd.prog 35 #[D 4 t a f s r0 r1 r2 r3 p (.slice ip il ic)] w fun r w' => r = .returned (dat 4 t 0 0 s) ∧ Below w.heap.size w w' := by
  simp only [dat, D]
  go_enter Tryd.func35, Tryd.ntmps35
  go_wp2
  refine bodyPost_ret (v := dat 4 t 0 0 s) (by simp [results, Tryd.results35, go_sem, dat, D]) rfl ⟨rfl, ?_⟩
  exact below3 _ _ _ _

set_option maxHeartbeats 1000000 in
theorem ownOf_struct (t : ByteArray) (a f : Int) (s : ByteArray) (r0 r1 r2 r3 : Int) (p : Value) (ip : Option Addr) (il ic : Nat) (w : World) :
    Calls Tryd.prog 35 #[D 8 t a f s r0 r1 r2 r3 p (.slice ip il ic)] w fun r w' => r = .returned (D 8 t 0 0 ⟨#[]⟩ 0 0 0 0 (.slice none 0 0) (.slice ip il ic)) ∧ Below w.heap.size w w' := by
  simp only [D]
  go_enter Tryd.func35, Tryd.ntmps35
  go_wp2
  refine bodyPost_ret (v := D 8 t 0 0 ⟨#[]⟩ 0 0 0 0 (.slice none 0 0) (.slice ip il ic)) (by simp [results, Tryd.results35, go_sem, D]) rfl ⟨rfl, ?_⟩
  exact below3 _ _ _ _

/-- Two heads, field by field. -/
def headB (n f : Int) (s : ByteArray) (r0 r1 r2 r3 : Int) (m i : Nat) (n' f' : Int) (s' : ByteArray) (r0' r1' r2' r3' : Int) (m' i' : Nat) : Bool :=
  n == n' && f == f' && s.toList == s'.toList && r0 == r0' && r1 == r1' && r2 == r2' && r3 == r3' && (m : Int) == m' && (i : Int) == i'

set_option maxRecDepth 100000 in
set_option maxHeartbeats 2000000 in
theorem head_neq (k : Int) (t : ByteArray) (n f : Int) (s : ByteArray) (r0 r1 r2 r3 : Int) (m i : Nat) (n' f' : Int) (s' : ByteArray) (r0' r1' r2' r3' : Int) (m' i' : Nat) (w : World) :
    (binOp .neq 79 (.agg #[.int .i64 k, .string t, .int .i64 n, .int .u64 f, .string s, .int .i64 r0, .int .i64 r1, .int .i64 r2, .int .i64 r3, .int .i64 m, .int .i64 i]) (.agg #[.int .i64 k, .string t, .int .i64 n', .int .u64 f', .string s', .int .i64 r0', .int .i64 r1', .int .i64 r2', .int .i64 r3', .int .i64 m', .int .i64 i'])).run Tryd.prog w
      = .ok (.bool (!headB n f s r0 r1 r2 r3 m i n' f' s' r0' r1' r2' r3' m' i')) w := by
  unfold headB
  by_cases h1 : n = n'
  · by_cases h2 : f = f'
    · by_cases h3 : s.toList = s'.toList
      · by_cases h4 : r0 = r0'
        · by_cases h5 : r1 = r1'
          · by_cases h6 : r2 = r2'
            · by_cases h7 : r3 = r3'
              · by_cases h8 : (m : Int) = m'
                · by_cases h9 : (i : Int) = i'
                  · simp [go_sem, h1, h2, h3, h4, h5, h6, h7, h8, h9]
                  · simp [go_sem, h1, h2, h3, h4, h5, h6, h7, h8, h9]
                · simp [go_sem, h1, h2, h3, h4, h5, h6, h7, h8]
              · simp [go_sem, h1, h2, h3, h4, h5, h6, h7]
            · simp [go_sem, h1, h2, h3, h4, h5, h6]
          · simp [go_sem, h1, h2, h3, h4, h5]
        · simp [go_sem, h1, h2, h3, h4]
      · simp [go_sem, h1, h2, h3]
    · simp [go_sem, h1, h2]
  · simp [go_sem, h1]
end Go.Proofs.YtnhbpcmiolkllabDoor
namespace Go.Proofs.YtnhbpcmiolkllabDoor
open Go.RowKit
attribute [local go_sem] refold2 cell3_0 cell3_1 b28_0 b28_01

/-- May a kind have this type? -/
def tyB (k : Int) (t : ByteArray) : Bool := if k = 0 then t.toList == [] else if k = 1 then (t.toList == [98, 111, 111, 108] || declB t) else if k = 2 then (t.toList == [105, 110, 116] || declB t) else if k = 3 then (t.toList == [102, 108, 111, 97, 116] || declB t) else if k = 4 then (t.toList == [116, 101, 120, 116] || declB t) else if k = 5 then (t.toList == [108, 105, 115, 116] || declB t) else if k = 6 then (t.toList == [109, 97, 112] || declB t) else if k = 7 then (t.toList == [102, 117, 110, 99] || declB t) else if k = 8 then declB t else if k = 9 then declB t else false

/-- Is all zero that the kind has not? -/
def zeroK (k : Int) (n f : Int) (s : ByteArray) (r0 r1 r2 r3 : Int) (m i : Nat) : Bool :=
  (k == 1 || k == 2 || n == 0) && (k == 3 || f == 0) && (k == 4 || s.toList == []) && (k == 5 || k == 6 || k == 7 || k == 9 || r0 == 0) && (k == 5 || r1 == 0) && (k == 5 || r2 == 0) && (k == 5 || r3 == 0) && (k == 9 || (m : Int) == 0) && (k == 8 || (i : Int) == 0)

theorem kinds (k : Int) : k = 0 ∨ k = 1 ∨ k = 2 ∨ k = 3 ∨ k = 4 ∨ k = 5 ∨ k = 6 ∨ k = 7 ∨ k = 8 ∨ k = 9 ∨ k < 0 ∨ 9 < k := by omega

set_option maxRecDepth 100000 in
set_option maxHeartbeats 1000000 in
theorem rightType_0 (t : ByteArray) (a f : Int) (s : ByteArray) (r0 r1 r2 r3 : Int) (p i : Value) (w : World) :
    Calls Tryd.prog 34 #[D 0 t a f s r0 r1 r2 r3 p i] w fun r w' => r = .returned (.bool (t.toList == [])) ∧ Below w.heap.size w w' := by
  simp only [D]
  go_enter Tryd.func34, Tryd.ntmps34
  go_wp2
  all_goals (go_ret; refine ⟨by simp_all, below1 _ _⟩)
set_option maxRecDepth 100000 in
set_option maxHeartbeats 1000000 in
theorem rightType_out (k : Int) (hk : k < 0 ∨ 9 < k) (t : ByteArray) (a f : Int) (s : ByteArray) (r0 r1 r2 r3 : Int) (p i : Value) (w : World) :
    Calls Tryd.prog 34 #[D k t a f s r0 r1 r2 r3 p i] w fun r w' => r = .returned (.bool false) ∧ Below w.heap.size w w' := by
  simp only [D]
  have h0 : ¬ k = 0 := by omega
  rcases hk with hk | hk
  · have h1 : k < 1 := by omega
    go_enter Tryd.func34, Tryd.ntmps34
    go_wp2
    go_ret
    exact ⟨rfl, below1 _ _⟩
  · have h1 : ¬ k < 1 := by omega
    go_enter Tryd.func34, Tryd.ntmps34
    go_wp2
    go_ret
    exact ⟨rfl, below1 _ _⟩

theorem rightType_any (k : Int) (t : ByteArray) (a f : Int) (s : ByteArray) (r0 r1 r2 r3 : Int) (p i : Value) (w : World) (hN : NamesAt w) :
    Calls Tryd.prog 34 #[D k t a f s r0 r1 r2 r3 p i] w fun r w' => r = .returned (.bool (tyB k t)) ∧ Below w.heap.size w w' := by
  rcases kinds k with rfl | rfl | rfl | rfl | rfl | rfl | rfl | rfl | rfl | rfl | h
  · exact rightType_0 t a f s r0 r1 r2 r3 p i w
  · exact rightType_1 t a f s r0 r1 r2 r3 p i w hN
  · exact rightType_2 t a f s r0 r1 r2 r3 p i w hN
  · exact rightType_3 t a f s r0 r1 r2 r3 p i w hN
  · exact rightType_4 t a f s r0 r1 r2 r3 p i w hN
  · exact rightType_5 t a f s r0 r1 r2 r3 p i w hN
  · exact rightType_6 t a f s r0 r1 r2 r3 p i w hN
  · exact rightType_7 t a f s r0 r1 r2 r3 p i w hN
  · exact rightType_8 t a f s r0 r1 r2 r3 p i w hN
  · exact rightType_9 t a f s r0 r1 r2 r3 p i w hN
  · have e : tyB k t = false := by
      unfold tyB
      rw [if_neg (by omega), if_neg (by omega), if_neg (by omega), if_neg (by omega), if_neg (by omega), if_neg (by omega), if_neg (by omega), if_neg (by omega), if_neg (by omega), if_neg (by omega)]
    rw [e]
    exact rightType_out k h t a f s r0 r1 r2 r3 p i w

/-- What is a kind's own of a datum, and when its head is the whole one's. -/
theorem own_ex (k : Int) (h0 : 0 ≤ k) (h9 : k ≤ 9) (t : ByteArray) (n f : Int) (s : ByteArray) (r0 r1 r2 r3 : Int) (pp : Option Addr) (m c : Nat) (ip : Option Addr) (il ic : Nat) :
    ∃ (n' f' : Int) (s' : ByteArray) (r0' r1' r2' r3' : Int) (pp' : Option Addr) (m' c' : Nat) (ip' : Option Addr) (il' ic' : Nat),
      (∀ W, Calls Tryd.prog 35 #[D k t n f s r0 r1 r2 r3 (.slice pp m c) (.slice ip il ic)] W fun r w' => r = .returned (D k t n' f' s' r0' r1' r2' r3' (.slice pp' m' c') (.slice ip' il' ic')) ∧ Below W.heap.size W w') ∧
      headB n f s r0 r1 r2 r3 m il n' f' s' r0' r1' r2' r3' m' il' = zeroK k n f s r0 r1 r2 r3 m il := by
  rcases kinds k with rfl | rfl | rfl | rfl | rfl | rfl | rfl | rfl | rfl | rfl | h
  · exact ⟨0, 0, ⟨#[]⟩, 0, 0, 0, 0, none, 0, 0, none, 0, 0, fun W => ownOf_nil _ _ _ _ _ _ _ _ _ _ W, by simp [headB, zeroK]⟩
  · exact ⟨n, 0, ⟨#[]⟩, 0, 0, 0, 0, none, 0, 0, none, 0, 0, fun W => ownOf_bool _ _ _ _ _ _ _ _ _ _ _ _ W, by simp [headB, zeroK]⟩
  · exact ⟨n, 0, ⟨#[]⟩, 0, 0, 0, 0, none, 0, 0, none, 0, 0, fun W => ownOf_int _ _ _ _ _ _ _ _ _ _ W, by simp [headB, zeroK]⟩
  · exact ⟨0, f, ⟨#[]⟩, 0, 0, 0, 0, none, 0, 0, none, 0, 0, fun W => ownOf_float _ _ _ _ _ _ _ _ _ _ _ _ W, by simp [headB, zeroK]⟩
  · exact ⟨0, 0, s, 0, 0, 0, 0, none, 0, 0, none, 0, 0, fun W => ownOf_text _ _ _ _ _ _ _ _ _ _ _ _ W, by simp [headB, zeroK]⟩
  · exact ⟨0, 0, ⟨#[]⟩, r0, r1, r2, r3, none, 0, 0, none, 0, 0, fun W => ownOf_list _ _ _ _ _ _ _ _ _ _ _ _ W, by simp [headB, zeroK]⟩
  · exact ⟨0, 0, ⟨#[]⟩, r0, 0, 0, 0, none, 0, 0, none, 0, 0, fun W => ownOf_map _ _ _ _ _ _ _ _ _ _ W, by simp [headB, zeroK]⟩
  · exact ⟨0, 0, ⟨#[]⟩, r0, 0, 0, 0, none, 0, 0, none, 0, 0, fun W => ownOf_func _ _ _ _ _ _ _ _ _ _ W, by simp [headB, zeroK]⟩
  · exact ⟨0, 0, ⟨#[]⟩, 0, 0, 0, 0, none, 0, 0, ip, il, ic, fun W => ownOf_struct _ _ _ _ _ _ _ _ _ _ _ _ W, by simp [headB, zeroK]⟩
  · exact ⟨0, 0, ⟨#[]⟩, r0, 0, 0, 0, pp, m, c, none, 0, 0, fun W => ownOf_ptr _ _ _ _ _ _ _ _ _ _ _ _ W, by simp [headB, zeroK]⟩
  · omega

/-- May a number stand on a path? -/
def stepB (z : Int) : Bool := decide (0 ≤ z) && decide (z < 30)
theorem targetB_eq (r0 : Int) (path : List Int) : targetB r0 path = (objB r0 && decide (path.length ≤ 100) && !(r0 == 0 && decide (0 < path.length)) && path.all stepB) := rfl

set_option maxHeartbeats 4000000 in
theorem rightTarget_any (h : Hd) (w : World) (hP : MD.PathIn w.heap.size w h) (hl : h.path.length ≤ maxLen) :
    Calls Tryd.prog 41 #[.agg #[.int .i64 h.r0, .int .i64 h.r1, .int .i64 h.r2, .int .i64 h.r3, .slice h.pp h.path.length h.pc]] w fun r w' => r = .returned (.bool (targetB h.r0 h.path)) ∧ Below w.heap.size w w' := by
  rw [targetB_eq]
  obtain ⟨k, t, n, f, s, r0, r1, r2, r3, pp, path, pc⟩ := h
  simp only [MD.PathIn] at *
  unfold maxLen at hl
  have hP2 := hP.2
  clear hP
  obtain ⟨x, hx⟩ : ∃ x, x = objB r0 := ⟨_, rfl⟩
  have HO : Hid (∀ W, Calls Tryd.prog 39 #[.int .i64 r0] W fun r w' => r = .returned (.bool x) ∧ w' = W) := fun W => by rw [hx]; exact rightObject_any r0 W
  rw [← hx]
  clear hx
  cases x with
  | false =>
    go_enter Tryd.func41, Tryd.ntmps41
    go_wp2_with (go_at_call 39; refine (HO.out _).mono ?_; rintro r w' ⟨rfl, rfl⟩)
    all_goals (go_ret; refine ⟨?_, below1 _ _⟩; simp)
  | true =>
    by_cases h1 : 100 < path.length
    · have h1' : (100 : Int) < path.length := by omega
      have e1 : decide (path.length ≤ 100) = false := by simpa using h1
      rw [e1]
      clear e1
      go_enter Tryd.func41, Tryd.ntmps41
      go_wp2_with (go_at_call 39; refine (HO.out _).mono ?_; rintro r w' ⟨rfl, rfl⟩)
      all_goals (go_ret; refine ⟨?_, below1 _ _⟩; simp)
    · have h1' : ¬ (100 : Int) < path.length := by omega
      have e1 : decide (path.length ≤ 100) = true := by simpa using h1
      rw [e1]
      clear e1
      by_cases h2 : r0 = 0 ∧ 0 < path.length
      · obtain ⟨rfl, h3⟩ := h2
        have h3' : (0 : Int) < path.length := by omega
        have e1 : decide (0 < path.length) = true := by simpa using h3
        rw [e1]
        clear e1
        go_enter Tryd.func41, Tryd.ntmps41
        go_wp2_with (go_at_call 39; refine (HO.out _).mono ?_; rintro r w' ⟨rfl, rfl⟩)
        all_goals (go_ret; refine ⟨?_, below1 _ _⟩; simp)
      · have e1 : (!(r0 == 0 && decide (0 < path.length))) = true := by
          cases hh : (r0 == 0 && decide (0 < path.length)) with
          | false => rfl
          | true => rw [Bool.and_eq_true, beq_iff_eq, decide_eq_true_eq] at hh; exact absurd hh h2
        rw [e1]
        simp only [Bool.true_and]
        have HE : Hid (r0 = 0 → ¬ (0 : Int) < path.length) := fun h => by omega
        clear e1 h2
        have key : ∀ (W : World), W = w.alloc (.cells #[.int .i64 r0, .int .i64 r1, .int .i64 r2, .int .i64 r3, .slice pp path.length pc] 29) → ∀ (j : Nat) (hj : j < path.length), ∃ b o, pp = some ⟨b, o, none⟩ ∧ W.cell? ⟨b, o + j, none⟩ = some (.int .i64 path[j]) := by
          intro W hW j hj
          rcases hP2 with e | ⟨b, o, e1, e2, e3⟩
          · rw [e] at hj; simp at hj
          · exact ⟨b, o, e1, by rw [hW, World.cell?_alloc_lt _ _ _ e2]; exact e3 j hj⟩
        have HY : Hid _ := key _ rfl
        clear key hP2
        by_cases hr : r0 = 0
        · subst hr
          have hz : ¬ (0 : Int) < path.length := HE.out rfl
          obtain rfl : path = [] := List.eq_nil_of_length_eq_zero (by omega)
          clear HY HE hz h1 h1' hl
          go_enter Tryd.func41, Tryd.ntmps41
          go_wp2_with (go_at_call 39; refine (HO.out _).mono ?_; rintro r w' ⟨rfl, rfl⟩)
          go_rounds 1
          all_goals (go_ret; exact ⟨rfl, below1 _ _⟩)
        · go_enter Tryd.func41, Tryd.ntmps41
          go_wp2_with (go_at_call 39; refine (HO.out _).mono ?_; rintro r w' ⟨rfl, rfl⟩)
          go_loop [29] (fun i => ∃ j : Nat, j ≤ path.length ∧ i = .int .i64 j ∧ Hid ((path.take j).all stepB = true)) (fun i => path.length - (intOf i).toNat)
          case atStart => exact ⟨0, by omega, rfl, rfl⟩
          case round =>
            obtain ⟨j, hj, rfl, hal⟩ := hrel
            by_cases hlt : j < path.length
            · have i1 : (j : Int) < path.length := by omega
              obtain ⟨b, o, rfl, hcell⟩ := HY.out j hlt
              have HS : Hid ((path.take (j + 1)).all stepB = stepB path[j]) := by
                show _ = _
                rw [List.take_succ_eq_append_getElem hlt, List.all_append, hal.out]; simp
              have HA : Hid (stepB path[j] = false → path.all stepB = false) := fun hz => by
                rw [List.all_eq_false]; exact ⟨path[j], List.getElem_mem hlt, by rw [hz]; exact Bool.false_ne_true⟩
              generalize path[j] = z at hcell HS HA
              go_wp2
              all_goals first
                | (refine ⟨⟨j + 1, by omega, by go_num, ?_⟩, by simp [intOf]; omega⟩; show _ = _; rw [HS.out, stepB]; simp; omega)
                | (go_ret; refine ⟨?_, below1 _ _⟩; rw [HA.out (by unfold stepB; simp; omega)]; rfl)
            · obtain rfl : j = path.length := by omega
              have HX : Hid (path.all stepB = true) := by
                show _ = _
                have := hal.out
                rwa [List.take_of_length_le (Nat.le_refl _)] at this
              go_wp2
              go_ret
              refine ⟨?_, below1 _ _⟩
              rw [HX.out]; rfl
end Go.Proofs.YtnhbpcmiolkllabDoor
