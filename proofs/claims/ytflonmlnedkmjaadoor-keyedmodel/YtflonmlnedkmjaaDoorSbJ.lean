/-
  The small walks beneath right: types' names, what a kind has, refs, NaNs.
  What a kind has of its own; a pointer's ref; when two heads are the same.
  Which types and fields a kind may have; the walks of rightType, ownOf and rightTarget at any of them.
  Which data are right, and how large they are; the walk of rightItems.
  When two data are the same.
-/
import Derived.Test.YtflonmlnedkmjaaDoorIJ
import Derived.Test.YtflonmlnedkmjaaDoorPh2J
import Derived.Test.YtflonmlnedkmjaaDoorFl
import Derived.Laws.Cover2
namespace Go.Proofs.YtflonmlnedkmjaaDoor
open Go.RowKit
attribute [local go_sem] refold2 cell3_0 cell3_1 b28_0 b28_01

theorem x56 (n : Int) (W : World) : (callFunc 46 #[.int .u64 n]).run Tryd.prog W = .ok (.value (.float .f64 n.toNat)) W :=
  (@run_callFunc_extern Tryd.prog 46 _ Extern.MathFloatBits.float64frombits Tryd.func46 (by kernel_rfl) (by kernel_rfl) (by kernel_rfl) (by kernel_rfl) _ W).trans rfl
attribute [local go_sem] x56

/-- The float of some bits is no number. -/
theorem mathIsNaN_any (x : Nat) (w : World) : Calls Tryd.prog 45 #[.float .f64 x] w fun r w' => r = .returned (.bool (isNan x)) ∧ w' = w := by
  have h : (FloatKind.f64.format.order x x != some .eq) = isNan x := by
    have h1 := order_none x x
    have h2 := order_swap x x
    show (Ieee.double.order x x != some .eq) = _
    cases ho : Ieee.double.order x x with
    | none => have := h1.1 ho; simp at this; rw [this]; rfl
    | some o =>
      rw [ho] at h1 h2
      have : isNan x = false := by cases hx : isNan x with
        | false => rfl
        | true => have := h1.2 (.inl hx); cases this
      rw [this]
      cases o <;> simp [Ordering.swap] at h2 ⊢
  go_enter Tryd.func45, Tryd.ntmps45
  go_wp2
  go_ret
  exact ⟨rfl, rfl⟩

/-- May an object's number be so? -/
def objB (n : Int) : Bool := decide (0 ≤ n) && decide (n ≤ 2147483647)
set_option maxHeartbeats 1000000 in
theorem rightObject_any (n : Int) (w : World) : Calls Tryd.prog 48 #[.int .i64 n] w fun r w' => r = .returned (.bool (objB n)) ∧ w' = w := by
  unfold objB
  go_enter Tryd.func48, Tryd.ntmps48
  go_wp2
  all_goals (go_ret; refine ⟨?_, rfl⟩; simp_all)
  all_goals omega

/-- May a list's ref be so? -/
def pieceB (r0 r1 r2 r3 : Int) : Bool := if r0 = 0 then r1 == 0 && r2 == 0 && r3 == 0 else objB r0 && decide (0 ≤ r1) && decide (0 ≤ r2) && decide (r2 ≤ r3) && decide (r3 ≤ 1048576) && decide (r1 ≤ 1048576 - r3)
set_option maxHeartbeats 4000000 in
theorem rightPiece_any (r0 r1 r2 r3 : Int) (p : Option Addr) (m c : Nat) (w : World) (h0 : -9223372036854775808 ≤ r3) (h1 : r3 ≤ 9223372036854775807) :
    Calls Tryd.prog 47 #[.agg #[.int .i64 r0, .int .i64 r1, .int .i64 r2, .int .i64 r3, .slice p m c]] w fun r w' => r = .returned (.bool (pieceB r0 r1 r2 r3)) ∧ Below w.heap.size w w' := by
  by_cases hr : r0 = 0
  · unfold pieceB
    rw [if_pos hr]
    subst hr
    go_enter Tryd.func47, Tryd.ntmps47
    go_wp2
    all_goals (go_ret; refine ⟨?_, below1 _ _⟩; simp_all)
  · have e : pieceB r0 r1 r2 r3 = (objB r0 && decide (0 ≤ r1) && decide (0 ≤ r2) && decide (r2 ≤ r3) && decide (r3 ≤ 1048576) && decide (r1 ≤ 1048576 - r3)) := by unfold pieceB; rw [if_neg hr]
    rw [e]
    clear e
    obtain ⟨x, hx⟩ : ∃ x, x = objB r0 := ⟨_, rfl⟩
    have HO : Hid (∀ W, Calls Tryd.prog 48 #[.int .i64 r0] W fun r w' => r = .returned (.bool x) ∧ w' = W) := fun W => by rw [hx]; exact rightObject_any r0 W
    rw [← hx]
    clear hx
    cases x with
    | false =>
      go_enter Tryd.func47, Tryd.ntmps47
      go_wp2_with (go_at_call 48; refine (HO.out _).mono ?_; rintro r w' ⟨rfl, rfl⟩)
      all_goals (go_ret; refine ⟨?_, below1 _ _⟩; simp)
    | true =>
      go_enter Tryd.func47, Tryd.ntmps47
      go_wp2_with (go_at_call 48; refine (HO.out _).mono ?_; rintro r w' ⟨rfl, rfl⟩)
      all_goals (go_ret; refine ⟨?_, below1 _ _⟩; simp_all)
      all_goals omega

/-- May a pointer's ref be so? -/
def targetB (r0 : Int) (path : List Int) : Bool := objB r0 && decide (path.length ≤ 100) && !(r0 == 0 && decide (0 < path.length)) && path.all (fun z => decide (0 ≤ z) && decide (z < 30))
end Go.Proofs.YtflonmlnedkmjaaDoor
namespace Go.Proofs.YtflonmlnedkmjaaDoor
open Go.RowKit
attribute [local go_sem] refold2 cell3_0 cell3_1 b28_0 b28_01

set_option maxHeartbeats 1000000 in
theorem ownOf_bool (t : ByteArray) (a f : Int) (s : ByteArray) (r0 r1 r2 r3 : Int) (p : Value) (ip : Option Addr) (il ic : Nat) (w : World) :
    Calls Tryd.prog 44 #[D 1 t a f s r0 r1 r2 r3 p (.slice ip il ic)] w fun r w' => r = .returned (dat 1 t a 0 ⟨#[]⟩) ∧ Below w.heap.size w w' := by
  simp only [dat, D]
  go_enter Tryd.func44, Tryd.ntmps44
  go_wp2
  refine bodyPost_ret (v := dat 1 t a 0 ⟨#[]⟩) (by simp [results, Tryd.results44, go_sem, dat, D]) rfl ⟨rfl, ?_⟩
  exact below3 _ _ _ _

set_option maxHeartbeats 1000000 in
theorem ownOf_float (t : ByteArray) (a f : Int) (s : ByteArray) (r0 r1 r2 r3 : Int) (p : Value) (ip : Option Addr) (il ic : Nat) (w : World) :
    Calls Tryd.prog 44 #[D 3 t a f s r0 r1 r2 r3 p (.slice ip il ic)] w fun r w' => r = .returned (dat 3 t 0 f ⟨#[]⟩) ∧ Below w.heap.size w w' := by
  simp only [dat, D]
  go_enter Tryd.func44, Tryd.ntmps44
  go_wp2
  refine bodyPost_ret (v := dat 3 t 0 f ⟨#[]⟩) (by simp [results, Tryd.results44, go_sem, dat, D]) rfl ⟨rfl, ?_⟩
  exact below3 _ _ _ _

set_option maxHeartbeats 1000000 in
theorem ownOf_text (t : ByteArray) (a f : Int) (s : ByteArray) (r0 r1 r2 r3 : Int) (p : Value) (ip : Option Addr) (il ic : Nat) (w : World) :
    Calls Tryd.prog 44 #[D 4 t a f s r0 r1 r2 r3 p (.slice ip il ic)] w fun r w' => r = .returned (dat 4 t 0 0 s) ∧ Below w.heap.size w w' := by
  simp only [dat, D]
  go_enter Tryd.func44, Tryd.ntmps44
  go_wp2
  refine bodyPost_ret (v := dat 4 t 0 0 s) (by simp [results, Tryd.results44, go_sem, dat, D]) rfl ⟨rfl, ?_⟩
  exact below3 _ _ _ _

set_option maxHeartbeats 1000000 in
theorem ownOf_struct (t : ByteArray) (a f : Int) (s : ByteArray) (r0 r1 r2 r3 : Int) (p : Value) (ip : Option Addr) (il ic : Nat) (w : World) :
    Calls Tryd.prog 44 #[D 8 t a f s r0 r1 r2 r3 p (.slice ip il ic)] w fun r w' => r = .returned (D 8 t 0 0 ⟨#[]⟩ 0 0 0 0 (.slice none 0 0) (.slice ip il ic)) ∧ Below w.heap.size w w' := by
  simp only [D]
  go_enter Tryd.func44, Tryd.ntmps44
  go_wp2
  refine bodyPost_ret (v := D 8 t 0 0 ⟨#[]⟩ 0 0 0 0 (.slice none 0 0) (.slice ip il ic)) (by simp [results, Tryd.results44, go_sem, D]) rfl ⟨rfl, ?_⟩
  exact below3 _ _ _ _

/-- Two heads, field by field. -/
def headB (n f : Int) (s : ByteArray) (r0 r1 r2 r3 : Int) (m i : Nat) (n' f' : Int) (s' : ByteArray) (r0' r1' r2' r3' : Int) (m' i' : Nat) : Bool :=
  n == n' && f == f' && s.toList == s'.toList && r0 == r0' && r1 == r1' && r2 == r2' && r3 == r3' && (m : Int) == m' && (i : Int) == i'

set_option maxRecDepth 100000 in
set_option maxHeartbeats 2000000 in
theorem head_neq (k : Int) (t : ByteArray) (n f : Int) (s : ByteArray) (r0 r1 r2 r3 : Int) (m i : Nat) (n' f' : Int) (s' : ByteArray) (r0' r1' r2' r3' : Int) (m' i' : Nat) (w : World) :
    (binOp .neq 98 (.agg #[.int .i64 k, .string t, .int .i64 n, .int .u64 f, .string s, .int .i64 r0, .int .i64 r1, .int .i64 r2, .int .i64 r3, .int .i64 m, .int .i64 i]) (.agg #[.int .i64 k, .string t, .int .i64 n', .int .u64 f', .string s', .int .i64 r0', .int .i64 r1', .int .i64 r2', .int .i64 r3', .int .i64 m', .int .i64 i'])).run Tryd.prog w
      = .ok (.bool (!headB n f s r0 r1 r2 r3 m i n' f' s' r0' r1' r2' r3' m' i')) w := by
  unfold headB
  by_cases h1 : n = n'
  · by_cases h2 : f = f'
    · by_cases h3 : s.toList = s'.toList
      · by_cases h4 : r0 = r0'
        · by_cases h5 : r1 = r1'
          · by_cases h6 : r2 = r2'
            · by_cases h7 : r3 = r3'
              · by_cases h8 : (m : Int) = m'
                · by_cases h9 : (i : Int) = i'
                  · simp [go_sem, h1, h2, h3, h4, h5, h6, h7, h8, h9]
                  · simp [go_sem, h1, h2, h3, h4, h5, h6, h7, h8, h9]
                · simp [go_sem, h1, h2, h3, h4, h5, h6, h7, h8]
              · simp [go_sem, h1, h2, h3, h4, h5, h6, h7]
            · simp [go_sem, h1, h2, h3, h4, h5, h6]
          · simp [go_sem, h1, h2, h3, h4, h5]
        · simp [go_sem, h1, h2, h3, h4]
      · simp [go_sem, h1, h2, h3]
    · simp [go_sem, h1, h2]
  · simp [go_sem, h1]
end Go.Proofs.YtflonmlnedkmjaaDoor
namespace Go.Proofs.YtflonmlnedkmjaaDoor
open Go.RowKit
attribute [local go_sem] refold2 cell3_0 cell3_1 b28_0 b28_01

/-- May a kind have this type? -/
def tyB (k : Int) (t : ByteArray) : Bool := if k = 0 then t.toList == [] else if k = 1 then (t.toList == [98, 111, 111, 108] || declB t) else if k = 2 then (t.toList == [105, 110, 116] || declB t) else if k = 3 then (t.toList == [102, 108, 111, 97, 116] || declB t) else if k = 4 then (t.toList == [116, 101, 120, 116] || declB t) else if k = 5 then (t.toList == [108, 105, 115, 116] || declB t) else if k = 6 then (t.toList == [109, 97, 112] || declB t) else if k = 7 then (t.toList == [102, 117, 110, 99] || declB t) else if k = 8 then declB t else if k = 9 then declB t else false

/-- Is all zero that the kind has not? -/
def zeroK (k : Int) (n f : Int) (s : ByteArray) (r0 r1 r2 r3 : Int) (m i : Nat) : Bool :=
  (k == 1 || k == 2 || n == 0) && (k == 3 || f == 0) && (k == 4 || s.toList == []) && (k == 5 || k == 6 || k == 7 || k == 9 || r0 == 0) && (k == 5 || r1 == 0) && (k == 5 || r2 == 0) && (k == 5 || r3 == 0) && (k == 9 || (m : Int) == 0) && (k == 8 || (i : Int) == 0)

theorem kinds (k : Int) : k = 0 ∨ k = 1 ∨ k = 2 ∨ k = 3 ∨ k = 4 ∨ k = 5 ∨ k = 6 ∨ k = 7 ∨ k = 8 ∨ k = 9 ∨ k < 0 ∨ 9 < k := by omega

set_option maxRecDepth 100000 in
set_option maxHeartbeats 1000000 in
theorem rightType_0 (t : ByteArray) (a f : Int) (s : ByteArray) (r0 r1 r2 r3 : Int) (p i : Value) (w : World) :
    Calls Tryd.prog 42 #[D 0 t a f s r0 r1 r2 r3 p i] w fun r w' => r = .returned (.bool (t.toList == [])) ∧ Below w.heap.size w w' := by
  simp only [D]
  go_enter Tryd.func42, Tryd.ntmps42
  go_wp2
  all_goals (go_ret; refine ⟨by simp_all, below1 _ _⟩)
set_option maxRecDepth 100000 in
set_option maxHeartbeats 1000000 in
theorem rightType_out (k : Int) (hk : k < 0 ∨ 9 < k) (t : ByteArray) (a f : Int) (s : ByteArray) (r0 r1 r2 r3 : Int) (p i : Value) (w : World) :
    Calls Tryd.prog 42 #[D k t a f s r0 r1 r2 r3 p i] w fun r w' => r = .returned (.bool false) ∧ Below w.heap.size w w' := by
  simp only [D]
  have h0 : ¬ k = 0 := by omega
  rcases hk with hk | hk
  · have h1 : k < 1 := by omega
    go_enter Tryd.func42, Tryd.ntmps42
    go_wp2
    go_ret
    exact ⟨rfl, below1 _ _⟩
  · have h1 : ¬ k < 1 := by omega
    go_enter Tryd.func42, Tryd.ntmps42
    go_wp2
    go_ret
    exact ⟨rfl, below1 _ _⟩

theorem rightType_any (k : Int) (t : ByteArray) (a f : Int) (s : ByteArray) (r0 r1 r2 r3 : Int) (p i : Value) (w : World) (hN : NamesAt w) :
    Calls Tryd.prog 42 #[D k t a f s r0 r1 r2 r3 p i] w fun r w' => r = .returned (.bool (tyB k t)) ∧ Below w.heap.size w w' := by
  rcases kinds k with rfl | rfl | rfl | rfl | rfl | rfl | rfl | rfl | rfl | rfl | h
  · exact rightType_0 t a f s r0 r1 r2 r3 p i w
  · exact rightType_1 t a f s r0 r1 r2 r3 p i w hN
  · exact rightType_2 t a f s r0 r1 r2 r3 p i w hN
  · exact rightType_3 t a f s r0 r1 r2 r3 p i w hN
  · exact rightType_4 t a f s r0 r1 r2 r3 p i w hN
  · exact rightType_5 t a f s r0 r1 r2 r3 p i w hN
  · exact rightType_6 t a f s r0 r1 r2 r3 p i w hN
  · exact rightType_7 t a f s r0 r1 r2 r3 p i w hN
  · exact rightType_8 t a f s r0 r1 r2 r3 p i w hN
  · exact rightType_9 t a f s r0 r1 r2 r3 p i w hN
  · have e : tyB k t = false := by
      unfold tyB
      rw [if_neg (by omega), if_neg (by omega), if_neg (by omega), if_neg (by omega), if_neg (by omega), if_neg (by omega), if_neg (by omega), if_neg (by omega), if_neg (by omega), if_neg (by omega)]
    rw [e]
    exact rightType_out k h t a f s r0 r1 r2 r3 p i w

/-- What is a kind's own of a datum, and when its head is the whole one's. -/
theorem own_ex (k : Int) (h0 : 0 ≤ k) (h9 : k ≤ 9) (t : ByteArray) (n f : Int) (s : ByteArray) (r0 r1 r2 r3 : Int) (pp : Option Addr) (m c : Nat) (ip : Option Addr) (il ic : Nat) :
    ∃ (n' f' : Int) (s' : ByteArray) (r0' r1' r2' r3' : Int) (pp' : Option Addr) (m' c' : Nat) (ip' : Option Addr) (il' ic' : Nat),
      (∀ W, Calls Tryd.prog 44 #[D k t n f s r0 r1 r2 r3 (.slice pp m c) (.slice ip il ic)] W fun r w' => r = .returned (D k t n' f' s' r0' r1' r2' r3' (.slice pp' m' c') (.slice ip' il' ic')) ∧ Below W.heap.size W w') ∧
      headB n f s r0 r1 r2 r3 m il n' f' s' r0' r1' r2' r3' m' il' = zeroK k n f s r0 r1 r2 r3 m il := by
  rcases kinds k with rfl | rfl | rfl | rfl | rfl | rfl | rfl | rfl | rfl | rfl | h
  · exact ⟨0, 0, ⟨#[]⟩, 0, 0, 0, 0, none, 0, 0, none, 0, 0, fun W => ownOf_nil _ _ _ _ _ _ _ _ _ _ W, by simp [headB, zeroK]⟩
  · exact ⟨n, 0, ⟨#[]⟩, 0, 0, 0, 0, none, 0, 0, none, 0, 0, fun W => ownOf_bool _ _ _ _ _ _ _ _ _ _ _ _ W, by simp [headB, zeroK]⟩
  · exact ⟨n, 0, ⟨#[]⟩, 0, 0, 0, 0, none, 0, 0, none, 0, 0, fun W => ownOf_int _ _ _ _ _ _ _ _ _ _ W, by simp [headB, zeroK]⟩
  · exact ⟨0, f, ⟨#[]⟩, 0, 0, 0, 0, none, 0, 0, none, 0, 0, fun W => ownOf_float _ _ _ _ _ _ _ _ _ _ _ _ W, by simp [headB, zeroK]⟩
  · exact ⟨0, 0, s, 0, 0, 0, 0, none, 0, 0, none, 0, 0, fun W => ownOf_text _ _ _ _ _ _ _ _ _ _ _ _ W, by simp [headB, zeroK]⟩
  · exact ⟨0, 0, ⟨#[]⟩, r0, r1, r2, r3, none, 0, 0, none, 0, 0, fun W => ownOf_list _ _ _ _ _ _ _ _ _ _ _ _ W, by simp [headB, zeroK]⟩
  · exact ⟨0, 0, ⟨#[]⟩, r0, 0, 0, 0, none, 0, 0, none, 0, 0, fun W => ownOf_map _ _ _ _ _ _ _ _ _ _ W, by simp [headB, zeroK]⟩
  · exact ⟨0, 0, ⟨#[]⟩, r0, 0, 0, 0, none, 0, 0, none, 0, 0, fun W => ownOf_func _ _ _ _ _ _ _ _ _ _ W, by simp [headB, zeroK]⟩
  · exact ⟨0, 0, ⟨#[]⟩, 0, 0, 0, 0, none, 0, 0, ip, il, ic, fun W => ownOf_struct _ _ _ _ _ _ _ _ _ _ _ _ W, by simp [headB, zeroK]⟩
  · exact ⟨0, 0, ⟨#[]⟩, r0, 0, 0, 0, pp, m, c, none, 0, 0, fun W => ownOf_ptr _ _ _ _ _ _ _ _ _ _ _ _ W, by simp [headB, zeroK]⟩
  · omega

/-- May a number stand on a path? -/
def stepB (z : Int) : Bool := decide (0 ≤ z) && decide (z < 30)
theorem targetB_eq (r0 : Int) (path : List Int) : targetB r0 path = (objB r0 && decide (path.length ≤ 100) && !(r0 == 0 && decide (0 < path.length)) && path.all stepB) := rfl

set_option maxHeartbeats 4000000 in
theorem rightTarget_any (h : Hd) (w : World) (hP : MD.PathIn w.heap.size w h) (hl : h.path.length ≤ maxLen) :
    Calls Tryd.prog 50 #[.agg #[.int .i64 h.r0, .int .i64 h.r1, .int .i64 h.r2, .int .i64 h.r3, .slice h.pp h.path.length h.pc]] w fun r w' => r = .returned (.bool (targetB h.r0 h.path)) ∧ Below w.heap.size w w' := by
  rw [targetB_eq]
  obtain ⟨k, t, n, f, s, r0, r1, r2, r3, pp, path, pc⟩ := h
  simp only [MD.PathIn] at *
  unfold maxLen at hl
  have hP2 := hP.2
  clear hP
  obtain ⟨x, hx⟩ : ∃ x, x = objB r0 := ⟨_, rfl⟩
  have HO : Hid (∀ W, Calls Tryd.prog 48 #[.int .i64 r0] W fun r w' => r = .returned (.bool x) ∧ w' = W) := fun W => by rw [hx]; exact rightObject_any r0 W
  rw [← hx]
  clear hx
  cases x with
  | false =>
    go_enter Tryd.func50, Tryd.ntmps50
    go_wp2_with (go_at_call 48; refine (HO.out _).mono ?_; rintro r w' ⟨rfl, rfl⟩)
    all_goals (go_ret; refine ⟨?_, below1 _ _⟩; simp)
  | true =>
    by_cases h1 : 100 < path.length
    · have h1' : (100 : Int) < path.length := by omega
      have e1 : decide (path.length ≤ 100) = false := by simpa using h1
      rw [e1]
      clear e1
      go_enter Tryd.func50, Tryd.ntmps50
      go_wp2_with (go_at_call 48; refine (HO.out _).mono ?_; rintro r w' ⟨rfl, rfl⟩)
      all_goals (go_ret; refine ⟨?_, below1 _ _⟩; simp)
    · have h1' : ¬ (100 : Int) < path.length := by omega
      have e1 : decide (path.length ≤ 100) = true := by simpa using h1
      rw [e1]
      clear e1
      by_cases h2 : r0 = 0 ∧ 0 < path.length
      · obtain ⟨rfl, h3⟩ := h2
        have h3' : (0 : Int) < path.length := by omega
        have e1 : decide (0 < path.length) = true := by simpa using h3
        rw [e1]
        clear e1
        go_enter Tryd.func50, Tryd.ntmps50
        go_wp2_with (go_at_call 48; refine (HO.out _).mono ?_; rintro r w' ⟨rfl, rfl⟩)
        all_goals (go_ret; refine ⟨?_, below1 _ _⟩; simp)
      · have e1 : (!(r0 == 0 && decide (0 < path.length))) = true := by
          cases hh : (r0 == 0 && decide (0 < path.length)) with
          | false => rfl
          | true => rw [Bool.and_eq_true, beq_iff_eq, decide_eq_true_eq] at hh; exact absurd hh h2
        rw [e1]
        simp only [Bool.true_and]
        have HE : Hid (r0 = 0 → ¬ (0 : Int) < path.length) := fun h => by omega
        clear e1 h2
        have key : ∀ (W : World), W = w.alloc (.cells #[.int .i64 r0, .int .i64 r1, .int .i64 r2, .int .i64 r3, .slice pp path.length pc] 36) → ∀ (j : Nat) (hj : j < path.length), ∃ b o, pp = some ⟨b, o, none⟩ ∧ W.cell? ⟨b, o + j, none⟩ = some (.int .i64 path[j]) := by
          intro W hW j hj
          rcases hP2 with e | ⟨b, o, e1, e2, e3⟩
          · rw [e] at hj; simp at hj
          · exact ⟨b, o, e1, by rw [hW, World.cell?_alloc_lt _ _ _ e2]; exact e3 j hj⟩
        have HY : Hid _ := key _ rfl
        clear key hP2
        by_cases hr : r0 = 0
        · subst hr
          have hz : ¬ (0 : Int) < path.length := HE.out rfl
          obtain rfl : path = [] := List.eq_nil_of_length_eq_zero (by omega)
          clear HY HE hz h1 h1' hl
          go_enter Tryd.func50, Tryd.ntmps50
          go_wp2_with (go_at_call 48; refine (HO.out _).mono ?_; rintro r w' ⟨rfl, rfl⟩)
          go_rounds 1
          all_goals (go_ret; exact ⟨rfl, below1 _ _⟩)
        · go_enter Tryd.func50, Tryd.ntmps50
          go_wp2_with (go_at_call 48; refine (HO.out _).mono ?_; rintro r w' ⟨rfl, rfl⟩)
          go_loop [29] (fun i => ∃ j : Nat, j ≤ path.length ∧ i = .int .i64 j ∧ Hid ((path.take j).all stepB = true)) (fun i => path.length - (intOf i).toNat)
          case atStart => exact ⟨0, by omega, rfl, rfl⟩
          case round =>
            obtain ⟨j, hj, rfl, hal⟩ := hrel
            by_cases hlt : j < path.length
            · have i1 : (j : Int) < path.length := by omega
              obtain ⟨b, o, rfl, hcell⟩ := HY.out j hlt
              have HS : Hid ((path.take (j + 1)).all stepB = stepB path[j]) := by
                show _ = _
                rw [List.take_succ_eq_append_getElem hlt, List.all_append, hal.out]; simp
              have HA : Hid (stepB path[j] = false → path.all stepB = false) := fun hz => by
                rw [List.all_eq_false]; exact ⟨path[j], List.getElem_mem hlt, by rw [hz]; exact Bool.false_ne_true⟩
              generalize path[j] = z at hcell HS HA
              go_wp2
              all_goals first
                | (refine ⟨⟨j + 1, by omega, by go_num, ?_⟩, by simp [intOf]; omega⟩; show _ = _; rw [HS.out, stepB]; simp; omega)
                | (go_ret; refine ⟨?_, below1 _ _⟩; rw [HA.out (by unfold stepB; simp; omega)]; rfl)
            · obtain rfl : j = path.length := by omega
              have HX : Hid (path.all stepB = true) := by
                show _ = _
                have := hal.out
                rwa [List.take_of_length_le (Nat.le_refl _)] at this
              go_wp2
              go_ret
              refine ⟨?_, below1 _ _⟩
              rw [HX.out]; rfl
end Go.Proofs.YtflonmlnedkmjaaDoor
namespace Go.Proofs.YtflonmlnedkmjaaDoor
open Go.RowKit
attribute [local go_sem] refold2 cell3_0 cell3_1 b28_0 b28_01

/-- What a kind asks besides. -/
def kindB (h : Hd) : Bool :=
  if h.k = 1 then (h.n == 0 || h.n == 1) else if h.k = 3 then (h.f == 9221120237041090561 || !isNan h.f.toNat) else if h.k = 4 then decide (h.s.size ≤ 65536)
  else if h.k = 5 then pieceB h.r0 h.r1 h.r2 h.r3 else if h.k = 6 then objB h.r0 else if h.k = 7 then objB h.r0 else if h.k = 9 then targetB h.r0 h.path else true
/-- May a datum be so, but for its Items? -/
def headOK (h : Hd) (il : Nat) : Bool := tyB h.k h.t && zeroK h.k h.n h.f h.s h.r0 h.r1 h.r2 h.r3 h.path.length il && kindB h
/-- How large a datum is. -/
def MD.size : Nat → MD → Nat
  | 0, _ => 1
  | n + 1, d => 1 + (if d.h.k = 8 then (d.items.map (MD.size n)).sum else 0)
/-- May it be, but for how large it is? -/
def MD.full : Nat → MD → Bool
  | 0, _ => false
  | n + 1, d => headOK d.h d.items.length && (d.h.k != 8 || (decide (d.items.length ≤ 30) && d.items.all (MD.full n)))

theorem MD.size_pos (n : Nat) (d : MD) : 1 ≤ MD.size n d := by cases n <;> simp [MD.size]
theorem sum_take_succ {α : Type} (g : α → Nat) (l : List α) (i : Nat) (hi : i < l.length) : ((l.take (i + 1)).map g).sum = ((l.take i).map g).sum + g l[i] := by
  rw [List.take_succ_eq_append_getElem hi, List.map_append, List.sum_append]; simp
theorem sum_take_le {α : Type} (g : α → Nat) (l : List α) (i : Nat) : ((l.take i).map g).sum ≤ (l.map g).sum := by
  have : (l.map g).sum = ((l.take i).map g).sum + ((l.drop i).map g).sum := by rw [← List.sum_append, ← List.map_append, List.take_append_drop]
  omega

/-- The room that is left lies in a variable. -/
structure RoomAt (w : World) (b : Nat) (rm : Int) : Prop where
  c : w.cell? ⟨b, 0, none⟩ = some (.int .i64 rm)
  f : w.frozen? ⟨b, 0, none⟩ = false
  lt : b < w.heap.size
theorem RoomAt.kept {w W : World} {b : Nat} {rm : Int} (h : RoomAt w b rm) (hb : Below w.heap.size w W) : RoomAt W b rm :=
  ⟨(hb.cell (p := ⟨b, 0, none⟩) h.lt).trans h.c, (hb.frozen (p := ⟨b, 0, none⟩) h.lt).trans h.f, Nat.lt_of_lt_of_le h.lt hb.size⟩
theorem NamesAt.under {w W : World} {b : Nat} (h : NamesAt w) (h0 : 0 < b) (hb : Below b w W) : NamesAt W := ⟨fun j => (hb.cell (p := ⟨0, j, none⟩) h0).trans (h.cells j), Nat.lt_of_lt_of_le h.lt hb.size⟩

/-- A datum's Items lie in memory below B. -/
def MD.ItemsIn (B : Nat) (w : World) (n : Nat) (d : MD) : Prop :=
  d.items = [] ∨ ∃ b o, d.ip = some ⟨b, o, none⟩ ∧ b < B ∧ ∀ (i : Nat) (hi : i < d.items.length), MD.CellsAt w b (o + i * 11) d.items[i] ∧ MD.In B w n d.items[i]
theorem MD.In.items {B : Nat} {w : World} {n : Nat} {d : MD} (h : MD.In B w (n + 1) d) : MD.ItemsIn B w n d := h.2.2.2.2
theorem MD.ItemsIn.below {B : Nat} {w w' : World} {n : Nat} {d : MD} (h : MD.ItemsIn B w n d) (hb : Below B w w') : MD.ItemsIn B w' n d := by
  rcases h with e | ⟨b, o, e1, e2, e3⟩
  · exact .inl e
  · exact .inr ⟨b, o, e1, e2, fun i hi => ⟨(e3 i hi).1.below e2 hb, MD.In.below hb n _ (e3 i hi).2⟩⟩

/-- A call answers whether something may be and there is room for it; the room is then less by its size. -/
def RightP (fu : Bool) (z : Nat) (b : Nat) (rm : Int) (w : World) (r : Ending) (w' : World) : Prop :=
  ∃ (x : Bool) (rm' : Int), r = .returned (.bool x) ∧ Below b w w' ∧ RoomAt w' b rm' ∧ x = (fu && decide ((z : Int) ≤ rm)) ∧ (x = true → rm' = rm - z)
/-- What a call of right does. -/
def RightC (n : Nat) : Prop := ∀ (d : MD) (b : Nat) (rm : Int) (w : World), NamesAt w → 0 < b → RoomAt w b rm → 0 ≤ rm → rm ≤ 100 → MD.In b w n d →
  Calls Tryd.prog 32 #[d.val, .pointer (some ⟨b, 0, none⟩)] w (RightP (MD.full n d) (MD.size n d) b rm w)
/-- What a call of rightItems does. -/
def ItemsC (n : Nat) : Prop := ∀ (d : MD) (b : Nat) (rm : Int) (w : World), NamesAt w → 0 < b → RoomAt w b rm → 0 ≤ rm → rm ≤ 100 → MD.ItemsIn b w n d → d.items.length ≤ d.ic → d.ic ≤ maxLen →
  Calls Tryd.prog 49 #[.slice d.ip d.items.length d.ic, .pointer (some ⟨b, 0, none⟩)] w (RightP (decide (d.items.length ≤ 30) && d.items.all (MD.full n)) (d.items.map (MD.size n)).sum b rm w)

set_option maxRecDepth 100000 in
set_option maxHeartbeats 2000000 in
theorem rightItems_step (n : Nat) (hI : RightC n) : ItemsC n := by
  intro d b rm w hN hb0 hR h0 h1 hin hl1 hl2
  obtain ⟨h, ip, ic, items⟩ := d
  simp only at *
  have HI : Hid (RightC n) := hI
  clear hI
  unfold maxLen at hl2
  by_cases h30 : 30 < items.length
  · have h30' : (30 : Int) < items.length := by omega
    have e : decide (items.length ≤ 30) = false := by simpa using h30
    rw [e]
    clear e
    go_enter Tryd.func49, Tryd.ntmps49
    go_wp2_with fail
    go_ret
    exact ⟨false, rm, rfl, Below.refl _ _, hR, rfl, fun h => by cases h⟩
  · have h30' : ¬ (30 : Int) < items.length := by omega
    have e : decide (items.length ≤ 30) = true := by simpa using h30
    rw [e]
    simp only [Bool.true_and]
    clear e
    have HH : Hid (NamesAt w ∧ MD.ItemsIn b w n ⟨h, ip, ic, items⟩) := ⟨hN, hin⟩
    have HR : Hid (RoomAt w b rm) := hR
    clear hN hin hR
    go_enter Tryd.func49, Tryd.ntmps49
    go_wp2_with fail
    go_loopw [12] (fun i wr => ∃ (k : Nat) (rk : Int), k ≤ items.length ∧ i = .int .i64 k ∧ 0 ≤ rk ∧ rk ≤ 100 ∧ Hid (RoomAt wr b rk ∧ Below b w wr ∧ (items.take k).all (MD.full n) = true ∧ rk = rm - ((items.take k).map (MD.size n)).sum)) (fun i _ => items.length - (intOf i).toNat)
    case atStart => exact ⟨0, rm, Nat.zero_le _, rfl, h0, h1, HR.out, Below.refl _ _, rfl, by simp⟩
    case round =>
      obtain ⟨k, rk, hk, rfl, hk0, hk1, hk2⟩ := hrel
      by_cases hlt : k < items.length
      · have i1 : (k : Int) < items.length := by omega
        obtain ⟨bb, o, rfl, hbB, hC, hIn⟩ : ∃ bb o, ip = some ⟨bb, o, none⟩ ∧ bb < b ∧ MD.CellsAt wr bb (o + k * 11) items[k] ∧ MD.In b wr n items[k] := by
          rcases HH.out.2.below hk2.out.2.1 with e | ⟨bb, o, e1, e2, e3⟩
          · have e' : items = [] := e
            rw [e'] at hlt; simp at hlt
          · exact ⟨bb, o, e1, e2, e3 k hlt⟩
        have HS : Hid (((items.take (k + 1)).map (MD.size n)).sum = ((items.take k).map (MD.size n)).sum + MD.size n items[k]) := sum_take_succ _ _ _ hlt
        have HL : Hid (((items.take (k + 1)).map (MD.size n)).sum ≤ (items.map (MD.size n)).sum) := sum_take_le _ _ _
        have HT : Hid ((items.take (k + 1)).all (MD.full n) = MD.full n items[k]) := by
          show _ = _
          rw [List.take_succ_eq_append_getElem hlt, List.all_append, hk2.out.2.2.1]; simp
        have HA : Hid (MD.full n items[k] = false → items.all (MD.full n) = false) := fun hz => by
          rw [List.all_eq_false]; exact ⟨items[k], List.getElem_mem hlt, by rw [hz]; exact Bool.false_ne_true⟩
        generalize items[k] = kid at hC hIn HS HT HA
        obtain ⟨⟨k0, k1, k2, k3, k4, k5, k6, k7, k8, kp, kpath, kpc⟩, kip, kic, kit⟩ := kid
        have c0 : wr.cell? ⟨bb, o + k * 11, none⟩ = some (.int .i64 k0) := hC 0 (by omega)
        have c1 : wr.cell? ⟨bb, o + k * 11 + 1, none⟩ = some (.string k1) := hC 1 (by omega)
        have c2 : wr.cell? ⟨bb, o + k * 11 + 2, none⟩ = some (.int .i64 k2) := hC 2 (by omega)
        have c3 : wr.cell? ⟨bb, o + k * 11 + 3, none⟩ = some (.int .u64 k3) := hC 3 (by omega)
        have c4 : wr.cell? ⟨bb, o + k * 11 + 4, none⟩ = some (.string k4) := hC 4 (by omega)
        have c5 : wr.cell? ⟨bb, o + k * 11 + 5, none⟩ = some (.int .i64 k5) := hC 5 (by omega)
        have c6 : wr.cell? ⟨bb, o + k * 11 + 6, none⟩ = some (.int .i64 k6) := hC 6 (by omega)
        have c7 : wr.cell? ⟨bb, o + k * 11 + 7, none⟩ = some (.int .i64 k7) := hC 7 (by omega)
        have c8 : wr.cell? ⟨bb, o + k * 11 + 8, none⟩ = some (.int .i64 k8) := hC 8 (by omega)
        have c9 : wr.cell? ⟨bb, o + k * 11 + 9, none⟩ = some (.slice kp kpath.length kpc) := hC 9 (by omega)
        have c10 : wr.cell? ⟨bb, o + k * 11 + 10, none⟩ = some (.slice kip kit.length kic) := hC 10 (by omega)
        have HC : Hid (∀ W, Below wr.heap.size wr W → Calls Tryd.prog 32 #[.agg #[.int .i64 k0, .string k1, .int .i64 k2, .int .u64 k3, .string k4, .int .i64 k5, .int .i64 k6, .int .i64 k7, .int .i64 k8, .slice kp kpath.length kpc, .slice kip kit.length kic], .pointer (some ⟨b, 0, none⟩)] W (RightP (MD.full n ⟨⟨k0, k1, k2, k3, k4, k5, k6, k7, k8, kp, kpath, kpc⟩, kip, kic, kit⟩) (MD.size n ⟨⟨k0, k1, k2, k3, k4, k5, k6, k7, k8, kp, kpath, kpc⟩, kip, kic, kit⟩) b rk W)) := fun W hW => by
          obtain ⟨q1, q2, q3, q4⟩ := hk2.out
          have hbW : Below b wr W := hW.mono (Nat.le_of_lt q1.lt)
          exact (HI.out ⟨⟨k0, k1, k2, k3, k4, k5, k6, k7, k8, kp, kpath, kpc⟩, kip, kic, kit⟩ b rk W (HH.out.1.under hb0 (q2.trans hbW)) hb0 (q1.kept hW) hk0 hk1 (MD.In.below hbW n _ hIn))
        clear hC hIn HI
        generalize MD.size n ⟨⟨k0, k1, k2, k3, k4, k5, k6, k7, k8, kp, kpath, kpc⟩, kip, kic, kit⟩ = zk at HC HS
        generalize MD.full n ⟨⟨k0, k1, k2, k3, k4, k5, k6, k7, k8, kp, kpath, kpc⟩, kip, kic, kit⟩ = fk at HC HT HA
        go_wp2_with (go_at_call 32; refine (HC.out _ (below1 _ _)).mono ?_; rintro r w2 ⟨x, rm2, rfl, hx'⟩; have hx : Hid (Below b _ w2 ∧ RoomAt w2 b rm2 ∧ x = (fk && decide ((zk : Int) ≤ rk)) ∧ (x = true → rm2 = rk - zk)) := hx'; clear hx'; cases x)
        · go_ret
          obtain ⟨q1, q2, q3, q4⟩ := hk2.out
          obtain ⟨g1, g2, g3, g4⟩ := hx.out
          have gB : Below b w w2 := q2.trans (((below1 wr _).mono (Nat.le_of_lt q1.lt)).trans g1)
          refine ⟨false, rm2, rfl, gB, g2, ?_, fun h => by cases h⟩
          cases hf : fk with
          | false => rw [HA.out hf]; rfl
          | true =>
            rw [hf, Bool.true_and] at g3
            have g5 : ¬ (zk : Int) ≤ rk := by simpa using g3
            have e : decide (((items.map (MD.size n)).sum : Int) ≤ rm) = false := by
              have := HS.out; have := HL.out
              simp only [decide_eq_false_iff_not]; omega
            rw [e, Bool.and_false]
        · obtain ⟨q1, q2, q3, q4⟩ := hk2.out
          obtain ⟨g1, g2, g3, g4⟩ := hx.out
          have gB : Below b w w2 := q2.trans (((below1 wr _).mono (Nat.le_of_lt q1.lt)).trans g1)
          have g5 : rm2 = rk - zk := by simpa using g4
          have g6 := g3.symm
          rw [Bool.and_eq_true, decide_eq_true_eq] at g6
          have g7 := HS.out
          refine ⟨⟨k + 1, rm2, hlt, by go_num, by omega, by omega, g2, gB, ?_, by omega⟩, by simp [intOf]; omega⟩
          rw [HT.out]; exact g6.1
      · obtain rfl : k = items.length := by omega
        have hnl : ¬ (items.length : Int) < items.length := by omega
        go_wp2_with fail
        go_ret
        obtain ⟨q1, q2, q3, q4⟩ := hk2.out
        rw [List.take_of_length_le (Nat.le_refl _)] at q3 q4
        refine ⟨true, rk, rfl, q2, q1, ?_, fun _ => q4⟩
        rw [q3, Bool.true_and]
        have : ((items.map (MD.size n)).sum : Int) ≤ rm := by omega
        simpa using this
end Go.Proofs.YtflonmlnedkmjaaDoor
namespace Go.Proofs.YtflonmlnedkmjaaDoor
open Go.RowKit

/-- Two lists, one by one, as far as both go. -/
def all2 {α : Type} (p : α → α → Bool) : List α → List α → Bool
  | [], _ => true
  | _ :: _, [] => true
  | x :: xs, y :: ys => p x y && all2 p xs ys
theorem all2_snoc {α : Type} (p : α → α → Bool) : ∀ (xs ys : List α) (k : Nat) (hx : k < xs.length) (hy : k < ys.length), all2 p (xs.take (k + 1)) (ys.take (k + 1)) = (all2 p (xs.take k) (ys.take k) && p xs[k] ys[k])
  | x :: xs, y :: ys, 0, _, _ => by simp [all2]
  | x :: xs, y :: ys, k + 1, hx, hy => by
    have := all2_snoc p xs ys k (by simpa using hx) (by simpa using hy)
    simp only [List.take_succ_cons, List.getElem_cons_succ, all2]
    rw [this, Bool.and_assoc]
theorem all2_take {α : Type} (p : α → α → Bool) : ∀ (xs ys : List α) (k : Nat), all2 p (xs.take k) (ys.take k) = false → all2 p xs ys = false
  | [], ys, k, h => by simp [all2] at h
  | x :: xs, [], k, h => by cases k <;> simp [all2] at h
  | x :: xs, y :: ys, 0, h => by simp [all2] at h
  | x :: xs, y :: ys, k + 1, h => by
    simp only [List.take_succ_cons, all2, Bool.and_eq_false_iff] at h ⊢
    rcases h with h | h
    · exact .inl h
    · exact .inr (all2_take p xs ys k h)
/-- Two heads. -/
def sameH (a b : Hd) (il jl : Nat) : Bool := decide (a.k = b.k ∧ a.t = b.t ∧ a.n = b.n ∧ a.f = b.f ∧ a.s = b.s ∧ a.r0 = b.r0 ∧ a.r1 = b.r1 ∧ a.r2 = b.r2 ∧ a.r3 = b.r3 ∧ a.path.length = b.path.length ∧ il = jl)
/-- Two data. -/
def MD.same : Nat → MD → MD → Bool
  | 0, _, _ => true
  | n + 1, a, b => sameH a.h b.h a.items.length b.items.length && decide (a.h.path = b.h.path) && all2 (MD.same n) a.items b.items
theorem byteArray_ext {s t : ByteArray} (h : s.toList = t.toList) : s = t := by
  rw [Lib.toList_data, Lib.toList_data] at h
  exact ByteArray.ext (Array.toList_inj.1 h)
theorem kept2 {w W : World} {c d : Array Value} {t u : TypeId} (b : Below ((w.alloc (.cells c t)).alloc (.cells d u)).heap.size ((w.alloc (.cells c t)).alloc (.cells d u)) W) : Below w.heap.size w W ∧ (∀ j, W.cell? ⟨w.heap.size, j, none⟩ = c[j]?) ∧ ∀ j, W.cell? ⟨w.heap.size + 1, j, none⟩ = d[j]? :=
  ⟨(below2 w _ _).trans (b.mono (by simp; omega)), fun j => by
    rw [b.cell (p := ⟨w.heap.size, j, none⟩) (by simp; omega), World.cell?_alloc_lt _ _ _ (by simp)]; exact row_at (heap_alloc_new _ _) j, fun j => by
    rw [b.cell (p := ⟨w.heap.size + 1, j, none⟩) (by simp)]; exact row_at (heap2_1 _ _ _) j⟩
def PathRel (path path' : List Int) (W2 : World) (i : Value) (wr : World) : Prop := ∃ j : Nat, j ≤ path.length ∧ i = .int .i64 j ∧ path.take j = path'.take j ∧ Below W2.heap.size W2 wr
def SameRel (n : Nat) (items items' : List MD) (W2 : World) (i : Value) (wr : World) : Prop := ∃ j : Nat, j ≤ items.length ∧ i = .int .i64 j ∧ all2 (MD.same n) (items.take j) (items'.take j) = true ∧ Below W2.heap.size W2 wr
end Go.Proofs.YtflonmlnedkmjaaDoor
