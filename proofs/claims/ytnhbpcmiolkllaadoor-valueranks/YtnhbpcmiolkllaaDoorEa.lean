/-
  The small walks beneath right: types' names, what a kind has, refs, NaNs.
-/
import Derived.Test.YtnhbpcmiolkllaaDoorE
import Derived.Test.YtnhbpcmiolkllaaDoorG
import Derived.Test.YtnhbpcmiolkllaaDoorDa
import Derived.Test.YtnhbpcmiolkllaaDoorFl
import Derived.Laws.Cover2
namespace Go.Proofs.YtnhbpcmiolkllaaDoor
open Go.RowKit
attribute [local go_sem] refold2 cell3_0 cell3_1 b28_0 b28_01

theorem x56 (n : Int) (W : World) : (callFunc 56 #[.int .u64 n]).run Tryd.prog W = .ok (.value (.float .f64 n.toNat)) W :=
  (@run_callFunc_extern Tryd.prog 56 _ Extern.MathFloatBits.float64frombits Tryd.func56 (by kernel_rfl) (by kernel_rfl) (by kernel_rfl) (by kernel_rfl) _ W).trans rfl
attribute [local go_sem] x56

/-- The float of some bits is no number. -/
theorem mathIsNaN_any (x : Nat) (w : World) : Calls Tryd.prog 55 #[.float .f64 x] w fun r w' => r = .returned (.bool (isNan x)) ∧ w' = w := by
  have h : (FloatKind.f64.format.order x x != some .eq) = isNan x := by
    have h1 := order_none x x
    have h2 := order_swap x x
    show (Ieee.double.order x x != some .eq) = _
    cases ho : Ieee.double.order x x with
    | none => have := h1.1 ho; simp at this; rw [this]; rfl
    | some o =>
      rw [ho] at h1 h2
      have : isNan x = false := by cases hx : isNan x with
        | false => rfl
        | true => have := h1.2 (.inl hx); cases this
      rw [this]
      cases o <;> simp [Ordering.swap] at h2 ⊢
  go_enter Tryd.func55, Tryd.ntmps55
  go_wp2
  go_ret
  exact ⟨rfl, rfl⟩

theorem and2047 (x : Int) (h0 : 0 ≤ x) (h1 : x ≤ 18446744073709551615) : bits .and .u64 x 2047 = x % 2048 := by
  obtain ⟨n, rfl⟩ : ∃ n : Nat, x = n := ⟨x.toNat, by omega⟩
  show IntKind.u64.wrap ((BitVec.ofInt 64 (n : Int) &&& BitVec.ofInt 64 2047).toNat : Int) = _
  have e1 : BitVec.ofInt 64 2047 = BitVec.ofNat 64 (2 ^ 11 - 1) := by decide
  rw [e1, BitVec.toNat_and, BitVec.toNat_ofInt, BitVec.toNat_ofNat]
  have e2 : ((n : Int) % ((2 ^ 64 : Nat) : Int)).toNat = n := by
    have : (n : Int) % ((2 ^ 64 : Nat) : Int) = n := by rw [show ((2 ^ 64 : Nat) : Int) = 18446744073709551616 by decide]; omega
    rw [this]; rfl
  rw [e2, Nat.mod_eq_of_lt (by decide : 2 ^ 11 - 1 < 2 ^ 64), Nat.and_two_pow_sub_one_eq_mod]
  simp [IntKind.wrap, IntKind.bits, IntKind.signed]
  omega

theorem wrap4096 (f : Int) : IntKind.u64.wrap (f * 4096) = f * 4096 % 18446744073709551616 := by simp [IntKind.wrap, IntKind.bits, IntKind.signed]

theorem refIsNaN_any (f : Int) (w : World) (h0 : 0 ≤ f) (h1 : f ≤ 18446744073709551615) : Calls Tryd.prog 46 #[.int .u64 f] w fun r w' => r = .returned (.bool (isNan f.toNat)) ∧ w' = w := by
  have e1 := and2047 (f / 4503599627370496) (by omega) (by omega)
  have e2 := wrap4096 f
  have e3 : isNan f.toNat = ((f / 4503599627370496 % 2048 == 2047) && (f * 4096 % 18446744073709551616 != 0)) := by
    unfold isNan
    rw [Bool.eq_iff_iff]
    simp
    omega
  have E1 : Hid _ := e1
  have E2 : Hid _ := e2
  clear e1 e2
  rw [e3]
  clear e3
  go_enter Tryd.func46, Tryd.ntmps46
  go_wp2
  · have hq : bits BinOp.and IntKind.u64 (f / 4503599627370496) 2047 = 2047 := by assumption
    rw [E1.out] at hq
    go_ret
    rw [hq, E2.out]
    exact ⟨rfl, rfl⟩
  · have hq : ¬ bits BinOp.and IntKind.u64 (f / 4503599627370496) 2047 = 2047 := by assumption
    rw [E1.out] at hq
    have hb : (f / 4503599627370496 % 2048 == 2047) = false := by simpa using hq
    go_ret
    rw [hb]
    exact ⟨rfl, rfl⟩

/-- May an object's number be so? -/
def objB (n : Int) : Bool := decide (0 ≤ n) && decide (n ≤ 2147483647)
set_option maxHeartbeats 1000000 in
theorem rightObject_any (n : Int) (w : World) : Calls Tryd.prog 58 #[.int .i64 n] w fun r w' => r = .returned (.bool (objB n)) ∧ w' = w := by
  unfold objB
  go_enter Tryd.func58, Tryd.ntmps58
  go_wp2
  all_goals (go_ret; refine ⟨?_, rfl⟩; simp_all)
  all_goals omega

/-- May a list's ref be so? -/
def pieceB (r0 r1 r2 r3 : Int) : Bool := if r0 = 0 then r1 == 0 && r2 == 0 && r3 == 0 else objB r0 && decide (0 ≤ r1) && decide (0 ≤ r2) && decide (r2 ≤ r3) && decide (r3 ≤ 1048576) && decide (r1 ≤ 1048576 - r3)
set_option maxHeartbeats 4000000 in
theorem rightPiece_any (r0 r1 r2 r3 : Int) (p : Option Addr) (m c : Nat) (w : World) (h0 : -9223372036854775808 ≤ r3) (h1 : r3 ≤ 9223372036854775807) :
    Calls Tryd.prog 57 #[.agg #[.int .i64 r0, .int .i64 r1, .int .i64 r2, .int .i64 r3, .slice p m c]] w fun r w' => r = .returned (.bool (pieceB r0 r1 r2 r3)) ∧ Below w.heap.size w w' := by
  by_cases hr : r0 = 0
  · unfold pieceB
    rw [if_pos hr]
    subst hr
    go_enter Tryd.func57, Tryd.ntmps57
    go_wp2
    all_goals (go_ret; refine ⟨?_, below1 _ _⟩; simp_all)
  · have e : pieceB r0 r1 r2 r3 = (objB r0 && decide (0 ≤ r1) && decide (0 ≤ r2) && decide (r2 ≤ r3) && decide (r3 ≤ 1048576) && decide (r1 ≤ 1048576 - r3)) := by unfold pieceB; rw [if_neg hr]
    rw [e]
    clear e
    obtain ⟨x, hx⟩ : ∃ x, x = objB r0 := ⟨_, rfl⟩
    have HO : Hid (∀ W, Calls Tryd.prog 58 #[.int .i64 r0] W fun r w' => r = .returned (.bool x) ∧ w' = W) := fun W => by rw [hx]; exact rightObject_any r0 W
    rw [← hx]
    clear hx
    cases x with
    | false =>
      go_enter Tryd.func57, Tryd.ntmps57
      go_wp2_with (go_at_call 58; refine (HO.out _).mono ?_; rintro r w' ⟨rfl, rfl⟩)
      all_goals (go_ret; refine ⟨?_, below1 _ _⟩; simp)
    | true =>
      go_enter Tryd.func57, Tryd.ntmps57
      go_wp2_with (go_at_call 58; refine (HO.out _).mono ?_; rintro r w' ⟨rfl, rfl⟩)
      all_goals (go_ret; refine ⟨?_, below1 _ _⟩; simp_all)
      all_goals omega

/-- May a pointer's ref be so? -/
def targetB (r0 : Int) (path : List Int) : Bool := objB r0 && decide (path.length ≤ 100) && !(r0 == 0 && decide (0 < path.length)) && path.all (fun z => decide (0 ≤ z) && decide (z < 30))
end Go.Proofs.YtnhbpcmiolkllaaDoor
