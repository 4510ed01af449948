/-
  Quotients of whole numbers by powers of ten; the walk of the second Float.
-/
import Derived.Test.YtoplmbboaobahaaDoorRb
namespace Go.Proofs.YtoplmbboaobahaaDoor
open Ieee

theorem nearest_nan (g : Bool) (m : Nat) (i : Int) : isNan (double.nearest g m i) = false := by
  have hw : ∀ R, R ≤ 9218868437227405312 → isNan (double.word g R) = false := by
    intro R hR
    have e : double.signWeight = 9223372036854775808 := by decide
    have : double.word g R % 9223372036854775808 = R := by
      unfold Format.word
      split
      · rw [e]; omega
      · omega
    unfold isNan
    rw [this]; simpa using hR
  unfold Format.nearest
  dsimp only
  split
  · exact hw _ (by decide)
  · exact hw _ (Nat.le_trans (Nat.min_le_right ..) (by decide))

theorem ten_read : ∀ k, k < 16 → ∃ g m j, double.read (floatOfInt .f64 ((10 ^ k : Nat) : Int)) = .number g m j ∧ m ≠ 0 := by
  intro k hk
  have h : ∀ k : Fin 16, (match double.read (floatOfInt .f64 ((10 ^ k.val : Nat) : Int)) with | .number _ m _ => decide (m ≠ 0) | _ => false) = true := by decide +kernel
  have := h ⟨k, hk⟩
  dsimp only at this
  split at this
  · rename_i e; exact ⟨_, _, _, e, of_decide_eq_true this⟩
  · cases this

theorem ten_mul : ∀ k, k < 15 → floatBits .mul .f64 (floatOfInt .f64 ((10 ^ k : Nat) : Int)) 4621819117588971520 = some (floatOfInt .f64 ((10 ^ (k + 1) : Nat) : Int)) := by
  intro k hk
  have h : ∀ k : Fin 15, floatBits .mul .f64 (floatOfInt .f64 ((10 ^ k.val : Nat) : Int)) 4621819117588971520 = some (floatOfInt .f64 ((10 ^ (k.val + 1) : Nat) : Int)) := by decide +kernel
  exact h ⟨k, hk⟩

/-- n by ten to the k-th. -/
def fq (n k : Nat) : Nat := (floatBits .quo .f64 (floatOfInt .f64 n) (floatOfInt .f64 ((10 ^ k : Nat) : Int))).getD 0

theorem fq_some (n k : Nat) (hn : n < 9007199254740992) (hk : k < 16) : floatBits .quo .f64 (floatOfInt .f64 n) (floatOfInt .f64 ((10 ^ k : Nat) : Int)) = some (fq n k) ∧ isNan (fq n k) = false ∧ fq n k < 18446744073709551616 := by
  obtain ⟨g, m, i, e1, _, _, _⟩ := read53 n (by omega)
  obtain ⟨g', m', j, e2, h0⟩ := ten_read k hk
  have h : ∃ a b c, floatBits .quo .f64 (floatOfInt .f64 n) (floatOfInt .f64 ((10 ^ k : Nat) : Int)) = some (double.nearest a b c) := by
    show ∃ a b c, ((double.read _).quotient _ (double.read _)).map double.write = _
    rw [e1, e2]
    unfold Datum.quotient
    dsimp only
    rw [if_neg h0]
    exact ⟨_, _, _, rfl⟩
  obtain ⟨a, b, c, h⟩ := h
  have e : fq n k = double.nearest a b c := by unfold fq; rw [h]; rfl
  rw [e]
  exact ⟨h, nearest_nan a b c, double.nearest_lt a b c⟩

open Go.RowKit

attribute [local go_sem] refold2 cell3_0 cell3_1 b28_0 b28_01 b28_012 b28_013 b28_014 b35_01 b35_0 b35 mkI69 x56 x57

theorem toBits_any (b : Nat) (w : World) : Calls Tryd.prog 53 #[.float .f64 b] w fun r w' => r = .returned (.int .u64 b) ∧ w' = w := by
  go_enter Tryd.func53, Tryd.ntmps53
  go_wp2
  go_ret
  exact ⟨rfl, rfl⟩

/-- The second Float's loop: the place of the point (-1: none yet), the number, how many stand behind the point, how many digits. -/
def rfl' : List UInt8 → Nat → Int → Nat → Nat → Nat → Option (Int × Nat × Nat)
  | [], _, p, n, j, _ => some (p, n, j)
  | c :: cs, k, p, n, j, m =>
    if c.toNat = 46 ∧ p < 0 then rfl' cs (k + 1) k n j m
    else if 48 ≤ c.toNat ∧ c.toNat ≤ 57 then
      (if m < 15 then rfl' cs (k + 1) p (n * 10 + (c.toNat - 48)) (if 0 ≤ p then j + 1 else j) (m + 1) else none)
    else none

def fEnd (l : List UInt8) : Option (Int × Nat × Nat) → Option (Nat × Nat)
  | none => none
  | some (p, n, j) => if p < 1 ∨ p = (l.length : Int) - 1 ∨ (1 < p ∧ l.head? = some 48) then none else some (n, j)

/-- A float, or nothing, as Float answers it. -/
def litF : Option (Nat × Nat) → Value
  | some (n, j) => .tuple #[.agg #[.int .i64 3, .string ⟨#[102, 108, 111, 97, 116]⟩, .int .i64 0, .int .u64 (fq n j), .string ⟨#[]⟩, .int .i64 0, .int .i64 0, .int .i64 0, .int .i64 0, .slice none 0 0, .slice none 0 0], .bool true]
  | none => .tuple #[.agg #[.int .i64 0, .string ⟨#[]⟩, .int .i64 0, .int .u64 0, .string ⟨#[]⟩, .int .i64 0, .int .i64 0, .int .i64 0, .int .i64 0, .slice none 0 0, .slice none 0 0], .bool false]
end Go.Proofs.YtoplmbboaobahaaDoor
