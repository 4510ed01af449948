/-
  The walks of number's smallest functions: intOf, fault, turned, calculated; of and whole.
-/
import Derived.Test.YtoplmbboaobahaaDoorA
namespace Go.Proofs.YtoplmbboaobahaaDoor
open Go.RowKit

attribute [local go_sem] b28_0 b28_01 b28_012 b28_013 b28_014 b35_01 b35_0 b35 mkI69

set_option maxRecDepth 100000 in
set_option maxHeartbeats 1000000 in
theorem intOf_any (t : ByteArray) (n : Int) (w : World) (ht : t.size ≤ 140737488351232) :
    Calls Tryd.prog 35 #[.string t, .int .i64 n] w fun r w' => r = .returned (dat 2 t n 0 ⟨#[]⟩) ∧ Below w.heap.size w w' := by
  go_enter Tryd.func35, Tryd.ntmps35
  go_wp2_with (go_at_call 69; refine (clone_any _ _ ht).mono ?_; rintro r w' ⟨rfl, hb⟩; obtain ⟨hc, hf⟩ := bcell hb; have hz : w.heap.size < w'.heap.size := by (have := hb.size; simp at this; omega))
  refine bodyPost_ret (v := dat 2 t n 0 ⟨#[]⟩) (by simp [results, Tryd.results35, go_sem, hc, dat, D]) rfl ⟨rfl, ?_⟩
  exact bset ((below1 w _).trans (hb.mono (by simp))) (Nat.le_refl _) _ _ _ _ _ _ _ _ _ _ _

set_option maxRecDepth 100000 in
set_option maxHeartbeats 1000000 in
/-- A new fault. -/
theorem fault_any (a b : ByteArray) (w : World) :
    Calls Tryd.prog 38 #[.string a, .string b] w fun r w' => r = .returned (.iface 69 (.pointer (some ⟨w.heap.size, 0, none⟩))) ∧ w' = w.alloc (.cells #[.string a, .string b] 35) := by
  go_enter Tryd.func38, Tryd.ntmps38
  go_wp2
  go_ret
  exact ⟨rfl, rfl⟩

set_option maxRecDepth 100000 in
set_option maxHeartbeats 1000000 in
theorem of_any (t : ByteArray) (n : Int) (w : World) :
    Calls Tryd.prog 31 #[.string t, .int .i64 n] w fun r w' => r = .returned (dat 2 t n 0 ⟨#[]⟩) ∧ Below w.heap.size w w' := by
  go_enter Tryd.func31, Tryd.ntmps31
  go_wp2
  refine bodyPost_ret (v := dat 2 t n 0 ⟨#[]⟩) (by simp [results, Tryd.results31, go_sem, dat, D]) rfl ⟨rfl, ?_⟩
  exact bset (below1 w _) (Nat.le_refl _) _ _ _ _ _ _ _ _ _ _ _

set_option maxRecDepth 100000 in
set_option maxHeartbeats 1000000 in
theorem whole_any (n : Int) (w : World) :
    Calls Tryd.prog 33 #[.int .i64 n] w fun r w' => r = .returned (dat 2 ⟨#[105, 110, 116]⟩ n 0 ⟨#[]⟩) ∧ Below w.heap.size w w' := by
  go_enter Tryd.func33, Tryd.ntmps33
  go_wp2
  refine bodyPost_ret (v := dat 2 ⟨#[105, 110, 116]⟩ n 0 ⟨#[]⟩) (by simp [results, Tryd.results33, go_sem, dat, D]) rfl ⟨rfl, ?_⟩
  exact bset (below1 w _) (Nat.le_refl _) _ _ _ _ _ _ _ _ _ _ _

/-- The remainder that an int keeps. -/
def wr (x : Int) : Int := (x + 9223372036854775808) % 18446744073709551616 - 9223372036854775808

theorem turned_neg (a : Int) (w : World) : Calls Tryd.prog 36 #[.string ⟨#[45]⟩, .int .i64 a] w fun r w' => r = .returned (.int .i64 (wr (-a))) ∧ w' = w := by
  go_enter Tryd.func36, Tryd.ntmps36
  go_wp2
  go_ret
  exact ⟨rfl, rfl⟩

theorem turned_xor (a : Int) (w : World) : Calls Tryd.prog 36 #[.string ⟨#[94]⟩, .int .i64 a] w fun r w' => r = .returned (.int .i64 (bits BinOp.xor .i64 (-1) a)) ∧ w' = w := by
  go_enter Tryd.func36, Tryd.ntmps36
  go_wp2
  · go_ret
    exact ⟨rfl, rfl⟩
  all_goals exact absurd ‹IntKind.i64.signed = false› (by decide)

/-- The operations of ints. -/
inductive IOp | add | sub | mul | quo | rem | and | or | xor | shl | shr

namespace IOp
def txt : IOp → ByteArray
  | add => ⟨#[43]⟩ | sub => ⟨#[45]⟩ | mul => ⟨#[42]⟩ | quo => ⟨#[47]⟩ | rem => ⟨#[37]⟩ | and => ⟨#[38]⟩ | or => ⟨#[124]⟩ | xor => ⟨#[94]⟩ | shl => ⟨#[60, 60]⟩ | shr => ⟨#[62, 62]⟩
def val : IOp → Int → Int → Int
  | add, a, b => wr (a + b) | sub, a, b => wr (a - b) | mul, a, b => wr (a * b) | quo, a, b => wr (a.tdiv b) | rem, a, b => a.tmod b
  | and, a, b => bits BinOp.and .i64 a b | or, a, b => bits BinOp.or .i64 a b | xor, a, b => bits BinOp.xor .i64 a b
  | shl, a, b => wr (a * 2 ^ (min b.toNat 64)) | shr, a, b => a.fdiv (2 ^ (min b.toNat 64))
def ok : IOp → Int → Prop
  | quo, b => b ≠ 0 | rem, b => b ≠ 0 | shl, b => 0 ≤ b ∧ b ≤ 9223372036854775807 | shr, b => 0 ≤ b ∧ b ≤ 9223372036854775807 | _, _ => True
end IOp

theorem wrap_u64 (b : Int) (h0 : 0 ≤ b) (h1 : b ≤ 18446744073709551615) : IntKind.u64.wrap b = b := by
  simp [IntKind.wrap, IntKind.bits, IntKind.signed]; omega
theorem wrap_i64 (x : Int) : IntKind.i64.wrap x = wr x := by
  simp [IntKind.wrap, IntKind.bits, IntKind.signed, wr]; split <;> omega

theorem run_shl {P : Program} (a b : Int) (w : World) (h0 : 0 ≤ b) (h1 : b ≤ 9223372036854775807) : (Op.shift .shl .i64 a .u64 (IntKind.u64.wrap b)).run P w = .ok (.int .i64 (wr (a * 2 ^ (min b.toNat 64)))) w := by
  rw [wrap_u64 b h0 (by omega)]
  simp [Op.shift, show ¬ b < 0 by omega, wrap_i64, IntKind.bits]
theorem run_shr {P : Program} (a b : Int) (w : World) (h0 : 0 ≤ b) (h1 : b ≤ 9223372036854775807) : (Op.shift .shr .i64 a .u64 (IntKind.u64.wrap b)).run P w = .ok (.int .i64 (a.fdiv (2 ^ (min b.toNat 64)))) w := by
  rw [wrap_u64 b h0 (by omega)]
  simp [Op.shift, show ¬ b < 0 by omega, IntKind.bits]

set_option maxRecDepth 100000 in
set_option maxHeartbeats 1000000 in
theorem calculated_any (o : IOp) (a b : Int) (w : World) (h : o.ok b) :
    Calls Tryd.prog 72 #[.string o.txt, .int .i64 a, .int .i64 b] w fun r w' => r = .returned (.int .i64 (o.val a b)) ∧ w' = w := by
  cases o
  case shl =>
    have hs := fun W => run_shl (P := Tryd.prog) a b W h.1 h.2
    simp only [IOp.txt]
    go_enter Tryd.func72, Tryd.ntmps72
    go_wp2
    go_ret
    exact ⟨rfl, rfl⟩
  case shr =>
    have hs := fun W => run_shr (P := Tryd.prog) a b W h.1 h.2
    simp only [IOp.txt]
    go_enter Tryd.func72, Tryd.ntmps72
    go_wp2
    go_ret
    exact ⟨rfl, rfl⟩
  case quo =>
    have hb : b ≠ 0 := h
    simp only [IOp.txt]
    go_enter Tryd.func72, Tryd.ntmps72
    go_wp2
    go_ret
    exact ⟨rfl, rfl⟩
  case rem =>
    have hb : b ≠ 0 := h
    simp only [IOp.txt]
    go_enter Tryd.func72, Tryd.ntmps72
    go_wp2
    go_ret
    exact ⟨rfl, rfl⟩
  all_goals
    clear h
    simp only [IOp.txt]
    go_enter Tryd.func72, Tryd.ntmps72
    go_wp2
    go_ret
    exact ⟨rfl, rfl⟩
end Go.Proofs.YtoplmbboaobahaaDoor
