/-
  The walks of holds, boolOf and inOrder.
-/
import Derived.Test.YtoplmbboaobahaaDoorG
import Derived.Test.YtoplmbboaobahaaDoorC
import Derived.WalkLawsBesides
namespace Go.Proofs.YtoplmbboaobahaaDoor
open Go.RowKit

attribute [local go_sem] refold2 cell3_0 cell3_1 b28_0 b28_01 b28_012 b28_013 b28_014 b35_01 b35_0 b35 mkI69 x56 x57

/-- The comparisons. -/
inductive COp | lt | le | gt | ge

namespace COp
def txt : COp → ByteArray
  | lt => ⟨#[60]⟩ | le => ⟨#[60, 61]⟩ | gt => ⟨#[62]⟩ | ge => ⟨#[62, 61]⟩
def iv : COp → Int → Int → Bool
  | lt, a, b => decide (a < b) | le, a, b => decide (a ≤ b) | gt, a, b => decide (b < a) | ge, a, b => decide (b ≤ a)
def fv : COp → Option Ordering → Bool
  | lt, c => c == some .lt | le, c => c == some .lt || c == some .eq | gt, c => c == some .gt | ge, c => c == some .gt || c == some .eq
def sv : COp → List UInt8 → List UInt8 → Bool
  | lt, a, b => Op.bytesLess a b | le, a, b => Op.bytesLess a b || a == b | gt, a, b => !Op.bytesLess a b && !a == b | ge, a, b => !(Op.bytesLess a b)
end COp

set_option maxHeartbeats 1000000 in
theorem holds_int (o : COp) (a b : Int) (w : World) : Calls Tryd.prog 73 #[.string o.txt, .int .i64 a, .int .i64 b] w fun r w' => r = .returned (.bool (o.iv a b)) ∧ w' = w := by
  cases o <;> simp only [COp.txt]
  all_goals
    go_enter Tryd.func73, Tryd.ntmps73
    go_wp2
    go_ret
    exact ⟨rfl, rfl⟩

set_option maxHeartbeats 1000000 in
theorem holds_str (o : COp) (a b : ByteArray) (w : World) : Calls Tryd.prog 75 #[.string o.txt, .string a, .string b] w fun r w' => r = .returned (.bool (o.sv a.toList b.toList)) ∧ w' = w := by
  cases o <;> simp only [COp.txt]
  all_goals
    go_enter Tryd.func75, Tryd.ntmps75
    go_wp2
    go_ret
    exact ⟨rfl, rfl⟩

set_option maxHeartbeats 1000000 in
theorem holds_flt (o : COp) (a b : Nat) (w : World) : Calls Tryd.prog 74 #[.string o.txt, .float .f64 a, .float .f64 b] w fun r w' => r = .returned (.bool (o.fv (Ieee.double.order a b))) ∧ w' = w := by
  cases o <;> simp only [COp.txt]
  all_goals
    go_enter Tryd.func74, Tryd.ntmps74
    go_wp2
    go_ret
    exact ⟨rfl, rfl⟩

/-- A bool's number. -/
def b01 (b : Bool) : Int := if b then 1 else 0

set_option maxRecDepth 100000 in
set_option maxHeartbeats 1000000 in
theorem boolOf_any (t : ByteArray) (b : Bool) (w : World) (ht : t.size ≤ 140737488351232) :
    Calls Tryd.prog 37 #[.string t, .bool b] w fun r w' => r = .returned (dat 1 t (b01 b) 0 ⟨#[]⟩) ∧ Below w.heap.size w w' := by
  cases b
  · simp only [show b01 false = 0 from rfl, dat, D]
    go_enter Tryd.func37, Tryd.ntmps37
    go_wp2_with (go_at_call 69; refine (clone_any _ _ ht).mono ?_; rintro r w' ⟨rfl, hb⟩; obtain ⟨hc, hf⟩ := bcell hb; have hz : w.heap.size < w'.heap.size := by (have := hb.size; simp at this; omega))
    refine bodyPost_ret (v := .agg #[.int .i64 1, .string t, .int .i64 0, .int .u64 0, .string ⟨#[]⟩, .int .i64 0, .int .i64 0, .int .i64 0, .int .i64 0, .slice none 0 0, .slice none 0 0]) (by simp [results, Tryd.results37, go_sem, hc, hz]) rfl ⟨rfl, ?_⟩
    have hbb := bset ((below1 w _).trans (hb.mono (by simp))) (Nat.le_refl w.heap.size) (.int .i64 1) (.string t) (.int .i64 0) (.int .u64 0) (.string ⟨#[]⟩) (.int .i64 0) (.int .i64 0) (.int .i64 0) (.int .i64 0) (.slice none 0 0) (.slice none 0 0)
    exact hbb.alloc hbb.size _
  · simp only [show b01 true = 1 from rfl, dat, D]
    go_enter Tryd.func37, Tryd.ntmps37
    go_wp2_with (go_at_call 69; refine (clone_any _ _ ht).mono ?_; rintro r w' ⟨rfl, hb⟩; obtain ⟨hc, hf⟩ := bcell hb; have hz : w.heap.size < w'.heap.size := by (have := hb.size; simp at this; omega))
    refine bodyPost_ret (v := .agg #[.int .i64 1, .string t, .int .i64 1, .int .u64 0, .string ⟨#[]⟩, .int .i64 0, .int .i64 0, .int .i64 0, .int .i64 0, .slice none 0 0, .slice none 0 0]) (by simp [results, Tryd.results37, go_sem, hc, hz]) rfl ⟨rfl, ?_⟩
    have hbb := bset ((below1 w _).trans (hb.mono (by simp))) (Nat.le_refl w.heap.size) (.int .i64 1) (.string t) (.int .i64 1) (.int .u64 0) (.string ⟨#[]⟩) (.int .i64 0) (.int .i64 0) (.int .i64 0) (.int .i64 0) (.slice none 0 0) (.slice none 0 0)
    exact hbb.alloc hbb.size _
end Go.Proofs.YtoplmbboaobahaaDoor
