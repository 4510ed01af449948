/-
  Equal, at any two data; what the law's wrong and told say of its errors.
-/
import Derived.Test.YtnhbpcmiolkllaaDoorEb2
import Derived.Test.YtnhbpcmiolkllaaDoorVa
import Derived.Test.YtnhbpcmiolkllaaDoorV
namespace Go.Proofs.YtnhbpcmiolkllaaDoor
open Go.RowKit
attribute [local go_sem] refold2 cell3_0 cell3_1 b28_0 b28_01

theorem b83_0 (k : Int) (w : World) : (Instr.build 83 #[(0, .int .i64 k)]).run Tryd.prog w = .ok (.agg #[.int .i64 k, .int .i64 0, .string ⟨#[]⟩]) w := run_build w 83 _ _ (by kernel_rfl)
theorem wrong_any (w : World) :
    Calls Tryd.prog 34 #[] w fun r w' => r = .returned (.iface 79 (.pointer (some ⟨w.heap.size, 0, none⟩))) ∧ w' = w.alloc (.cells #[.int .i64 1, .int .i64 0, .string ⟨#[]⟩] 83) := by
  have hb := b83_0
  go_enter Tryd.func34, Tryd.ntmps34
  go_wp2
  go_ret
  exact ⟨rfl, rfl⟩
theorem ta79 (v : Value) (w : World) : (Instr.typeAssert (.iface 79 v) 36 79 true).run Tryd.prog w = .ok (.tuple #[v, .bool true]) w := by
  simp [Instr.typeAssert, go_sem]
set_option maxRecDepth 100000 in
set_option maxHeartbeats 2000000 in
theorem wrong_hit (n : Nat) (w : World) (hn : w.heap[n]? = some (.cells #[.int .i64 1, .int .i64 0, .string ⟨#[]⟩] 83 (0, 0))) :
    Calls Tryd.prog 16 #[.iface 79 (.pointer (some ⟨n, 0, none⟩))] w fun r w' => r = .returned (.bool true) ∧ Below w.heap.size w w' := by
  have hc0 : w.cell? ⟨n, 0, none⟩ = some (.int .i64 1) := by simp [World.cell?, hn]
  have hc1 : w.cell? ⟨n, 1, none⟩ = some (.int .i64 0) := by simp [World.cell?, hn]
  have hc2 : w.cell? ⟨n, 2, none⟩ = some (.string ⟨#[]⟩) := by simp [World.cell?, hn]
  have hta := ta79
  have hb := b83_0
  clear hn
  go_enter Tryd.func16, Tryd.ntmps16
  go_wp2
  go_ret
  exact ⟨rfl, Below.refl _ _⟩
set_option maxRecDepth 100000 in
set_option maxHeartbeats 2000000 in
theorem told_none (w : World) :
    Calls Tryd.prog 24 #[.nilIface, .agg #[.string ⟨#[]⟩, .string ⟨#[]⟩]] w fun r w' => r = .returned (.bool true) ∧ Below w.heap.size w w' := by
  go_enter Tryd.func24, Tryd.ntmps24
  go_wp2
  go_ret
  exact ⟨rfl, below1 _ _⟩
end Go.Proofs.YtnhbpcmiolkllaaDoor
