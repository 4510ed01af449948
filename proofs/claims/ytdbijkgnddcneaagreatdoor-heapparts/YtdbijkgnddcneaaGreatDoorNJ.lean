/-
  .
  .
-/
import Derived.Test.YtdbijkgnddcneaaGreatDoorIJ
import Derived.Stop.Asserts
namespace Go.Proofs.YtdbijkgnddcneaaGreatDoor
open Go.RowKit
set_option maxHeartbeats 2000000
attribute [local go_sem] refold2 cell3_0 cell3_1 b28_0 b28_01
theorem fault_any (x y : ByteArray) (w : World) :
  Calls Tryz.prog 83 #[.string x, .string y] w fun r w' => r = .returned (.iface 139 (.pointer (some ⟨w.heap.size, 0, none⟩))) ∧ w' = w.alloc (.cells #[.string x, .string y] 141) := by
 go_enter Tryz.func83, Tryz.ntmps83
 go_wp2
 go_ret
 exact ⟨rfl, rfl⟩
theorem taE5r (v : Value) (w : World) : (Instr.typeAssert (.iface 304 v) 257 262 true).run Tryz.prog w = .ok (.tuple #[.agg #[.pointer none], .bool false]) w := by kernel_rfl
theorem taE5f (v : Value) (w : World) : (Instr.typeAssert (.iface 304 v) 257 266 true).run Tryz.prog w = .ok (.tuple #[.agg #[.pointer none], .bool false]) w := by kernel_rfl
theorem taE5k (v : Value) (w : World) : (Instr.typeAssert (.iface 304 v) 257 268 true).run Tryz.prog w = .ok (.tuple #[.nilIface, .bool false]) w := run_typeAssert_lacksB Tryz.underlying268 (by kernel_rfl) (by kernel_rfl) v 257 w
theorem taE6r (v : Value) (w : World) : (Instr.typeAssert (.iface 305 v) 257 262 true).run Tryz.prog w = .ok (.tuple #[.agg #[.pointer none], .bool false]) w := by kernel_rfl
theorem taE6f (v : Value) (w : World) : (Instr.typeAssert (.iface 305 v) 257 266 true).run Tryz.prog w = .ok (.tuple #[.agg #[.pointer none], .bool false]) w := by kernel_rfl
theorem taE6k (v : Value) (w : World) : (Instr.typeAssert (.iface 305 v) 257 268 true).run Tryz.prog w = .ok (.tuple #[.nilIface, .bool false]) w := run_typeAssert_lacksB Tryz.underlying268 (by kernel_rfl) (by kernel_rfl) v 257 w
theorem taE7r (v : Value) (w : World) : (Instr.typeAssert (.iface 306 v) 257 262 true).run Tryz.prog w = .ok (.tuple #[.agg #[.pointer none], .bool false]) w := by kernel_rfl
theorem taE7f (v : Value) (w : World) : (Instr.typeAssert (.iface 306 v) 257 266 true).run Tryz.prog w = .ok (.tuple #[.agg #[.pointer none], .bool false]) w := by kernel_rfl
theorem taE7k (v : Value) (w : World) : (Instr.typeAssert (.iface 306 v) 257 268 true).run Tryz.prog w = .ok (.tuple #[.nilIface, .bool false]) w := run_typeAssert_lacksB Tryz.underlying268 (by kernel_rfl) (by kernel_rfl) v 257 w
attribute [local go_sem] taE5r taE5f taE5k taE6r taE6f taE6k taE7r taE7f taE7k
end Go.Proofs.YtdbijkgnddcneaaGreatDoor
namespace Go.Proofs.YtdbijkgnddcneaaGreatDoor
open Go.RowKit
attribute [local go_sem] refold2 cell3_0 cell3_1 b28_0 b28_01
theorem one_kept (w : World) (c : Array Value) (W : World) (h : Below (w.alloc (.cells c 32)).heap.size (w.alloc (.cells c 32)) W) : ∀ j, W.cell? ⟨w.heap.size, j, none⟩ = c[j]? := fun j =>
 row_at ((h.block w.heap.size (by simp)).trans (heap_alloc_new _ _)) j
theorem two_kept (w : World) (c d : Array Value) (W : World) (h : Below ((w.alloc (.cells c 32)).alloc (.cells d 32)).heap.size ((w.alloc (.cells c 32)).alloc (.cells d 32)) W) :
  (∀ j, W.cell? ⟨w.heap.size, j, none⟩ = c[j]?) ∧ (∀ j, W.cell? ⟨w.heap.size + 1, j, none⟩ = d[j]?) :=
 ⟨fun j => row_at ((h.block w.heap.size (by simp; omega)).trans ((Below.heap_alloc _ _ _ (by simp)).trans (heap_alloc_new _ _))) j, fun j => row_at ((h.block (w.heap.size + 1) (by simp)).trans (heap2_1 _ _ _)) j⟩
theorem ne_empty {t : ByteArray} (h : t.size ≠ 0) : t.toList.isEmpty = false := by
 rw [Lib.toList_data]
 cases e : t.data.toList with
 | nil => exact absurd (by rw [Lib.size_eq, e]; rfl) h
 | cons a l => rfl
end Go.Proofs.YtdbijkgnddcneaaGreatDoor
