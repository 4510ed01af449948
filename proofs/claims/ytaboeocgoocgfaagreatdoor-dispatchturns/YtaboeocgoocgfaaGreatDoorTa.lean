/-
  The walks of errors.As, errors.Is and told.
-/
import Derived.Test.YtaboeocgoocgfaaGreatDoorTo
import Derived.Handy
namespace Go.Proofs.YtaboeocgoocgfaaGreatDoor
open Go.RowKit Go.Extern.Stop Go.Stop Go.Extern

/-- What errors.As leaves in memory. -/
def asW (e t : Addr) (w : World) : World :=
  ((((w.alloc (.cells #[.pointer (some t)] 44)).alloc (.cells #[hnd 44, .pointer (some ⟨w.heap.size, 0, none⟩), .int .u64 150] 82)).alloc (.cells #[hnd 44, .pointer (some ⟨w.heap.size, 0, none⟩), .int .u64 150] 82)).alloc (.cells #[.pointer (some e)] 42)).setCell t (.pointer (some e))

set_option maxRecDepth 100000 in
set_option maxHeartbeats 4000000 in
theorem as_any (e t : Addr) (old : Value) (w : World) (hg : w.cell? ⟨0, 0, none⟩ = some (.iface 126 (.agg #[hnd 25]))) (h0 : 0 < w.heap.size) (htl : t.block < w.heap.size) (ht0 : w.cell? t = some old) (hf0 : w.frozen? t = false) :
    Calls Tryz.prog 13 #[.iface 42 (.pointer (some e)), .iface 44 (.pointer (some t))] w fun ev w' => ev = .returned (.bool true) ∧ w' = asW e t w := by
  have x55 := @run_callFunc_extern Tryz.prog 26 _ (fun args => ReflectliteValue.unpack (args.getD 0 (.tuple #[]))) Tryz.func26 (by kernel_rfl) (by kernel_rfl) (by kernel_rfl) (by kernel_rfl)
  have x56 := @run_callFunc_extern Tryz.prog 27 _ (ReflectliteValue.methodAny (ReflectliteValue.valueError "reflectlite.Value.Type" 0) (fun t _ _ _ => ReflectliteType.toType t)) Tryz.func27 (by kernel_rfl) (by kernel_rfl) (by kernel_rfl) (by kernel_rfl)
  have x57 := @run_callFunc_extern Tryz.prog 28 _ (ReflectliteValue.method (ReflectliteValue.valueError "reflectlite.Value.IsNil" 0) ReflectliteValue.isNil) Tryz.func28 (by kernel_rfl) (by kernel_rfl) (by kernel_rfl) (by kernel_rfl)
  have x207 := @run_callFunc_extern Tryz.prog 163 _ (ReflectliteType.abiMethod fun t => do pure (.int .u8 (← Rtype.kind t))) Tryz.func163 (by kernel_rfl) (by kernel_rfl) (by kernel_rfl) (by kernel_rfl)
  have x219 := @run_callFunc_extern Tryz.prog 178 _ (ReflectliteType.method ReflectliteType.elem) Tryz.func178 (by kernel_rfl) (by kernel_rfl) (by kernel_rfl) (by kernel_rfl)
  have x220 := @run_callFunc_extern Tryz.prog 179 _ (ReflectliteType.relation "Implements" ReflectliteType.implements_) Tryz.func179 (by kernel_rfl) (by kernel_rfl) (by kernel_rfl) (by kernel_rfl)
  have x61 := @run_callFunc_extern Tryz.prog 50 _ ReflectliteType.typeOf Tryz.func50 (by kernel_rfl) (by kernel_rfl) (by kernel_rfl) (by kernel_rfl)
  have x217 := @run_callFunc_extern Tryz.prog 176 _ (ReflectliteType.relation "AssignableTo" ReflectliteType.assignableTo) Tryz.func176 (by kernel_rfl) (by kernel_rfl) (by kernel_rfl) (by kernel_rfl)
  have x93 := @run_callFunc_extern Tryz.prog 51 _ (ReflectliteValue.method (ReflectliteValue.valueError "reflectlite.Value.Elem" 0) ReflectliteValue.elem) Tryz.func51 (by kernel_rfl) (by kernel_rfl) (by kernel_rfl) (by kernel_rfl)
  have x94 := @run_callFunc_extern Tryz.prog 52 _ ReflectliteValue.set Tryz.func52 (by kernel_rfl) (by kernel_rfl) (by kernel_rfl) (by kernel_rfl)
  have y1 := rf_value69
  have y2 := rf_value67
  have y3 := rf_type69
  have y4 := rf_kind69
  have y5 := rf_kind67
  have y6 := rf_elem69
  have y7 := rf_impl67
  have y8 := rf_typeOf67
  have y9 := rf_assign67
  have z1 := rf_isNil69 ⟨w.heap.size, 0, none⟩ t ((w.alloc (.cells #[.pointer (some t)] 44)).alloc (.cells #[hnd 44, .pointer (some ⟨w.heap.size, 0, none⟩), .int .u64 150] 82)) (by simp)
  have hg2 : ((w.alloc (.cells #[.pointer (some t)] 44)).alloc (.cells #[hnd 44, .pointer (some ⟨w.heap.size, 0, none⟩), .int .u64 150] 82)).cell? ⟨0, 0, none⟩ = some (.iface 126 (.agg #[hnd 25])) :=
    ((below2 w _ _).cell (p := ⟨0, 0, none⟩) h0).trans hg
  have hb4 : Below w.heap.size w ((((w.alloc (.cells #[.pointer (some t)] 44)).alloc (.cells #[hnd 44, .pointer (some ⟨w.heap.size, 0, none⟩), .int .u64 150] 82)).alloc (.cells #[hnd 44, .pointer (some ⟨w.heap.size, 0, none⟩), .int .u64 150] 82)).alloc (.cells #[.pointer (some e)] 42)) := ((below2 w _ _).alloc (by simp; omega) _).alloc (by simp; omega) _
  have z2 := rf_elemV69 ⟨w.heap.size, 0, none⟩ t (((w.alloc (.cells #[.pointer (some t)] 44)).alloc (.cells #[hnd 44, .pointer (some ⟨w.heap.size, 0, none⟩), .int .u64 150] 82)).alloc (.cells #[hnd 44, .pointer (some ⟨w.heap.size, 0, none⟩), .int .u64 150] 82))
    (((below2 (w.alloc (.cells #[.pointer (some t)] 44)) _ _).cell (p := ⟨w.heap.size, 0, none⟩) (by simp)).trans (by simp))
  have z3 := rf_set67 t ⟨w.heap.size + 1 + 1 + 1, 0, none⟩ e old ((((w.alloc (.cells #[.pointer (some t)] 44)).alloc (.cells #[hnd 44, .pointer (some ⟨w.heap.size, 0, none⟩), .int .u64 150] 82)).alloc (.cells #[hnd 44, .pointer (some ⟨w.heap.size, 0, none⟩), .int .u64 150] 82)).alloc (.cells #[.pointer (some e)] 42))
    (by rw [World.cell?_alloc_at _ _ _ _ (by simp)]; rfl) ((hb4.cell htl).trans ht0) ((hb4.frozen htl).trans hf0)
  clear hb4
  go_enter Tryz.func13, Tryz.ntmps13
  go_wp2
  refine wp_loop_rounds 1 ?_
  rw [rounds_succ]
  go_wp2
  go_ret
  exact ⟨rfl, rfl⟩

end Go.Proofs.YtaboeocgoocgfaaGreatDoor
