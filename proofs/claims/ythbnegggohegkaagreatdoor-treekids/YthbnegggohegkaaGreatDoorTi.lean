/-
  The walk of errors.Is.
-/
import Derived.Test.YthbnegggohegkaaGreatDoorTa
import Derived.Lib.IfaceEq
namespace Go.Proofs.YthbnegggohegkaaGreatDoor
open Go.RowKit Go.Extern.Stop Go.Stop Go.Extern

theorem rf_typeOf26 (v : Value) (W : World) : (ReflectliteType.typeOf #[.iface 26 v]).run Tryz.prog W = .ok (.iface 129 (.agg #[hnd 26])) W := by kernel_rfl

theorem rf_comp26 (W : World) : (callFunc 218 #[.agg #[hnd 26]]).run Tryz.prog W = .ok (.value (.bool true)) W :=
  (@run_callFunc_extern Tryz.prog 218 _ (ReflectliteType.method fun t => do Rtype.noPackHeld "Comparable" t; pure (.bool (← typeInfo t).comparable)) Tryz.func218 (by kernel_rfl) (by kernel_rfl) (by kernel_rfl) (by kernel_rfl) _ W).trans (by kernel_rfl)
theorem no_Is67 (v : Value) (xT : TypeId) (W : World) : (Instr.typeAssert (.iface 67 v) xT 142 true).run Tryz.prog W = .ok (.tuple #[.nilIface, .bool false]) W := run_typeAssert_lacksB Tryz.underlying142 (by kernel_rfl) (by kernel_rfl) v xT W
theorem has_Unwrap67 (v : Value) (xT : TypeId) (W : World) : (Instr.typeAssert (.iface 67 v) xT 136 true).run Tryz.prog W = .ok (.tuple #[.iface 67 v, .bool true]) W := run_typeAssert_hasB Tryz.underlying136 (by kernel_rfl) v xT W
theorem eq_67_26 (u v : Value) (W : World) : (binOp .eql 33 (.iface 67 u) (.iface 26 v)).run Tryz.prog W = .ok (.bool false) W := by
  have h : ∀ d : Nat, (Op.equalIn (d + 1) 33 (.iface 67 u) (.iface 26 v)).run Tryz.prog W = .ok false W := fun d => by simp [Op.equalIn, run_underlying Tryz.underlying33]
  simp only [binOp]
  simp [Op.equal, Op.maxDepth, h 9999]
theorem eq_26 (a : Int) (W : World) : (binOp .eql 33 (.iface 26 (.int .i64 a)) (.iface 26 (.int .i64 a))).run Tryz.prog W = .ok (.bool true) W := by
  have := Lib.run_eql_iface_int (P := Tryz.prog) W (t := 33) (tx := 26) (k := .i64) a a Tryz.underlying33 (by kernel_rfl) Tryz.underlying26
  rw [this]; simp

set_option maxRecDepth 100000 in
set_option maxHeartbeats 4000000 in
theorem is_any (B : Nat) (code a : Int) (s : ByteArray) (w : World) (hw : w.heap[B]? = some (.cells #[.int .i64 code, .int .i64 a, .string s] 28 (0, 0))) :
    Calls Tryz.prog 40 #[.iface 67 (.pointer (some ⟨B, 0, none⟩)), .iface 26 (.int .i64 code)] w fun ev w' => ev = .returned (.bool true) ∧ w' = w := by
  have c0 : w.cell? ⟨B, 0, none⟩ = some (.int .i64 code) := cell_row hw 0
  have x61 := @run_callFunc_extern Tryz.prog 61 _ ReflectliteType.typeOf Tryz.func61 (by kernel_rfl) (by kernel_rfl) (by kernel_rfl) (by kernel_rfl)
  have y1 := rf_typeOf26
  have y2 := rf_comp26
  have y3 := no_Is67
  have y4 := has_Unwrap67
  have y5 := eq_67_26
  have y6 := eq_26
  go_enter Tryz.func40, Tryz.ntmps40
  go_wp2
  refine wp_loop_rounds 2 ?_
  rw [rounds_succ]
  go_wp2
  rw [rounds_succ]
  have e2 : #[Value.pointer (some ⟨B, 0, none⟩), undef, .iface 26 (.int .i64 code), .pointer (some ⟨B, 0, none⟩), .pointer (some ⟨B, 0, none⟩), .pointer (some ⟨B, 0, none⟩), .int .i64 code, .iface 26 (.int .i64 code)].getD 2 undef = .iface 26 (.int .i64 code) := rfl
  rw [e2]
  go_wp2
  go_ret
  exact ⟨rfl, rfl⟩
end Go.Proofs.YthbnegggohegkaaGreatDoor
