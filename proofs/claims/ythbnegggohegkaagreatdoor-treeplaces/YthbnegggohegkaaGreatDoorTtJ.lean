/-
  The walk of errors.Is.
  The walk of told, at a Wrong.
-/
import Derived.Test.YthbnegggohegkaaGreatDoorTa
import Derived.Lib.IfaceEq
namespace Go.Proofs.YthbnegggohegkaaGreatDoor
open Go.RowKit Go.Extern.Stop Go.Stop Go.Extern

theorem rf_typeOf26 (v : Value) (W : World) : (ReflectliteType.typeOf #[.iface 26 v]).run Tryz.prog W = .ok (.iface 129 (.agg #[hnd 26])) W := by kernel_rfl

theorem rf_comp26 (W : World) : (callFunc 218 #[.agg #[hnd 26]]).run Tryz.prog W = .ok (.value (.bool true)) W :=
  (@run_callFunc_extern Tryz.prog 218 _ (ReflectliteType.method fun t => do Rtype.noPackHeld "Comparable" t; pure (.bool (← typeInfo t).comparable)) Tryz.func218 (by kernel_rfl) (by kernel_rfl) (by kernel_rfl) (by kernel_rfl) _ W).trans (by kernel_rfl)
theorem no_Is67 (v : Value) (xT : TypeId) (W : World) : (Instr.typeAssert (.iface 67 v) xT 142 true).run Tryz.prog W = .ok (.tuple #[.nilIface, .bool false]) W := run_typeAssert_lacksB Tryz.underlying142 (by kernel_rfl) (by kernel_rfl) v xT W
theorem has_Unwrap67 (v : Value) (xT : TypeId) (W : World) : (Instr.typeAssert (.iface 67 v) xT 136 true).run Tryz.prog W = .ok (.tuple #[.iface 67 v, .bool true]) W := run_typeAssert_hasB Tryz.underlying136 (by kernel_rfl) v xT W
theorem eq_67_26 (u v : Value) (W : World) : (binOp .eql 33 (.iface 67 u) (.iface 26 v)).run Tryz.prog W = .ok (.bool false) W := by
  have h : ∀ d : Nat, (Op.equalIn (d + 1) 33 (.iface 67 u) (.iface 26 v)).run Tryz.prog W = .ok false W := fun d => by simp [Op.equalIn, run_underlying Tryz.underlying33]
  simp only [binOp]
  simp [Op.equal, Op.maxDepth, h 9999]
theorem eq_26 (a : Int) (W : World) : (binOp .eql 33 (.iface 26 (.int .i64 a)) (.iface 26 (.int .i64 a))).run Tryz.prog W = .ok (.bool true) W := by
  have := Lib.run_eql_iface_int (P := Tryz.prog) W (t := 33) (tx := 26) (k := .i64) a a Tryz.underlying33 (by kernel_rfl) Tryz.underlying26
  rw [this]; simp

set_option maxRecDepth 100000 in
set_option maxHeartbeats 4000000 in
theorem is_any (B : Nat) (code a : Int) (s : ByteArray) (w : World) (hw : w.heap[B]? = some (.cells #[.int .i64 code, .int .i64 a, .string s] 28 (0, 0))) :
    Calls Tryz.prog 40 #[.iface 67 (.pointer (some ⟨B, 0, none⟩)), .iface 26 (.int .i64 code)] w fun ev w' => ev = .returned (.bool true) ∧ w' = w := by
  have c0 : w.cell? ⟨B, 0, none⟩ = some (.int .i64 code) := cell_row hw 0
  have x61 := @run_callFunc_extern Tryz.prog 61 _ ReflectliteType.typeOf Tryz.func61 (by kernel_rfl) (by kernel_rfl) (by kernel_rfl) (by kernel_rfl)
  have y1 := rf_typeOf26
  have y2 := rf_comp26
  have y3 := no_Is67
  have y4 := has_Unwrap67
  have y5 := eq_67_26
  have y6 := eq_26
  go_enter Tryz.func40, Tryz.ntmps40
  go_wp2
  refine wp_loop_rounds 2 ?_
  rw [rounds_succ]
  go_wp2
  rw [rounds_succ]
  have e2 : #[Value.pointer (some ⟨B, 0, none⟩), undef, .iface 26 (.int .i64 code), .pointer (some ⟨B, 0, none⟩), .pointer (some ⟨B, 0, none⟩), .pointer (some ⟨B, 0, none⟩), .int .i64 code, .iface 26 (.int .i64 code)].getD 2 undef = .iface 26 (.int .i64 code) := rfl
  rw [e2]
  go_wp2
  go_ret
  exact ⟨rfl, rfl⟩
end Go.Proofs.YthbnegggohegkaaGreatDoor
namespace Go.Proofs.YthbnegggohegkaaGreatDoor
open Go.RowKit

theorem asW_cell (e t : Addr) (w : World) (h : (w.cell? t).isSome) (hl : t.block < w.heap.size) : (asW e t w).cell? t = some (.pointer (some e)) := by
  have hb := (((below2 w (.cells #[.pointer (some t)] 69) (.cells #[hnd 69, .pointer (some ⟨w.heap.size, 0, none⟩), .int .u64 150] 102)).alloc (by simp; omega) (.cells #[hnd 69, .pointer (some ⟨w.heap.size, 0, none⟩), .int .u64 150] 102)).alloc (by simp; omega) (.cells #[.pointer (some e)] 67)).cell hl
  exact World.cell?_setCell_same' _ _ _ (by rw [hb]; exact h)

set_option maxRecDepth 100000 in
set_option maxHeartbeats 2000000 in
theorem told_any (B : Nat) (code a : Int) (hc : (code == 0) = false) (s : ByteArray) (w : World) (hw : w.heap[B]? = some (.cells #[.int .i64 code, .int .i64 a, .string s] 28 (0, 0))) (hg : w.cell? ⟨0, 0, none⟩ = some (.iface 129 (.agg #[hnd 33]))) (h0 : 0 < w.heap.size) :
    Calls Tryz.prog 25 #[.iface 67 (.pointer (some ⟨B, 0, none⟩))] w fun e w' => e = .returned (.tuple #[.agg #[.int .i64 code, .int .i64 a, .string s], .bool true]) ∧ Below w.heap.size w w' := by
  have hlt := (Array.getElem?_eq_some_iff.1 hw).1
  go_enter Tryz.func25, Tryz.ntmps25
  go_wp2_with fail
  have hb2 : Below w.heap.size w ((w.alloc (.cells #[.int .i64 0, .int .i64 0, .string ⟨#[]⟩] 28)).alloc (.cells #[.pointer none] 67)) := below2 w _ _
  refine (as_any ⟨B, 0, none⟩ ⟨w.heap.size + 1, 0, none⟩ (.pointer none) _ ((hb2.cell (p := ⟨0, 0, none⟩) h0).trans hg) (by simp) (by simp) (by simp) (by simp)).mono ?_
  rintro e w3 ⟨rfl, hw3⟩
  have hb3 : Below (w.heap.size + 1) ((w.alloc (.cells #[.int .i64 0, .int .i64 0, .string ⟨#[]⟩] 28)).alloc (.cells #[.pointer none] 67)) w3 := hw3 ▸ asW_below _ _ _ _ (by simp) (by simp)
  have hB3 : Below w.heap.size w w3 := hb2.trans (hb3.mono (by omega))
  have hz3 := hb3.size
  simp only [World.size_alloc] at hz3
  have q1 : w3.cell? ⟨w.heap.size + 1, 0, none⟩ = some (.pointer (some ⟨B, 0, none⟩)) := by
    rw [hw3]; exact asW_cell _ _ _ (by simp) (by simp)
  have r0 : ∀ i, w3.cell? ⟨B, i, none⟩ = #[Value.int .i64 code, .int .i64 a, .string s][i]? := fun i => (hB3.cell (p := ⟨B, i, none⟩) hlt).trans (cell_row hw i)
  have hwB : w3.heap[B]? = some (.cells #[.int .i64 code, .int .i64 a, .string s] 28 (0, 0)) := (hB3.block B hlt).trans hw
  have c0 : w3.cell? ⟨B, 0, none⟩ = some (.int .i64 code) := r0 0
  have c1 : w3.cell? ⟨B, 1, none⟩ = some (.int .i64 a) := r0 1
  have c2 : w3.cell? ⟨B, 2, none⟩ = some (.string s) := r0 2
  have hrow : w3.heap[w.heap.size]? = some (.cells #[.int .i64 0, .int .i64 0, .string ⟨#[]⟩] 28 (0, 0)) :=
    (hb3.block w.heap.size (by omega)).trans ((Below.heap_alloc _ _ _ (by simp)).trans (heap_alloc_new w _))
  have s0 := cell_row hrow 0
  have s1 := cell_row hrow 1
  have s2 := cell_row hrow 2
  have f0 : ∀ i, w3.frozen? ⟨w.heap.size, i, none⟩ = false := fun i => by simp [World.frozen?, hrow]
  have g0 := f0 0
  have g1 := f0 1
  have g2 := f0 2
  simp only [List.getElem?_toArray, List.getElem?_cons_zero, List.getElem?_cons_succ] at s0 s1 s2
  have HI := is_any B code a s w3 hwB
  have HR : Hid (w3.heap[w.heap.size]? = some (.cells #[.int .i64 0, .int .i64 0, .string ⟨#[]⟩] 28 (0, 0)) ∧ Below w.heap.size w w3) := ⟨hrow, hB3⟩
  clear hw3 r0 f0 hrow hwB hb3 hB3 hb2
  go_wp2_with fail
  refine HI.mono ?_
  rintro e w4 ⟨rfl, rfl⟩
  clear HI
  go_wp2_with fail
  have hE : ∀ k i, k ≠ w.heap.size → (((w4.setCell ⟨w.heap.size, 0, none⟩ (.int .i64 code)).setCell ⟨w.heap.size, 1, none⟩ (.int .i64 a)).setCell ⟨w.heap.size, 2, none⟩ (.string s)).cell? ⟨k, i, none⟩ = w4.cell? ⟨k, i, none⟩ := fun k i hk => by
    rw [World.cell?_setCell_far _ _ _ _ (Ne.symm hk), World.cell?_setCell_far _ _ _ _ (Ne.symm hk), World.cell?_setCell_far _ _ _ _ (Ne.symm hk)]
  have HS8 : Hid ((((w4.setCell ⟨w.heap.size, 0, none⟩ (.int .i64 code)).setCell ⟨w.heap.size, 1, none⟩ (.int .i64 a)).setCell ⟨w.heap.size, 2, none⟩ (.string s)).cell? ⟨w.heap.size + 1, 0, none⟩ = some (.pointer (some ⟨B, 0, none⟩)) ∧ (((w4.setCell ⟨w.heap.size, 0, none⟩ (.int .i64 code)).setCell ⟨w.heap.size, 1, none⟩ (.int .i64 a)).setCell ⟨w.heap.size, 2, none⟩ (.string s)).cell? ⟨B, 0, none⟩ = some (.int .i64 code) ∧ (((w4.setCell ⟨w.heap.size, 0, none⟩ (.int .i64 code)).setCell ⟨w.heap.size, 1, none⟩ (.int .i64 a)).setCell ⟨w.heap.size, 2, none⟩ (.string s)).cell? ⟨B, 1, none⟩ = some (.int .i64 a) ∧ (((w4.setCell ⟨w.heap.size, 0, none⟩ (.int .i64 code)).setCell ⟨w.heap.size, 1, none⟩ (.int .i64 a)).setCell ⟨w.heap.size, 2, none⟩ (.string s)).cell? ⟨B, 2, none⟩ = some (.string s)) :=
    ⟨(hE _ _ (by omega)).trans q1, (hE _ _ (by omega)).trans c0, (hE _ _ (by omega)).trans c1, (hE _ _ (by omega)).trans c2⟩
  clear hE
  go_region_held3 (fun W => W.cell? ⟨w.heap.size + 1, 0, none⟩ = some (.pointer (some ⟨B, 0, none⟩)) ∧ W.cell? ⟨B, 0, none⟩ = some (.int .i64 code) ∧ W.cell? ⟨B, 1, none⟩ = some (.int .i64 a) ∧ W.cell? ⟨B, 2, none⟩ = some (.string s))
    (first | exact HS8.out | (simp [q1, c0, c1, c2]; done)) (fail)
  have hrow8 : (((w4.setCell ⟨w.heap.size, 0, none⟩ (.int .i64 code)).setCell ⟨w.heap.size, 1, none⟩ (.int .i64 a)).setCell ⟨w.heap.size, 2, none⟩ (.string s)).drew.heap[w.heap.size]? = some (.cells #[.int .i64 code, .int .i64 a, .string s] 28 (0, 0)) := heap_set (heap_set (heap_set HR.out.1 0 _) 1 _) 2 _
  have hB8 : Below w.heap.size w (((w4.setCell ⟨w.heap.size, 0, none⟩ (.int .i64 code)).setCell ⟨w.heap.size, 1, none⟩ (.int .i64 a)).setCell ⟨w.heap.size, 2, none⟩ (.string s)).drew :=
    HR.out.2.trans (((((Below.refl _ w4).setCell (p := ⟨w.heap.size, 0, none⟩) (Nat.le_refl _) _).setCell (p := ⟨w.heap.size, 1, none⟩) (Nat.le_refl _) _).setCell (p := ⟨w.heap.size, 2, none⟩) (Nat.le_refl _) _).drew)
  generalize (((w4.setCell ⟨w.heap.size, 0, none⟩ (.int .i64 code)).setCell ⟨w.heap.size, 1, none⟩ (.int .i64 a)).setCell ⟨w.heap.size, 2, none⟩ (.string s)).drew = w9 at hrow8 hB8 ⊢
  have r0 : w9.cell? ⟨w.heap.size, 0, none⟩ = some (.int .i64 code) := cell_row hrow8 0
  have r1 : w9.cell? ⟨w.heap.size, 1, none⟩ = some (.int .i64 a) := cell_row hrow8 1
  have r2 : w9.cell? ⟨w.heap.size, 2, none⟩ = some (.string s) := cell_row hrow8 2
  have hne : (code != 0) = true := by simp [bne, hc]
  rw [hne]
  go_wp2_with fail
  refine bodyPost_ret (v := .tuple #[.agg #[.int .i64 code, .int .i64 a, .string s], .bool true]) (by simp [results, Tryz.results25, go_sem, r0, r1, r2]) rfl ⟨rfl, hB8⟩
end Go.Proofs.YthbnegggohegkaaGreatDoor
