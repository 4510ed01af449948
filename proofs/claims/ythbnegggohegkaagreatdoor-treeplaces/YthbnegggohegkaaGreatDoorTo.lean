/-
  The walks of word, both, errors.As, errors.Is and told.
-/
import Derived.Test.YthbnegggohegkaaGreatDoorRiJ
import Derived.Stop.Asserts
import Derived.RowKitTokens
namespace Go.Proofs.YthbnegggohegkaaGreatDoor
open Go.RowKit Go.Extern.Stop Go.Stop Go.Extern

set_option maxHeartbeats 400000 in
theorem leafWord_any (s : ByteArray) (w : World) :
    Calls Tryz.prog 28 #[.string s] w fun e w' => e = .returned (.agg (leafN 14 s 0 none 0)) ∧ Below w.heap.size w w' := by
  go_enter Tryz.func28, Tryz.ntmps28
  go_wp2_with fail
  refine bodyPost_ret (v := .agg (leafN 14 s 0 none 0)) (by simp [results, Tryz.results28, go_sem]) rfl ⟨rfl, below1 _ _⟩

theorem cell_row {w : World} {g : Nat} {cs : Array Value} {t : TypeId} {fr : Nat × Nat} (h : w.heap[g]? = some (.cells cs t fr)) (i : Nat) : w.cell? ⟨g, i, none⟩ = cs[i]? := by simp [World.cell?, h]

set_option maxHeartbeats 400000 in
theorem both_any (s : ByteArray) (hs : s.size ≤ 40) (x y : MT) (w : World) (hx : x.In w.heap.size w) (hy : y.In w.heap.size w) :
    Calls Tryz.prog 27 #[.string s, nodeV x, nodeV y] w fun e w' => ∃ b, e = .returned (.agg (binN s 0 (some ⟨b, 0, none⟩) 2)) ∧ Below w.heap.size w w' ∧ (MT.node 51 s 0 0 (some ⟨b, 0, none⟩) 2 [x, y]).In w'.heap.size w' := by
  go_enter Tryz.func27, Tryz.ntmps27
  go_wp2_with fail
  have hB : Below w.heap.size w ((((w.alloc (nodeO x)).alloc (nodeO y)).alloc (.cells (binN s 0 (some ⟨w.heap.size + 1 + 1 + 1, 0, none⟩) 2) 24)).alloc (.cells #[.int .i64 x.kind, .string x.text, .int .i64 x.num, .int .i64 x.at_, .slice x.ptr x.kids.length x.cap, .int .i64 y.kind, .string y.text, .int .i64 y.num, .int .i64 y.at_, .slice y.ptr y.kids.length y.cap] 24)) := ((below2 w _ _).alloc (by simp; omega) _).alloc (by simp; omega) _
  refine bodyPost_ret (v := .agg (binN s 0 (some ⟨w.heap.size + 1 + 1 + 1, 0, none⟩) 2)) (by simp [results, Tryz.results27, go_sem]) rfl ⟨_, rfl, hB, ?_⟩
  have hr := heap_alloc_new (((w.alloc (nodeO x)).alloc (nodeO y)).alloc (.cells (binN s 0 (some ⟨w.heap.size + 1 + 1 + 1, 0, none⟩) 2) 24)) (.cells #[.int .i64 x.kind, .string x.text, .int .i64 x.num, .int .i64 x.at_, .slice x.ptr x.kids.length x.cap, .int .i64 y.kind, .string y.text, .int .i64 y.num, .int .i64 y.at_, .slice y.ptr y.kids.length y.cap] 24)
  simp only [World.size_alloc] at hr
  rw [MT.In]
  refine ⟨by simp [maxLen]; omega, by simp, by simp [maxLen], .inr ⟨_, _, rfl, by simp, ?_⟩⟩
  rw [MT.InL, MT.InL, MT.InL]
  refine ⟨⟨?_, ?_, ?_, ?_, ?_⟩, MT.In.mono (by simp; omega) _ (MT.In.below hB _ hx), ⟨?_, ?_, ?_, ?_, ?_⟩, MT.In.mono (by simp; omega) _ (MT.In.below hB _ hy), trivial⟩
  all_goals exact (cell_row hr _).trans rfl

/-- The handle of a type, and a reflectlite.Value. -/
abbrev hnd (n : Nat) : Value := .pointer (some ⟨6, n, none⟩)
abbrev rfv (n : Nat) (a : Addr) (f : Int) : Value := .agg #[hnd n, .pointer (some a), .int .u64 f]

theorem rf_value69 (t : Addr) (W : World) : (ReflectliteValue.unpack (.iface 69 (.pointer (some t)))).run Tryz.prog W = .ok (rfv 69 ⟨W.heap.size, 0, none⟩ 150) (W.alloc (.cells #[.pointer (some t)] 69)) := by kernel_rfl
theorem rf_value67 (e : Addr) (W : World) : (ReflectliteValue.unpack (.iface 67 (.pointer (some e)))).run Tryz.prog W = .ok (rfv 67 ⟨W.heap.size, 0, none⟩ 150) (W.alloc (.cells #[.pointer (some e)] 67)) := by kernel_rfl
theorem rf_type69 (a : Addr) (W : World) : (ReflectliteValue.methodAny (ReflectliteValue.valueError "reflectlite.Value.Type" 0) (fun t _ _ _ => ReflectliteType.toType t) #[rfv 69 a 150]).run Tryz.prog W = .ok (.iface 129 (.agg #[hnd 69])) W := by kernel_rfl
theorem rf_kind69 (W : World) : ((ReflectliteType.abiMethod fun t => (fun a : Nat => Value.int IntKind.u8 (a : Int)) <$> Rtype.kind t) #[hnd 69]).run Tryz.prog W = .ok (.int .u8 22) W := by kernel_rfl
theorem rf_kind67 (W : World) : ((ReflectliteType.abiMethod fun t => (fun a : Nat => Value.int IntKind.u8 (a : Int)) <$> Rtype.kind t) #[hnd 67]).run Tryz.prog W = .ok (.int .u8 22) W := by kernel_rfl
theorem rf_elem69 (W : World) : (ReflectliteType.method ReflectliteType.elem #[.agg #[hnd 69]]).run Tryz.prog W = .ok (.iface 129 (.agg #[hnd 67])) W := by kernel_rfl
theorem rf_impl67 (W : World) : (ReflectliteType.relation "Implements" ReflectliteType.implements_ #[.agg #[hnd 67], .iface 129 (.agg #[hnd 33])]).run Tryz.prog W = .ok (.bool true) W := by kernel_rfl
theorem rf_typeOf67 (v : Value) (W : World) : (ReflectliteType.typeOf #[.iface 67 v]).run Tryz.prog W = .ok (.iface 129 (.agg #[hnd 67])) W := by kernel_rfl
theorem rf_assign67 (W : World) : (ReflectliteType.relation "AssignableTo" ReflectliteType.assignableTo #[.agg #[hnd 67], .iface 129 (.agg #[hnd 67])]).run Tryz.prog W = .ok (.bool true) W := by kernel_rfl
theorem rf_parts69 (a : Addr) (W : World) : (ReflectliteValue.parts (rfv 69 a 150)).run Tryz.prog W = .ok (some (69, a, 150)) W := by kernel_rfl
theorem rf_parts67 (a : Addr) (W : World) : (ReflectliteValue.parts (rfv 67 a 150)).run Tryz.prog W = .ok (some (67, a, 150)) W := by kernel_rfl
theorem rf_parts67v (a : Addr) (W : World) : (ReflectliteValue.parts (rfv 67 a 406)).run Tryz.prog W = .ok (some (67, a, 406)) W := by kernel_rfl
theorem rf_elemOf69 (W : World) : (Rtype.elem? 69).run Tryz.prog W = .ok (some 67) W := by kernel_rfl
theorem rf_mk67 (p : Addr) (W : World) : (ReflectliteValue.mk 67 p ReflectliteValue.flagAddr).run Tryz.prog W = .ok (rfv 67 p 406) W := by kernel_rfl
theorem rf_direct67 (W : World) : (Rtype.directlyAssignable 67 67).run Tryz.prog W = .ok true W := by kernel_rfl

theorem rf_method (z : Sem Value) (f : TypeId → Addr → Nat → Nat → Sem Value) (v : Value) : ∃ k, ReflectliteValue.method z f #[v] = (ReflectliteValue.parts v >>= k) ∧ ∀ t a fl, k (some (t, a, fl)) = f t a fl (fl % 32) := ⟨_, rfl, fun _ _ _ => rfl⟩
theorem rf_isNil69 (a p : Addr) (W : World) (ha : W.cell? a = some (.pointer (some p))) :
    (ReflectliteValue.method (ReflectliteValue.valueError "reflectlite.Value.IsNil" 0) ReflectliteValue.isNil #[rfv 69 a 150]).run Tryz.prog W = .ok (.bool false) W := by
  obtain ⟨k, h1, h2⟩ := rf_method (ReflectliteValue.valueError "reflectlite.Value.IsNil" 0) ReflectliteValue.isNil (rfv 69 a 150)
  rw [h1, Sem.run_bind, rf_parts69]
  simp [Result.andThen, h2, ReflectliteValue.isNil, loadVar, isAgg, underlying, Tryz.underlying69, ha]
theorem rf_elemV69 (a p : Addr) (W : World) (ha : W.cell? a = some (.pointer (some p))) :
    (ReflectliteValue.method (ReflectliteValue.valueError "reflectlite.Value.Elem" 0) ReflectliteValue.elem #[rfv 69 a 150]).run Tryz.prog W = .ok (rfv 67 p 406) W := by
  obtain ⟨k, h1, h2⟩ := rf_method (ReflectliteValue.valueError "reflectlite.Value.Elem" 0) ReflectliteValue.elem (rfv 69 a 150)
  rw [h1, Sem.run_bind, rf_parts69]
  simp [Result.andThen, h2, ReflectliteValue.elem, loadVar, isAgg, underlying, Tryz.underlying69, ha, rf_elemOf69, rf_mk67]
theorem rf_sets (v x : Value) : ∃ k : Option (TypeId × Addr × Nat) → Option (TypeId × Addr × Nat) → Sem Value, ReflectliteValue.set #[v, x] = (ReflectliteValue.parts v >>= fun p => ReflectliteValue.parts x >>= fun q => k p q) ∧
    ∀ ta b, ∃ m : Value → Bool → Sem Value, k (some (67, ta, 406)) (some (67, b, 150)) = (loadVar 67 b >>= fun u => Rtype.directlyAssignable 67 67 >>= fun d => m u d) ∧ ∀ u, m u true = (storeVar 67 ta u >>= fun _ => pure (.tuple #[])) :=
  ⟨_, rfl, fun _ _ => ⟨_, rfl, fun _ => rfl⟩⟩
theorem rf_set67 (ta b e : Addr) (old : Value) (W : World) (hb : W.cell? b = some (.pointer (some e))) (ht : W.cell? ta = some old) (hf : W.frozen? ta = false) :
    (ReflectliteValue.set #[rfv 67 ta 406, rfv 67 b 150]).run Tryz.prog W = .ok (.tuple #[]) (W.setCell ta (.pointer (some e))) := by
  obtain ⟨k, h1, h2⟩ := rf_sets (rfv 67 ta 406) (rfv 67 b 150)
  obtain ⟨m, h3, h4⟩ := h2 ta b
  have hl : (loadVar 67 b).run Tryz.prog W = .ok (.pointer (some e)) W := by simp [loadVar, isAgg, underlying, Tryz.underlying67, hb, Result.andThen]
  have hs : (storeVar 67 ta (.pointer (some e))).run Tryz.prog W = .ok () (W.setCell ta (.pointer (some e))) := by
    simp [storeVar, Value.cells, storeCells, Addr.add]
    rw [run_store Tryz.prog W ta _ _ (by rfl)]
    simp [ht, hf]
  rw [h1, Sem.run_bind, rf_parts67v]
  simp only [Result.andThen]
  rw [Sem.run_bind, rf_parts67]
  simp only [Result.andThen]
  rw [h3, Sem.run_bind, hl]
  simp only [Result.andThen]
  rw [Sem.run_bind, rf_direct67]
  simp only [Result.andThen]
  rw [h4, Sem.run_bind, hs]
  rfl
end Go.Proofs.YthbnegggohegkaaGreatDoor
