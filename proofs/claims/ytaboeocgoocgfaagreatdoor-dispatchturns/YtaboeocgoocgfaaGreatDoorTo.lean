/-
  The walks of word, both, errors.As, errors.Is and told.
-/
import Derived.Test.YtaboeocgoocgfaaGreatDoorE
import Derived.Deep.RegionHeld3
import Derived.Stop.Asserts
import Derived.RowKitTokens
namespace Go.Proofs.YtaboeocgoocgfaaGreatDoor
open Go.RowKit Go.Extern.Stop Go.Stop Go.Extern

/-- The handle of a type, and a reflectlite.Value. -/
abbrev hnd (n : Nat) : Value := .pointer (some ⟨4, n, none⟩)
abbrev rfv (n : Nat) (a : Addr) (f : Int) : Value := .agg #[hnd n, .pointer (some a), .int .u64 f]

theorem rf_value69 (t : Addr) (W : World) : (ReflectliteValue.unpack (.iface 44 (.pointer (some t)))).run Tryz.prog W = .ok (rfv 44 ⟨W.heap.size, 0, none⟩ 150) (W.alloc (.cells #[.pointer (some t)] 44)) := by kernel_rfl
theorem rf_value67 (e : Addr) (W : World) : (ReflectliteValue.unpack (.iface 42 (.pointer (some e)))).run Tryz.prog W = .ok (rfv 42 ⟨W.heap.size, 0, none⟩ 150) (W.alloc (.cells #[.pointer (some e)] 42)) := by kernel_rfl
theorem rf_type69 (a : Addr) (W : World) : (ReflectliteValue.methodAny (ReflectliteValue.valueError "reflectlite.Value.Type" 0) (fun t _ _ _ => ReflectliteType.toType t) #[rfv 44 a 150]).run Tryz.prog W = .ok (.iface 126 (.agg #[hnd 44])) W := by kernel_rfl
theorem rf_kind69 (W : World) : ((ReflectliteType.abiMethod fun t => (fun a : Nat => Value.int IntKind.u8 (a : Int)) <$> Rtype.kind t) #[hnd 44]).run Tryz.prog W = .ok (.int .u8 22) W := by kernel_rfl
theorem rf_kind67 (W : World) : ((ReflectliteType.abiMethod fun t => (fun a : Nat => Value.int IntKind.u8 (a : Int)) <$> Rtype.kind t) #[hnd 42]).run Tryz.prog W = .ok (.int .u8 22) W := by kernel_rfl
theorem rf_elem69 (W : World) : (ReflectliteType.method ReflectliteType.elem #[.agg #[hnd 44]]).run Tryz.prog W = .ok (.iface 126 (.agg #[hnd 42])) W := by kernel_rfl
theorem rf_impl67 (W : World) : (ReflectliteType.relation "Implements" ReflectliteType.implements_ #[.agg #[hnd 42], .iface 126 (.agg #[hnd 25])]).run Tryz.prog W = .ok (.bool true) W := by kernel_rfl
theorem rf_typeOf67 (v : Value) (W : World) : (ReflectliteType.typeOf #[.iface 42 v]).run Tryz.prog W = .ok (.iface 126 (.agg #[hnd 42])) W := by kernel_rfl
theorem rf_assign67 (W : World) : (ReflectliteType.relation "AssignableTo" ReflectliteType.assignableTo #[.agg #[hnd 42], .iface 126 (.agg #[hnd 42])]).run Tryz.prog W = .ok (.bool true) W := by kernel_rfl
theorem rf_parts69 (a : Addr) (W : World) : (ReflectliteValue.parts (rfv 44 a 150)).run Tryz.prog W = .ok (some (44, a, 150)) W := by kernel_rfl
theorem rf_parts67 (a : Addr) (W : World) : (ReflectliteValue.parts (rfv 42 a 150)).run Tryz.prog W = .ok (some (42, a, 150)) W := by kernel_rfl
theorem rf_parts67v (a : Addr) (W : World) : (ReflectliteValue.parts (rfv 42 a 406)).run Tryz.prog W = .ok (some (42, a, 406)) W := by kernel_rfl
theorem rf_elemOf69 (W : World) : (Rtype.elem? 44).run Tryz.prog W = .ok (some 42) W := by kernel_rfl
theorem rf_mk67 (p : Addr) (W : World) : (ReflectliteValue.mk 42 p ReflectliteValue.flagAddr).run Tryz.prog W = .ok (rfv 42 p 406) W := by kernel_rfl
theorem rf_direct67 (W : World) : (Rtype.directlyAssignable 42 42).run Tryz.prog W = .ok true W := by kernel_rfl

theorem rf_method (z : Sem Value) (f : TypeId → Addr → Nat → Nat → Sem Value) (v : Value) : ∃ k, ReflectliteValue.method z f #[v] = (ReflectliteValue.parts v >>= k) ∧ ∀ t a fl, k (some (t, a, fl)) = f t a fl (fl % 32) := ⟨_, rfl, fun _ _ _ => rfl⟩
theorem rf_isNil69 (a p : Addr) (W : World) (ha : W.cell? a = some (.pointer (some p))) :
    (ReflectliteValue.method (ReflectliteValue.valueError "reflectlite.Value.IsNil" 0) ReflectliteValue.isNil #[rfv 44 a 150]).run Tryz.prog W = .ok (.bool false) W := by
  obtain ⟨k, h1, h2⟩ := rf_method (ReflectliteValue.valueError "reflectlite.Value.IsNil" 0) ReflectliteValue.isNil (rfv 44 a 150)
  rw [h1, Sem.run_bind, rf_parts69]
  simp [Result.andThen, h2, ReflectliteValue.isNil, loadVar, isAgg, underlying, Tryz.underlying44, ha]
theorem rf_elemV69 (a p : Addr) (W : World) (ha : W.cell? a = some (.pointer (some p))) :
    (ReflectliteValue.method (ReflectliteValue.valueError "reflectlite.Value.Elem" 0) ReflectliteValue.elem #[rfv 44 a 150]).run Tryz.prog W = .ok (rfv 42 p 406) W := by
  obtain ⟨k, h1, h2⟩ := rf_method (ReflectliteValue.valueError "reflectlite.Value.Elem" 0) ReflectliteValue.elem (rfv 44 a 150)
  rw [h1, Sem.run_bind, rf_parts69]
  simp [Result.andThen, h2, ReflectliteValue.elem, loadVar, isAgg, underlying, Tryz.underlying44, ha, rf_elemOf69, rf_mk67]
theorem rf_sets (v x : Value) : ∃ k : Option (TypeId × Addr × Nat) → Option (TypeId × Addr × Nat) → Sem Value, ReflectliteValue.set #[v, x] = (ReflectliteValue.parts v >>= fun p => ReflectliteValue.parts x >>= fun q => k p q) ∧
    ∀ ta b, ∃ m : Value → Bool → Sem Value, k (some (42, ta, 406)) (some (42, b, 150)) = (loadVar 42 b >>= fun u => Rtype.directlyAssignable 42 42 >>= fun d => m u d) ∧ ∀ u, m u true = (storeVar 42 ta u >>= fun _ => pure (.tuple #[])) :=
  ⟨_, rfl, fun _ _ => ⟨_, rfl, fun _ => rfl⟩⟩
theorem rf_set67 (ta b e : Addr) (old : Value) (W : World) (hb : W.cell? b = some (.pointer (some e))) (ht : W.cell? ta = some old) (hf : W.frozen? ta = false) :
    (ReflectliteValue.set #[rfv 42 ta 406, rfv 42 b 150]).run Tryz.prog W = .ok (.tuple #[]) (W.setCell ta (.pointer (some e))) := by
  obtain ⟨k, h1, h2⟩ := rf_sets (rfv 42 ta 406) (rfv 42 b 150)
  obtain ⟨m, h3, h4⟩ := h2 ta b
  have hl : (loadVar 42 b).run Tryz.prog W = .ok (.pointer (some e)) W := by simp [loadVar, isAgg, underlying, Tryz.underlying42, hb, Result.andThen]
  have hs : (storeVar 42 ta (.pointer (some e))).run Tryz.prog W = .ok () (W.setCell ta (.pointer (some e))) := by
    simp [storeVar, Value.cells, storeCells, Addr.add]
    rw [run_store Tryz.prog W ta _ _ (by rfl)]
    simp [ht, hf]
  rw [h1, Sem.run_bind, rf_parts67v]
  simp only [Result.andThen]
  rw [Sem.run_bind, rf_parts67]
  simp only [Result.andThen]
  rw [h3, Sem.run_bind, hl]
  simp only [Result.andThen]
  rw [Sem.run_bind, rf_direct67]
  simp only [Result.andThen]
  rw [h4, Sem.run_bind, hs]
  rfl
end Go.Proofs.YtaboeocgoocgfaaGreatDoor
