/-
  equal, kind by kind, of two right data.
-/
import Derived.Test.YtflonmlnedkmjaaDoorQb
import Derived.Test.YtflonmlnedkmjaaDoorSbJ
import Derived.BigRegion
import Derived.Test.YtflonmlnedkmjaaDoorIJ
import Derived.Test.YtflonmlnedkmjaaDoorNJ
import Derived.Stop.Asserts
namespace Go.Proofs.YtflonmlnedkmjaaDoor
open Go.RowKit
attribute [local go_sem] refold2 cell3_0 cell3_1 b28_0 b28_01 x56

theorem typed_neq (k : Int) (t : ByteArray) (k' : Int) (t' : ByteArray) (w : World) : (binOp .neq 96 (.agg #[.int .i64 k, .string t]) (.agg #[.int .i64 k', .string t'])).run Tryd.prog w = .ok (.bool (!(k == k' && t.toList == t'.toList))) w := by
  by_cases h0 : k = k'
  · by_cases h1 : t.toList = t'.toList
    · simp [go_sem, h0, h1]
    · simp [go_sem, h0, h1]
  · simp [go_sem, h0]
theorem ta1r (v : Value) (w : World) : (Instr.typeAssert (.iface 141 v) 129 134 true).run Tryd.prog w = .ok (.tuple #[.agg #[.pointer none], .bool false]) w := by kernel_rfl
theorem ta1f (v : Value) (w : World) : (Instr.typeAssert (.iface 141 v) 129 138 true).run Tryd.prog w = .ok (.tuple #[.agg #[.pointer none], .bool false]) w := by kernel_rfl
theorem ta1k (v : Value) (w : World) : (Instr.typeAssert (.iface 141 v) 129 140 true).run Tryd.prog w = .ok (.tuple #[.iface 141 v, .bool true]) w := run_typeAssert_hasB Tryd.underlying140 (by kernel_rfl) v 129 w
theorem ta2r (v : Value) (w : World) : (Instr.typeAssert (.iface 142 v) 129 134 true).run Tryd.prog w = .ok (.tuple #[.agg #[.pointer none], .bool false]) w := by kernel_rfl
theorem ta2f (v : Value) (w : World) : (Instr.typeAssert (.iface 142 v) 129 138 true).run Tryd.prog w = .ok (.tuple #[.agg #[.pointer none], .bool false]) w := by kernel_rfl
theorem ta2k (v : Value) (w : World) : (Instr.typeAssert (.iface 142 v) 129 140 true).run Tryd.prog w = .ok (.tuple #[.iface 142 v, .bool true]) w := run_typeAssert_hasB Tryd.underlying140 (by kernel_rfl) v 129 w
theorem ta3r (v : Value) (w : World) : (Instr.typeAssert (.iface 138 v) 129 134 true).run Tryd.prog w = .ok (.tuple #[.agg #[.pointer none], .bool false]) w := by kernel_rfl
theorem ta4r (v : Value) (w : World) : (Instr.typeAssert (.iface 143 v) 129 134 true).run Tryd.prog w = .ok (.tuple #[.agg #[.pointer none], .bool false]) w := by kernel_rfl
theorem ta4f (v : Value) (w : World) : (Instr.typeAssert (.iface 143 v) 129 138 true).run Tryd.prog w = .ok (.tuple #[.agg #[.pointer none], .bool false]) w := by kernel_rfl
theorem ta4k (v : Value) (w : World) : (Instr.typeAssert (.iface 143 v) 129 140 true).run Tryd.prog w = .ok (.tuple #[.iface 143 v, .bool true]) w := run_typeAssert_hasB Tryd.underlying140 (by kernel_rfl) v 129 w
theorem ta5r (v : Value) (w : World) : (Instr.typeAssert (.iface 146 v) 129 134 true).run Tryd.prog w = .ok (.tuple #[.agg #[.pointer none], .bool false]) w := by kernel_rfl
theorem ta5f (v : Value) (w : World) : (Instr.typeAssert (.iface 146 v) 129 138 true).run Tryd.prog w = .ok (.tuple #[.agg #[.pointer none], .bool false]) w := by kernel_rfl
theorem ta5k (v : Value) (w : World) : (Instr.typeAssert (.iface 146 v) 129 140 true).run Tryd.prog w = .ok (.tuple #[.nilIface, .bool false]) w := run_typeAssert_lacksB Tryd.underlying140 (by kernel_rfl) (by kernel_rfl) v 129 w
theorem ta6r (v : Value) (w : World) : (Instr.typeAssert (.iface 147 v) 129 134 true).run Tryd.prog w = .ok (.tuple #[.agg #[.pointer none], .bool false]) w := by kernel_rfl
theorem ta6f (v : Value) (w : World) : (Instr.typeAssert (.iface 147 v) 129 138 true).run Tryd.prog w = .ok (.tuple #[.agg #[.pointer none], .bool false]) w := by kernel_rfl
theorem ta6k (v : Value) (w : World) : (Instr.typeAssert (.iface 147 v) 129 140 true).run Tryd.prog w = .ok (.tuple #[.nilIface, .bool false]) w := run_typeAssert_lacksB Tryd.underlying140 (by kernel_rfl) (by kernel_rfl) v 129 w
theorem ta7r (v : Value) (w : World) : (Instr.typeAssert (.iface 148 v) 129 134 true).run Tryd.prog w = .ok (.tuple #[.agg #[.pointer none], .bool false]) w := by kernel_rfl
theorem ta7f (v : Value) (w : World) : (Instr.typeAssert (.iface 148 v) 129 138 true).run Tryd.prog w = .ok (.tuple #[.agg #[.pointer none], .bool false]) w := by kernel_rfl
theorem ta7k (v : Value) (w : World) : (Instr.typeAssert (.iface 148 v) 129 140 true).run Tryd.prog w = .ok (.tuple #[.nilIface, .bool false]) w := run_typeAssert_lacksB Tryd.underlying140 (by kernel_rfl) (by kernel_rfl) v 129 w
theorem ta9r (v : Value) (w : World) : (Instr.typeAssert (.iface 149 v) 129 134 true).run Tryd.prog w = .ok (.tuple #[.agg #[.pointer none], .bool false]) w := by kernel_rfl
theorem ta9f (v : Value) (w : World) : (Instr.typeAssert (.iface 149 v) 129 138 true).run Tryd.prog w = .ok (.tuple #[.agg #[.pointer none], .bool false]) w := by kernel_rfl
theorem ta9k (v : Value) (w : World) : (Instr.typeAssert (.iface 149 v) 129 140 true).run Tryd.prog w = .ok (.tuple #[.iface 149 v, .bool true]) w := run_typeAssert_hasB Tryd.underlying140 (by kernel_rfl) v 129 w
theorem ta8r (v : Value) (w : World) : (Instr.typeAssert (.iface 134 v) 129 134 true).run Tryd.prog w = .ok (.tuple #[v, .bool true]) w := by kernel_rfl
theorem ta3f (v : Value) (w : World) : (Instr.typeAssert (.iface 138 v) 129 138 true).run Tryd.prog w = .ok (.tuple #[v, .bool true]) w := by kernel_rfl
theorem ta0r (w : World) : (Instr.typeAssert .nilIface 129 134 true).run Tryd.prog w = .ok (.tuple #[.agg #[.pointer none], .bool false]) w := by kernel_rfl
theorem ta0f (w : World) : (Instr.typeAssert .nilIface 129 138 true).run Tryd.prog w = .ok (.tuple #[.agg #[.pointer none], .bool false]) w := by kernel_rfl
theorem ta0k (w : World) : (Instr.typeAssert .nilIface 129 140 true).run Tryd.prog w = .ok (.tuple #[.nilIface, .bool false]) w := by kernel_rfl
attribute [local go_sem] ta1r ta1f ta1k ta2r ta2f ta2k ta3r ta4r ta4f ta4k ta5r ta5f ta5k ta6r ta6f ta6k ta7r ta7f ta7k ta9r ta9f ta9k ta8r ta3f ta0r ta0f ta0k

set_option maxRecDepth 100000 in
set_option maxHeartbeats 4000000 in
/-- Of unlike types. -/
theorem equal_unlike (x y : MD) (w : World) (hne : ¬ (x.h.k = y.h.k ∧ x.h.t = y.h.t)) : Calls Tryd.prog 59 #[x.val, y.val] w fun r w' => r = .returned (.tuple #[.bool false, .string ⟨#[]⟩]) ∧ Below w.heap.size w w' := by
  obtain ⟨⟨k, t, a, f, s, r0, r1, r2, r3, pp, path, pc⟩, ip, ic, items⟩ := x
  obtain ⟨⟨k', t', a', f', s', r0', r1', r2', r3', pp', path', pc'⟩, ip', ic', items'⟩ := y
  have HQ : ∀ W, (binOp .neq 96 (.agg #[.int .i64 k, .string t]) (.agg #[.int .i64 k', .string t'])).run Tryd.prog W = .ok (.bool true) W := fun W => by
    rw [typed_neq]
    have e : (k == k' && t.toList == t'.toList) = false := by
      cases hh : (k == k' && t.toList == t'.toList) with
      | false => rfl
      | true =>
        rw [Bool.and_eq_true, beq_iff_eq, beq_iff_eq] at hh
        exact absurd ⟨hh.1, byteArray_ext hh.2⟩ hne
    rw [e]; rfl
  clear hne
  simp only [MD.val, D]
  obtain ⟨W2, hW2⟩ : ∃ W2, W2 = (w.alloc (.cells #[.int .i64 k, .string t, .int .i64 a, .int .u64 f, .string s, .int .i64 r0, .int .i64 r1, .int .i64 r2, .int .i64 r3, .slice pp path.length pc, .slice ip items.length ic] 39)).alloc (.cells #[.int .i64 k', .string t', .int .i64 a', .int .u64 f', .string s', .int .i64 r0', .int .i64 r1', .int .i64 r2', .int .i64 r3', .slice pp' path'.length pc', .slice ip' items'.length ic'] 39) := ⟨_, rfl⟩
  have HK : Hid (∀ W, Below W2.heap.size W2 W → Below w.heap.size w W ∧ (∀ i, W.cell? ⟨w.heap.size, i, none⟩ = (#[.int .i64 k, .string t, .int .i64 a, .int .u64 f, .string s, .int .i64 r0, .int .i64 r1, .int .i64 r2, .int .i64 r3, .slice pp path.length pc, .slice ip items.length ic] : Array Value)[i]?) ∧ (∀ i, W.cell? ⟨w.heap.size + 1, i, none⟩ = (#[.int .i64 k', .string t', .int .i64 a', .int .u64 f', .string s', .int .i64 r0', .int .i64 r1', .int .i64 r2', .int .i64 r3', .slice pp' path'.length pc', .slice ip' items'.length ic'] : Array Value)[i]?)) := fun W hW => by rw [hW2] at hW; exact kept2 hW
  have hz2 : W2.heap.size = w.heap.size + 2 := by rw [hW2]; simp
  have HTA : Hid (∀ W, Calls Tryd.prog 58 #[.agg #[.int .i64 k, .string t, .int .i64 a, .int .u64 f, .string s, .int .i64 r0, .int .i64 r1, .int .i64 r2, .int .i64 r3, .slice pp path.length pc, .slice ip items.length ic]] W fun r w' => r = .returned (.agg #[.int .i64 k, .string t]) ∧ Below W.heap.size W w') := fun W => typeOf_any _ _ _ _ _ _ _ _ _ _ _ W
  have HTB : Hid (∀ W, Calls Tryd.prog 58 #[.agg #[.int .i64 k', .string t', .int .i64 a', .int .u64 f', .string s', .int .i64 r0', .int .i64 r1', .int .i64 r2', .int .i64 r3', .slice pp' path'.length pc', .slice ip' items'.length ic']] W fun r w' => r = .returned (.agg #[.int .i64 k', .string t']) ∧ Below W.heap.size W w') := fun W => typeOf_any _ _ _ _ _ _ _ _ _ _ _ W
  go_enter Tryd.func59, Tryd.ntmps59
  go_wp2_with fail
  rw [← hW2]
  clear hW2
  refine wp_region_noPanic ?_
  refine wp_region_held (S := fun W => (∀ i, W.cell? ⟨w.heap.size, i, none⟩ = (#[.int .i64 k, .string t, .int .i64 a, .int .u64 f, .string s, .int .i64 r0, .int .i64 r1, .int .i64 r2, .int .i64 r3, .slice pp path.length pc, .slice ip items.length ic] : Array Value)[i]?) ∧ (∀ i, W.cell? ⟨w.heap.size + 1, i, none⟩ = (#[.int .i64 k', .string t', .int .i64 a', .int .u64 f', .string s', .int .i64 r0', .int .i64 r1', .int .i64 r2', .int .i64 r3', .slice pp' path'.length pc', .slice ip' items'.length ic'] : Array Value)[i]?)) (by kernel_rfl) ?_
  obtain ⟨W4, hW4⟩ : ∃ W4, W4 = W2.drew := ⟨_, rfl⟩
  have e4 : ({ W2 with drawn := W2.drawn + 1 } : World) = W4 := hW4.symm
  rw [e4]
  have hB4 : Below W2.heap.size W2 W4 := by rw [hW4]; exact (Below.refl _ _).drew
  have hS := (HK.out W4 hB4).2
  clear e4 hW4
  refine wpAnyH_take (i := 0) (v := .agg #[.int .i64 k, .string t, .int .i64 a, .int .u64 f, .string s, .int .i64 r0, .int .i64 r1, .int .i64 r2, .int .i64 r3, .slice pp path.length pc, .slice ip items.length ic]) rfl (by kernel_rfl) (by kernel_rfl) (by kernel_rfl) (fun _ _ _ h => h) (Or.inl ⟨by rfl, ?r⟩) hS ?_
  case r => intro W hW; simp [go_sem, execOp, Act.eval, hW.1]
  simp only [List.getElem_toArray, List.getElem_cons_zero, Act.put, List.setIfInBounds_toArray, List.set_cons_succ, List.set_cons_zero]
  refine wpAnyH_take (i := 2) (v := .agg #[.int .i64 k', .string t', .int .i64 a', .int .u64 f', .string s', .int .i64 r0', .int .i64 r1', .int .i64 r2', .int .i64 r3', .slice pp' path'.length pc', .slice ip' items'.length ic']) rfl (by kernel_rfl) (by kernel_rfl) (by kernel_rfl) (fun _ _ _ h => h) (Or.inl ⟨by rfl, ?r⟩) hS ?_
  case r => intro W hW; simp [go_sem, execOp, Act.eval, hW.2]
  simp only [List.getElem_toArray, List.getElem_cons_zero, List.getElem_cons_succ, Act.put, List.setIfInBounds_toArray, List.set_cons_succ, List.set_cons_zero]
  refine wpAnyH_all (rs := [1]) (by kernel_rfl) (by simp) (fun i2 hi2 => ?_)
  obtain rfl : i2 = 1 := by simpa using hi2
  clear hi2
  refine wpOp_step rfl (fun K hK => ite_yes rfl ?_)
  simp only [List.getElem_toArray, List.getElem_cons_zero, List.getElem_cons_succ]
  go_simp
  refine (HTA.out _).mono ?_
  rintro e w5 ⟨rfl, b5⟩
  have hb5 : Below W2.heap.size W2 w5 := hB4.trans (b5.mono hB4.size)
  go_simp
  refine hK _ _ ⟨(HK.out _ hb5).2, ?_⟩
  clear hK K
  refine wpAnyH_all (rs := [3]) (by kernel_rfl) (by simp) (fun i2 hi2 => ?_)
  obtain rfl : i2 = 3 := by simpa using hi2
  clear hi2
  refine wpOp_step rfl (fun K hK => ite_yes rfl ?_)
  simp only [List.getElem_toArray, List.getElem_cons_zero, List.getElem_cons_succ]
  go_simp
  refine (HTB.out _).mono ?_
  rintro e w6 ⟨rfl, b6⟩
  have hb6 : Below W2.heap.size W2 w6 := hb5.trans (b6.mono hb5.size)
  go_simp
  refine hK _ _ ⟨(HK.out _ hb6).2, ?_⟩
  clear hK K
  clear hS
  have hS := (HK.out _ hb6).2
  refine wpAnyH_take (i := 4) (v := .bool true) rfl (by kernel_rfl) (by kernel_rfl) (by kernel_rfl) (fun _ _ _ h => h) (Or.inl ⟨by rfl, ?r⟩) hS ?_
  case r => intro W hW; simp [go_sem, execOp, Act.eval, HQ]
  simp only [List.getElem_toArray, List.getElem_cons_zero, List.getElem_cons_succ, Act.put, List.setIfInBounds_toArray, List.set_cons_succ, List.set_cons_zero]
  refine wpAnyH_done (by kernel_rfl) ?_ _
  refine NoPanic.normal ?_
  try simp only [Act.put]
  have hc6 := (HK.out _ hb6).2.1
  have hd6 := (HK.out _ hb6).2.2
  have HB6 : Hid (Below W2.heap.size W2 w6) := hb6
  have hz6 := hb6.size
  clear hb6 b6 hb5 b5 hB4 hS HQ HTA HTB
  go_wp2_with fail
  refine bodyPost_ret (v := .tuple #[.bool false, .string ⟨#[]⟩]) (by simp [results, Tryd.results59, go_sem]) rfl ⟨rfl, (HK.out _ HB6.out).1⟩

set_option maxRecDepth 100000 in
set_option maxHeartbeats 4000000 in
theorem eqk_5 (t : ByteArray) (a f : Int) (s : ByteArray) (r0 r1 r2 r3 : Int) (pp : Option Addr) (path : List Int) (pc : Nat) (ip : Option Addr) (items : List MD) (ic : Nat) (a' f' : Int) (s' : ByteArray) (r0' r1' r2' r3' : Int) (pp' : Option Addr) (path' : List Int) (pc' : Nat) (ip' : Option Addr) (items' : List MD) (ic' : Nat) (w : World) (ht : t.size ≤ 140737488351232) :
    Calls Tryd.prog 59 #[.agg #[.int .i64 5, .string t, .int .i64 a, .int .u64 f, .string s, .int .i64 r0, .int .i64 r1, .int .i64 r2, .int .i64 r3, .slice pp path.length pc, .slice ip items.length ic], .agg #[.int .i64 5, .string t, .int .i64 a', .int .u64 f', .string s', .int .i64 r0', .int .i64 r1', .int .i64 r2', .int .i64 r3', .slice pp' path'.length pc', .slice ip' items'.length ic']] w fun r w' => r = .returned (.tuple #[.bool false, .string t]) ∧ Below w.heap.size w w' := by
  have HQ : ∀ W, (binOp .neq 96 (.agg #[.int .i64 5, .string t]) (.agg #[.int .i64 5, .string t])).run Tryd.prog W = .ok (.bool false) W := fun W => by rw [typed_neq]; simp
  have HM : Hid (∀ W, Calls Tryd.prog 68 #[.agg #[.int .i64 5, .string t, .int .i64 a, .int .u64 f, .string s, .int .i64 r0, .int .i64 r1, .int .i64 r2, .int .i64 r3, .slice pp path.length pc, .slice ip items.length ic]] W fun r w' => r = .returned (.string t) ∧ Below W.heap.size W w') := fun W => name_any 5 t a f s r0 r1 r2 r3 _ _ W ht
  obtain ⟨W2, hW2⟩ : ∃ W2, W2 = (w.alloc (.cells #[.int .i64 5, .string t, .int .i64 a, .int .u64 f, .string s, .int .i64 r0, .int .i64 r1, .int .i64 r2, .int .i64 r3, .slice pp path.length pc, .slice ip items.length ic] 39)).alloc (.cells #[.int .i64 5, .string t, .int .i64 a', .int .u64 f', .string s', .int .i64 r0', .int .i64 r1', .int .i64 r2', .int .i64 r3', .slice pp' path'.length pc', .slice ip' items'.length ic'] 39) := ⟨_, rfl⟩
  have HK : Hid (∀ W, Below W2.heap.size W2 W → Below w.heap.size w W ∧ (∀ i, W.cell? ⟨w.heap.size, i, none⟩ = (#[.int .i64 5, .string t, .int .i64 a, .int .u64 f, .string s, .int .i64 r0, .int .i64 r1, .int .i64 r2, .int .i64 r3, .slice pp path.length pc, .slice ip items.length ic] : Array Value)[i]?) ∧ (∀ i, W.cell? ⟨w.heap.size + 1, i, none⟩ = (#[.int .i64 5, .string t, .int .i64 a', .int .u64 f', .string s', .int .i64 r0', .int .i64 r1', .int .i64 r2', .int .i64 r3', .slice pp' path'.length pc', .slice ip' items'.length ic'] : Array Value)[i]?)) := fun W hW => by rw [hW2] at hW; exact kept2 hW
  have hz2 : W2.heap.size = w.heap.size + 2 := by rw [hW2]; simp
  have HTA : Hid (∀ W, Calls Tryd.prog 58 #[.agg #[.int .i64 5, .string t, .int .i64 a, .int .u64 f, .string s, .int .i64 r0, .int .i64 r1, .int .i64 r2, .int .i64 r3, .slice pp path.length pc, .slice ip items.length ic]] W fun r w' => r = .returned (.agg #[.int .i64 5, .string t]) ∧ Below W.heap.size W w') := fun W => typeOf_any _ _ _ _ _ _ _ _ _ _ _ W
  have HTB : Hid (∀ W, Calls Tryd.prog 58 #[.agg #[.int .i64 5, .string t, .int .i64 a', .int .u64 f', .string s', .int .i64 r0', .int .i64 r1', .int .i64 r2', .int .i64 r3', .slice pp' path'.length pc', .slice ip' items'.length ic']] W fun r w' => r = .returned (.agg #[.int .i64 5, .string t]) ∧ Below W.heap.size W w') := fun W => typeOf_any _ _ _ _ _ _ _ _ _ _ _ W
  go_enter Tryd.func59, Tryd.ntmps59
  go_wp2_with fail
  rw [← hW2]
  clear hW2
  refine wp_region_noPanic ?_
  refine wp_region_held (S := fun W => (∀ i, W.cell? ⟨w.heap.size, i, none⟩ = (#[.int .i64 5, .string t, .int .i64 a, .int .u64 f, .string s, .int .i64 r0, .int .i64 r1, .int .i64 r2, .int .i64 r3, .slice pp path.length pc, .slice ip items.length ic] : Array Value)[i]?) ∧ (∀ i, W.cell? ⟨w.heap.size + 1, i, none⟩ = (#[.int .i64 5, .string t, .int .i64 a', .int .u64 f', .string s', .int .i64 r0', .int .i64 r1', .int .i64 r2', .int .i64 r3', .slice pp' path'.length pc', .slice ip' items'.length ic'] : Array Value)[i]?)) (by kernel_rfl) ?_
  obtain ⟨W4, hW4⟩ : ∃ W4, W4 = W2.drew := ⟨_, rfl⟩
  have e4 : ({ W2 with drawn := W2.drawn + 1 } : World) = W4 := hW4.symm
  rw [e4]
  have hB4 : Below W2.heap.size W2 W4 := by rw [hW4]; exact (Below.refl _ _).drew
  have hS := (HK.out W4 hB4).2
  clear e4 hW4
  refine wpAnyH_take (i := 0) (v := .agg #[.int .i64 5, .string t, .int .i64 a, .int .u64 f, .string s, .int .i64 r0, .int .i64 r1, .int .i64 r2, .int .i64 r3, .slice pp path.length pc, .slice ip items.length ic]) rfl (by kernel_rfl) (by kernel_rfl) (by kernel_rfl) (fun _ _ _ h => h) (Or.inl ⟨by rfl, ?r⟩) hS ?_
  case r => intro W hW; simp [go_sem, execOp, Act.eval, hW.1]
  simp only [List.getElem_toArray, List.getElem_cons_zero, Act.put, List.setIfInBounds_toArray, List.set_cons_succ, List.set_cons_zero]
  refine wpAnyH_take (i := 2) (v := .agg #[.int .i64 5, .string t, .int .i64 a', .int .u64 f', .string s', .int .i64 r0', .int .i64 r1', .int .i64 r2', .int .i64 r3', .slice pp' path'.length pc', .slice ip' items'.length ic']) rfl (by kernel_rfl) (by kernel_rfl) (by kernel_rfl) (fun _ _ _ h => h) (Or.inl ⟨by rfl, ?r⟩) hS ?_
  case r => intro W hW; simp [go_sem, execOp, Act.eval, hW.2]
  simp only [List.getElem_toArray, List.getElem_cons_zero, List.getElem_cons_succ, Act.put, List.setIfInBounds_toArray, List.set_cons_succ, List.set_cons_zero]
  refine wpAnyH_all (rs := [1]) (by kernel_rfl) (by simp) (fun i2 hi2 => ?_)
  obtain rfl : i2 = 1 := by simpa using hi2
  clear hi2
  refine wpOp_step rfl (fun K hK => ite_yes rfl ?_)
  simp only [List.getElem_toArray, List.getElem_cons_zero, List.getElem_cons_succ]
  go_simp
  refine (HTA.out _).mono ?_
  rintro e w5 ⟨rfl, b5⟩
  have hb5 : Below W2.heap.size W2 w5 := hB4.trans (b5.mono hB4.size)
  go_simp
  refine hK _ _ ⟨(HK.out _ hb5).2, ?_⟩
  clear hK K
  refine wpAnyH_all (rs := [3]) (by kernel_rfl) (by simp) (fun i2 hi2 => ?_)
  obtain rfl : i2 = 3 := by simpa using hi2
  clear hi2
  refine wpOp_step rfl (fun K hK => ite_yes rfl ?_)
  simp only [List.getElem_toArray, List.getElem_cons_zero, List.getElem_cons_succ]
  go_simp
  refine (HTB.out _).mono ?_
  rintro e w6 ⟨rfl, b6⟩
  have hb6 : Below W2.heap.size W2 w6 := hb5.trans (b6.mono hb5.size)
  go_simp
  refine hK _ _ ⟨(HK.out _ hb6).2, ?_⟩
  clear hK K
  clear hS
  have hS := (HK.out _ hb6).2
  refine wpAnyH_take (i := 4) (v := .bool false) rfl (by kernel_rfl) (by kernel_rfl) (by kernel_rfl) (fun _ _ _ h => h) (Or.inl ⟨by rfl, ?r⟩) hS ?_
  case r => intro W hW; simp [go_sem, execOp, Act.eval, HQ]
  simp only [List.getElem_toArray, List.getElem_cons_zero, List.getElem_cons_succ, Act.put, List.setIfInBounds_toArray, List.set_cons_succ, List.set_cons_zero]
  refine wpAnyH_done (by kernel_rfl) ?_ _
  refine NoPanic.normal ?_
  try simp only [Act.put]
  have hc6 := (HK.out _ hb6).2.1
  have hd6 := (HK.out _ hb6).2.2
  have HB6 : Hid (Below W2.heap.size W2 w6) := hb6
  have hz6 := hb6.size
  clear hb6 b6 hb5 b5 hB4 hS HQ HTA HTB
  have hb0 : w6.cell? ⟨w.heap.size, 0, none⟩ = some (.int .i64 5) := hc6 0
  go_wp2_with (first | (go_at_call 66; refine (behind_5 _ _ hb0 (by omega)).mono ?_; rintro r w7 ⟨rfl, b7⟩; have HB7 : Hid (Below W2.heap.size W2 w7) := HB6.out.trans (b7.mono HB6.out.size); have hc7 := (HK.out _ HB7.out).2.1; clear b7) | (go_at_call 68; refine (HM.out _).mono ?_; rintro r w8 ⟨rfl, b8⟩; have HB8 : Hid (Below W2.heap.size W2 w8) := HB7.out.trans (b8.mono HB7.out.size); clear b8))
  refine bodyPost_ret (v := .tuple #[.bool false, .string t]) (by simp [results, Tryd.results59, go_sem]) rfl ⟨rfl, (HK.out _ HB8.out).1⟩

set_option maxRecDepth 100000 in
set_option maxHeartbeats 4000000 in
theorem eqk_6 (t : ByteArray) (a f : Int) (s : ByteArray) (r0 r1 r2 r3 : Int) (pp : Option Addr) (path : List Int) (pc : Nat) (ip : Option Addr) (items : List MD) (ic : Nat) (a' f' : Int) (s' : ByteArray) (r0' r1' r2' r3' : Int) (pp' : Option Addr) (path' : List Int) (pc' : Nat) (ip' : Option Addr) (items' : List MD) (ic' : Nat) (w : World) (ht : t.size ≤ 140737488351232) :
    Calls Tryd.prog 59 #[.agg #[.int .i64 6, .string t, .int .i64 a, .int .u64 f, .string s, .int .i64 r0, .int .i64 r1, .int .i64 r2, .int .i64 r3, .slice pp path.length pc, .slice ip items.length ic], .agg #[.int .i64 6, .string t, .int .i64 a', .int .u64 f', .string s', .int .i64 r0', .int .i64 r1', .int .i64 r2', .int .i64 r3', .slice pp' path'.length pc', .slice ip' items'.length ic']] w fun r w' => r = .returned (.tuple #[.bool false, .string t]) ∧ Below w.heap.size w w' := by
  have HQ : ∀ W, (binOp .neq 96 (.agg #[.int .i64 6, .string t]) (.agg #[.int .i64 6, .string t])).run Tryd.prog W = .ok (.bool false) W := fun W => by rw [typed_neq]; simp
  have HM : Hid (∀ W, Calls Tryd.prog 68 #[.agg #[.int .i64 6, .string t, .int .i64 a, .int .u64 f, .string s, .int .i64 r0, .int .i64 r1, .int .i64 r2, .int .i64 r3, .slice pp path.length pc, .slice ip items.length ic]] W fun r w' => r = .returned (.string t) ∧ Below W.heap.size W w') := fun W => name_any 6 t a f s r0 r1 r2 r3 _ _ W ht
  obtain ⟨W2, hW2⟩ : ∃ W2, W2 = (w.alloc (.cells #[.int .i64 6, .string t, .int .i64 a, .int .u64 f, .string s, .int .i64 r0, .int .i64 r1, .int .i64 r2, .int .i64 r3, .slice pp path.length pc, .slice ip items.length ic] 39)).alloc (.cells #[.int .i64 6, .string t, .int .i64 a', .int .u64 f', .string s', .int .i64 r0', .int .i64 r1', .int .i64 r2', .int .i64 r3', .slice pp' path'.length pc', .slice ip' items'.length ic'] 39) := ⟨_, rfl⟩
  have HK : Hid (∀ W, Below W2.heap.size W2 W → Below w.heap.size w W ∧ (∀ i, W.cell? ⟨w.heap.size, i, none⟩ = (#[.int .i64 6, .string t, .int .i64 a, .int .u64 f, .string s, .int .i64 r0, .int .i64 r1, .int .i64 r2, .int .i64 r3, .slice pp path.length pc, .slice ip items.length ic] : Array Value)[i]?) ∧ (∀ i, W.cell? ⟨w.heap.size + 1, i, none⟩ = (#[.int .i64 6, .string t, .int .i64 a', .int .u64 f', .string s', .int .i64 r0', .int .i64 r1', .int .i64 r2', .int .i64 r3', .slice pp' path'.length pc', .slice ip' items'.length ic'] : Array Value)[i]?)) := fun W hW => by rw [hW2] at hW; exact kept2 hW
  have hz2 : W2.heap.size = w.heap.size + 2 := by rw [hW2]; simp
  have HTA : Hid (∀ W, Calls Tryd.prog 58 #[.agg #[.int .i64 6, .string t, .int .i64 a, .int .u64 f, .string s, .int .i64 r0, .int .i64 r1, .int .i64 r2, .int .i64 r3, .slice pp path.length pc, .slice ip items.length ic]] W fun r w' => r = .returned (.agg #[.int .i64 6, .string t]) ∧ Below W.heap.size W w') := fun W => typeOf_any _ _ _ _ _ _ _ _ _ _ _ W
  have HTB : Hid (∀ W, Calls Tryd.prog 58 #[.agg #[.int .i64 6, .string t, .int .i64 a', .int .u64 f', .string s', .int .i64 r0', .int .i64 r1', .int .i64 r2', .int .i64 r3', .slice pp' path'.length pc', .slice ip' items'.length ic']] W fun r w' => r = .returned (.agg #[.int .i64 6, .string t]) ∧ Below W.heap.size W w') := fun W => typeOf_any _ _ _ _ _ _ _ _ _ _ _ W
  go_enter Tryd.func59, Tryd.ntmps59
  go_wp2_with fail
  rw [← hW2]
  clear hW2
  refine wp_region_noPanic ?_
  refine wp_region_held (S := fun W => (∀ i, W.cell? ⟨w.heap.size, i, none⟩ = (#[.int .i64 6, .string t, .int .i64 a, .int .u64 f, .string s, .int .i64 r0, .int .i64 r1, .int .i64 r2, .int .i64 r3, .slice pp path.length pc, .slice ip items.length ic] : Array Value)[i]?) ∧ (∀ i, W.cell? ⟨w.heap.size + 1, i, none⟩ = (#[.int .i64 6, .string t, .int .i64 a', .int .u64 f', .string s', .int .i64 r0', .int .i64 r1', .int .i64 r2', .int .i64 r3', .slice pp' path'.length pc', .slice ip' items'.length ic'] : Array Value)[i]?)) (by kernel_rfl) ?_
  obtain ⟨W4, hW4⟩ : ∃ W4, W4 = W2.drew := ⟨_, rfl⟩
  have e4 : ({ W2 with drawn := W2.drawn + 1 } : World) = W4 := hW4.symm
  rw [e4]
  have hB4 : Below W2.heap.size W2 W4 := by rw [hW4]; exact (Below.refl _ _).drew
  have hS := (HK.out W4 hB4).2
  clear e4 hW4
  refine wpAnyH_take (i := 0) (v := .agg #[.int .i64 6, .string t, .int .i64 a, .int .u64 f, .string s, .int .i64 r0, .int .i64 r1, .int .i64 r2, .int .i64 r3, .slice pp path.length pc, .slice ip items.length ic]) rfl (by kernel_rfl) (by kernel_rfl) (by kernel_rfl) (fun _ _ _ h => h) (Or.inl ⟨by rfl, ?r⟩) hS ?_
  case r => intro W hW; simp [go_sem, execOp, Act.eval, hW.1]
  simp only [List.getElem_toArray, List.getElem_cons_zero, Act.put, List.setIfInBounds_toArray, List.set_cons_succ, List.set_cons_zero]
  refine wpAnyH_take (i := 2) (v := .agg #[.int .i64 6, .string t, .int .i64 a', .int .u64 f', .string s', .int .i64 r0', .int .i64 r1', .int .i64 r2', .int .i64 r3', .slice pp' path'.length pc', .slice ip' items'.length ic']) rfl (by kernel_rfl) (by kernel_rfl) (by kernel_rfl) (fun _ _ _ h => h) (Or.inl ⟨by rfl, ?r⟩) hS ?_
  case r => intro W hW; simp [go_sem, execOp, Act.eval, hW.2]
  simp only [List.getElem_toArray, List.getElem_cons_zero, List.getElem_cons_succ, Act.put, List.setIfInBounds_toArray, List.set_cons_succ, List.set_cons_zero]
  refine wpAnyH_all (rs := [1]) (by kernel_rfl) (by simp) (fun i2 hi2 => ?_)
  obtain rfl : i2 = 1 := by simpa using hi2
  clear hi2
  refine wpOp_step rfl (fun K hK => ite_yes rfl ?_)
  simp only [List.getElem_toArray, List.getElem_cons_zero, List.getElem_cons_succ]
  go_simp
  refine (HTA.out _).mono ?_
  rintro e w5 ⟨rfl, b5⟩
  have hb5 : Below W2.heap.size W2 w5 := hB4.trans (b5.mono hB4.size)
  go_simp
  refine hK _ _ ⟨(HK.out _ hb5).2, ?_⟩
  clear hK K
  refine wpAnyH_all (rs := [3]) (by kernel_rfl) (by simp) (fun i2 hi2 => ?_)
  obtain rfl : i2 = 3 := by simpa using hi2
  clear hi2
  refine wpOp_step rfl (fun K hK => ite_yes rfl ?_)
  simp only [List.getElem_toArray, List.getElem_cons_zero, List.getElem_cons_succ]
  go_simp
  refine (HTB.out _).mono ?_
  rintro e w6 ⟨rfl, b6⟩
  have hb6 : Below W2.heap.size W2 w6 := hb5.trans (b6.mono hb5.size)
  go_simp
  refine hK _ _ ⟨(HK.out _ hb6).2, ?_⟩
  clear hK K
  clear hS
  have hS := (HK.out _ hb6).2
  refine wpAnyH_take (i := 4) (v := .bool false) rfl (by kernel_rfl) (by kernel_rfl) (by kernel_rfl) (fun _ _ _ h => h) (Or.inl ⟨by rfl, ?r⟩) hS ?_
  case r => intro W hW; simp [go_sem, execOp, Act.eval, HQ]
  simp only [List.getElem_toArray, List.getElem_cons_zero, List.getElem_cons_succ, Act.put, List.setIfInBounds_toArray, List.set_cons_succ, List.set_cons_zero]
  refine wpAnyH_done (by kernel_rfl) ?_ _
  refine NoPanic.normal ?_
  try simp only [Act.put]
  have hc6 := (HK.out _ hb6).2.1
  have hd6 := (HK.out _ hb6).2.2
  have HB6 : Hid (Below W2.heap.size W2 w6) := hb6
  have hz6 := hb6.size
  clear hb6 b6 hb5 b5 hB4 hS HQ HTA HTB
  have hb0 : w6.cell? ⟨w.heap.size, 0, none⟩ = some (.int .i64 6) := hc6 0
  go_wp2_with (first | (go_at_call 66; refine (behind_6 _ _ hb0 (by omega)).mono ?_; rintro r w7 ⟨rfl, b7⟩; have HB7 : Hid (Below W2.heap.size W2 w7) := HB6.out.trans (b7.mono HB6.out.size); have hc7 := (HK.out _ HB7.out).2.1; clear b7) | (go_at_call 68; refine (HM.out _).mono ?_; rintro r w8 ⟨rfl, b8⟩; have HB8 : Hid (Below W2.heap.size W2 w8) := HB7.out.trans (b8.mono HB7.out.size); clear b8))
  refine bodyPost_ret (v := .tuple #[.bool false, .string t]) (by simp [results, Tryd.results59, go_sem]) rfl ⟨rfl, (HK.out _ HB8.out).1⟩

set_option maxRecDepth 100000 in
set_option maxHeartbeats 4000000 in
theorem eqk_7 (t : ByteArray) (a f : Int) (s : ByteArray) (r0 r1 r2 r3 : Int) (pp : Option Addr) (path : List Int) (pc : Nat) (ip : Option Addr) (items : List MD) (ic : Nat) (a' f' : Int) (s' : ByteArray) (r0' r1' r2' r3' : Int) (pp' : Option Addr) (path' : List Int) (pc' : Nat) (ip' : Option Addr) (items' : List MD) (ic' : Nat) (w : World) (ht : t.size ≤ 140737488351232) :
    Calls Tryd.prog 59 #[.agg #[.int .i64 7, .string t, .int .i64 a, .int .u64 f, .string s, .int .i64 r0, .int .i64 r1, .int .i64 r2, .int .i64 r3, .slice pp path.length pc, .slice ip items.length ic], .agg #[.int .i64 7, .string t, .int .i64 a', .int .u64 f', .string s', .int .i64 r0', .int .i64 r1', .int .i64 r2', .int .i64 r3', .slice pp' path'.length pc', .slice ip' items'.length ic']] w fun r w' => r = .returned (.tuple #[.bool false, .string t]) ∧ Below w.heap.size w w' := by
  have HQ : ∀ W, (binOp .neq 96 (.agg #[.int .i64 7, .string t]) (.agg #[.int .i64 7, .string t])).run Tryd.prog W = .ok (.bool false) W := fun W => by rw [typed_neq]; simp
  have HM : Hid (∀ W, Calls Tryd.prog 68 #[.agg #[.int .i64 7, .string t, .int .i64 a, .int .u64 f, .string s, .int .i64 r0, .int .i64 r1, .int .i64 r2, .int .i64 r3, .slice pp path.length pc, .slice ip items.length ic]] W fun r w' => r = .returned (.string t) ∧ Below W.heap.size W w') := fun W => name_any 7 t a f s r0 r1 r2 r3 _ _ W ht
  obtain ⟨W2, hW2⟩ : ∃ W2, W2 = (w.alloc (.cells #[.int .i64 7, .string t, .int .i64 a, .int .u64 f, .string s, .int .i64 r0, .int .i64 r1, .int .i64 r2, .int .i64 r3, .slice pp path.length pc, .slice ip items.length ic] 39)).alloc (.cells #[.int .i64 7, .string t, .int .i64 a', .int .u64 f', .string s', .int .i64 r0', .int .i64 r1', .int .i64 r2', .int .i64 r3', .slice pp' path'.length pc', .slice ip' items'.length ic'] 39) := ⟨_, rfl⟩
  have HK : Hid (∀ W, Below W2.heap.size W2 W → Below w.heap.size w W ∧ (∀ i, W.cell? ⟨w.heap.size, i, none⟩ = (#[.int .i64 7, .string t, .int .i64 a, .int .u64 f, .string s, .int .i64 r0, .int .i64 r1, .int .i64 r2, .int .i64 r3, .slice pp path.length pc, .slice ip items.length ic] : Array Value)[i]?) ∧ (∀ i, W.cell? ⟨w.heap.size + 1, i, none⟩ = (#[.int .i64 7, .string t, .int .i64 a', .int .u64 f', .string s', .int .i64 r0', .int .i64 r1', .int .i64 r2', .int .i64 r3', .slice pp' path'.length pc', .slice ip' items'.length ic'] : Array Value)[i]?)) := fun W hW => by rw [hW2] at hW; exact kept2 hW
  have hz2 : W2.heap.size = w.heap.size + 2 := by rw [hW2]; simp
  have HTA : Hid (∀ W, Calls Tryd.prog 58 #[.agg #[.int .i64 7, .string t, .int .i64 a, .int .u64 f, .string s, .int .i64 r0, .int .i64 r1, .int .i64 r2, .int .i64 r3, .slice pp path.length pc, .slice ip items.length ic]] W fun r w' => r = .returned (.agg #[.int .i64 7, .string t]) ∧ Below W.heap.size W w') := fun W => typeOf_any _ _ _ _ _ _ _ _ _ _ _ W
  have HTB : Hid (∀ W, Calls Tryd.prog 58 #[.agg #[.int .i64 7, .string t, .int .i64 a', .int .u64 f', .string s', .int .i64 r0', .int .i64 r1', .int .i64 r2', .int .i64 r3', .slice pp' path'.length pc', .slice ip' items'.length ic']] W fun r w' => r = .returned (.agg #[.int .i64 7, .string t]) ∧ Below W.heap.size W w') := fun W => typeOf_any _ _ _ _ _ _ _ _ _ _ _ W
  go_enter Tryd.func59, Tryd.ntmps59
  go_wp2_with fail
  rw [← hW2]
  clear hW2
  refine wp_region_noPanic ?_
  refine wp_region_held (S := fun W => (∀ i, W.cell? ⟨w.heap.size, i, none⟩ = (#[.int .i64 7, .string t, .int .i64 a, .int .u64 f, .string s, .int .i64 r0, .int .i64 r1, .int .i64 r2, .int .i64 r3, .slice pp path.length pc, .slice ip items.length ic] : Array Value)[i]?) ∧ (∀ i, W.cell? ⟨w.heap.size + 1, i, none⟩ = (#[.int .i64 7, .string t, .int .i64 a', .int .u64 f', .string s', .int .i64 r0', .int .i64 r1', .int .i64 r2', .int .i64 r3', .slice pp' path'.length pc', .slice ip' items'.length ic'] : Array Value)[i]?)) (by kernel_rfl) ?_
  obtain ⟨W4, hW4⟩ : ∃ W4, W4 = W2.drew := ⟨_, rfl⟩
  have e4 : ({ W2 with drawn := W2.drawn + 1 } : World) = W4 := hW4.symm
  rw [e4]
  have hB4 : Below W2.heap.size W2 W4 := by rw [hW4]; exact (Below.refl _ _).drew
  have hS := (HK.out W4 hB4).2
  clear e4 hW4
  refine wpAnyH_take (i := 0) (v := .agg #[.int .i64 7, .string t, .int .i64 a, .int .u64 f, .string s, .int .i64 r0, .int .i64 r1, .int .i64 r2, .int .i64 r3, .slice pp path.length pc, .slice ip items.length ic]) rfl (by kernel_rfl) (by kernel_rfl) (by kernel_rfl) (fun _ _ _ h => h) (Or.inl ⟨by rfl, ?r⟩) hS ?_
  case r => intro W hW; simp [go_sem, execOp, Act.eval, hW.1]
  simp only [List.getElem_toArray, List.getElem_cons_zero, Act.put, List.setIfInBounds_toArray, List.set_cons_succ, List.set_cons_zero]
  refine wpAnyH_take (i := 2) (v := .agg #[.int .i64 7, .string t, .int .i64 a', .int .u64 f', .string s', .int .i64 r0', .int .i64 r1', .int .i64 r2', .int .i64 r3', .slice pp' path'.length pc', .slice ip' items'.length ic']) rfl (by kernel_rfl) (by kernel_rfl) (by kernel_rfl) (fun _ _ _ h => h) (Or.inl ⟨by rfl, ?r⟩) hS ?_
  case r => intro W hW; simp [go_sem, execOp, Act.eval, hW.2]
  simp only [List.getElem_toArray, List.getElem_cons_zero, List.getElem_cons_succ, Act.put, List.setIfInBounds_toArray, List.set_cons_succ, List.set_cons_zero]
  refine wpAnyH_all (rs := [1]) (by kernel_rfl) (by simp) (fun i2 hi2 => ?_)
  obtain rfl : i2 = 1 := by simpa using hi2
  clear hi2
  refine wpOp_step rfl (fun K hK => ite_yes rfl ?_)
  simp only [List.getElem_toArray, List.getElem_cons_zero, List.getElem_cons_succ]
  go_simp
  refine (HTA.out _).mono ?_
  rintro e w5 ⟨rfl, b5⟩
  have hb5 : Below W2.heap.size W2 w5 := hB4.trans (b5.mono hB4.size)
  go_simp
  refine hK _ _ ⟨(HK.out _ hb5).2, ?_⟩
  clear hK K
  refine wpAnyH_all (rs := [3]) (by kernel_rfl) (by simp) (fun i2 hi2 => ?_)
  obtain rfl : i2 = 3 := by simpa using hi2
  clear hi2
  refine wpOp_step rfl (fun K hK => ite_yes rfl ?_)
  simp only [List.getElem_toArray, List.getElem_cons_zero, List.getElem_cons_succ]
  go_simp
  refine (HTB.out _).mono ?_
  rintro e w6 ⟨rfl, b6⟩
  have hb6 : Below W2.heap.size W2 w6 := hb5.trans (b6.mono hb5.size)
  go_simp
  refine hK _ _ ⟨(HK.out _ hb6).2, ?_⟩
  clear hK K
  clear hS
  have hS := (HK.out _ hb6).2
  refine wpAnyH_take (i := 4) (v := .bool false) rfl (by kernel_rfl) (by kernel_rfl) (by kernel_rfl) (fun _ _ _ h => h) (Or.inl ⟨by rfl, ?r⟩) hS ?_
  case r => intro W hW; simp [go_sem, execOp, Act.eval, HQ]
  simp only [List.getElem_toArray, List.getElem_cons_zero, List.getElem_cons_succ, Act.put, List.setIfInBounds_toArray, List.set_cons_succ, List.set_cons_zero]
  refine wpAnyH_done (by kernel_rfl) ?_ _
  refine NoPanic.normal ?_
  try simp only [Act.put]
  have hc6 := (HK.out _ hb6).2.1
  have hd6 := (HK.out _ hb6).2.2
  have HB6 : Hid (Below W2.heap.size W2 w6) := hb6
  have hz6 := hb6.size
  clear hb6 b6 hb5 b5 hB4 hS HQ HTA HTB
  have hb0 : w6.cell? ⟨w.heap.size, 0, none⟩ = some (.int .i64 7) := hc6 0
  go_wp2_with (first | (go_at_call 66; refine (behind_7 _ _ hb0 (by omega)).mono ?_; rintro r w7 ⟨rfl, b7⟩; have HB7 : Hid (Below W2.heap.size W2 w7) := HB6.out.trans (b7.mono HB6.out.size); have hc7 := (HK.out _ HB7.out).2.1; clear b7) | (go_at_call 68; refine (HM.out _).mono ?_; rintro r w8 ⟨rfl, b8⟩; have HB8 : Hid (Below W2.heap.size W2 w8) := HB7.out.trans (b8.mono HB7.out.size); clear b8))
  refine bodyPost_ret (v := .tuple #[.bool false, .string t]) (by simp [results, Tryd.results59, go_sem]) rfl ⟨rfl, (HK.out _ HB8.out).1⟩

set_option maxRecDepth 100000 in
set_option maxHeartbeats 8000000 in
theorem eqk_0 (t : ByteArray) (a f : Int) (s : ByteArray) (r0 r1 r2 r3 : Int) (pp : Option Addr) (path : List Int) (pc : Nat) (ip : Option Addr) (items : List MD) (ic : Nat) (a' f' : Int) (s' : ByteArray) (r0' r1' r2' r3' : Int) (pp' : Option Addr) (path' : List Int) (pc' : Nat) (ip' : Option Addr) (items' : List MD) (ic' : Nat) (w : World)
    (hF : MD.Fine ⟨0, t, a, f, s, r0, r1, r2, r3, pp, path, pc⟩) (hF' : MD.Fine ⟨0, t, a', f', s', r0', r1', r2', r3', pp', path', pc'⟩) (hP : MD.PathIn w.heap.size w ⟨0, t, a, f, s, r0, r1, r2, r3, pp, path, pc⟩) (hP' : MD.PathIn w.heap.size w ⟨0, t, a', f', s', r0', r1', r2', r3', pp', path', pc'⟩)
    (hp : path.length ≤ 100) (hb : ∀ z ∈ path, 0 ≤ z ∧ z < 30) (hp' : path'.length ≤ 100) (hb' : ∀ z ∈ path', 0 ≤ z ∧ z < 30) :
    Calls Tryd.prog 59 #[.agg #[.int .i64 0, .string t, .int .i64 a, .int .u64 f, .string s, .int .i64 r0, .int .i64 r1, .int .i64 r2, .int .i64 r3, .slice pp path.length pc, .slice ip items.length ic], .agg #[.int .i64 0, .string t, .int .i64 a', .int .u64 f', .string s', .int .i64 r0', .int .i64 r1', .int .i64 r2', .int .i64 r3', .slice pp' path'.length pc', .slice ip' items'.length ic']] w fun r w' => r = .returned (.tuple #[.bool (decide (a = a' ∧ nz f = nz f' ∧ s = s' ∧ r0 = r0' ∧ path = path')), .string ⟨#[]⟩]) ∧ Below w.heap.size w w' := by
  have HQ : ∀ W, (binOp .neq 96 (.agg #[.int .i64 0, .string t]) (.agg #[.int .i64 0, .string t])).run Tryd.prog W = .ok (.bool false) W := fun W => by rw [typed_neq]; simp
  obtain ⟨q, hq⟩ : ∃ q, q = decide (a = a' ∧ nz f = nz f' ∧ s = s' ∧ r0 = r0' ∧ path = path') := ⟨_, rfl⟩
  have HE : Hid (∀ W, (binOp .eql 122 (.agg (coreF Tryd.zeroCells122 0 t a f s r0 path)) (.agg (coreF Tryd.zeroCells122 0 t a' f' s' r0' path'))).run Tryd.prog W = .ok (.bool q) W) := fun W => by
    have h := core_eql ⟨0, t, a, f, s, r0, r1, r2, r3, pp, path, pc⟩ ⟨0, t, a', f', s', r0', r1', r2', r3', pp', path', pc'⟩ hF hF' hp hb hp' hb' W
    rw [h, hq]; simp
  have HCA : Hid (∀ W, Below w.heap.size w W → Calls Tryd.prog 60 #[.agg #[.int .i64 0, .string t, .int .i64 a, .int .u64 f, .string s, .int .i64 r0, .int .i64 r1, .int .i64 r2, .int .i64 r3, .slice pp path.length pc, .slice ip items.length ic]] W fun r w' => r = .returned (.agg (coreF Tryd.zeroCells122 0 t a f s r0 path)) ∧ Below W.heap.size W w') := fun W hW => coreOf_any 0 t a f s r0 r1 r2 r3 pp path pc ip items.length ic W hp hb (hP.later (Nat.le_refl _) hW).2
  have HCB : Hid (∀ W, Below w.heap.size w W → Calls Tryd.prog 60 #[.agg #[.int .i64 0, .string t, .int .i64 a', .int .u64 f', .string s', .int .i64 r0', .int .i64 r1', .int .i64 r2', .int .i64 r3', .slice pp' path'.length pc', .slice ip' items'.length ic']] W fun r w' => r = .returned (.agg (coreF Tryd.zeroCells122 0 t a' f' s' r0' path')) ∧ Below W.heap.size W w') := fun W hW => coreOf_any 0 t a' f' s' r0' r1' r2' r3' pp' path' pc' ip' items'.length ic' W hp' hb' (hP'.later (Nat.le_refl _) hW).2
  rw [← hq]
  clear hq hF hF' hP hP' hp hb hp' hb'
  generalize coreF Tryd.zeroCells122 0 t a f s r0 path = ca at HE HCA
  generalize coreF Tryd.zeroCells122 0 t a' f' s' r0' path' = cb at HE HCB
  obtain ⟨W2, hW2⟩ : ∃ W2, W2 = (w.alloc (.cells #[.int .i64 0, .string t, .int .i64 a, .int .u64 f, .string s, .int .i64 r0, .int .i64 r1, .int .i64 r2, .int .i64 r3, .slice pp path.length pc, .slice ip items.length ic] 39)).alloc (.cells #[.int .i64 0, .string t, .int .i64 a', .int .u64 f', .string s', .int .i64 r0', .int .i64 r1', .int .i64 r2', .int .i64 r3', .slice pp' path'.length pc', .slice ip' items'.length ic'] 39) := ⟨_, rfl⟩
  have HK : Hid (∀ W, Below W2.heap.size W2 W → Below w.heap.size w W ∧ (∀ i, W.cell? ⟨w.heap.size, i, none⟩ = (#[.int .i64 0, .string t, .int .i64 a, .int .u64 f, .string s, .int .i64 r0, .int .i64 r1, .int .i64 r2, .int .i64 r3, .slice pp path.length pc, .slice ip items.length ic] : Array Value)[i]?) ∧ (∀ i, W.cell? ⟨w.heap.size + 1, i, none⟩ = (#[.int .i64 0, .string t, .int .i64 a', .int .u64 f', .string s', .int .i64 r0', .int .i64 r1', .int .i64 r2', .int .i64 r3', .slice pp' path'.length pc', .slice ip' items'.length ic'] : Array Value)[i]?)) := fun W hW => by rw [hW2] at hW; exact kept2 hW
  have hz2 : W2.heap.size = w.heap.size + 2 := by rw [hW2]; simp
  have HTA : Hid (∀ W, Calls Tryd.prog 58 #[.agg #[.int .i64 0, .string t, .int .i64 a, .int .u64 f, .string s, .int .i64 r0, .int .i64 r1, .int .i64 r2, .int .i64 r3, .slice pp path.length pc, .slice ip items.length ic]] W fun r w' => r = .returned (.agg #[.int .i64 0, .string t]) ∧ Below W.heap.size W w') := fun W => typeOf_any _ _ _ _ _ _ _ _ _ _ _ W
  have HTB : Hid (∀ W, Calls Tryd.prog 58 #[.agg #[.int .i64 0, .string t, .int .i64 a', .int .u64 f', .string s', .int .i64 r0', .int .i64 r1', .int .i64 r2', .int .i64 r3', .slice pp' path'.length pc', .slice ip' items'.length ic']] W fun r w' => r = .returned (.agg #[.int .i64 0, .string t]) ∧ Below W.heap.size W w') := fun W => typeOf_any _ _ _ _ _ _ _ _ _ _ _ W
  go_enter Tryd.func59, Tryd.ntmps59
  go_wp2_with fail
  rw [← hW2]
  clear hW2
  refine wp_region_noPanic ?_
  refine wp_region_held (S := fun W => (∀ i, W.cell? ⟨w.heap.size, i, none⟩ = (#[.int .i64 0, .string t, .int .i64 a, .int .u64 f, .string s, .int .i64 r0, .int .i64 r1, .int .i64 r2, .int .i64 r3, .slice pp path.length pc, .slice ip items.length ic] : Array Value)[i]?) ∧ (∀ i, W.cell? ⟨w.heap.size + 1, i, none⟩ = (#[.int .i64 0, .string t, .int .i64 a', .int .u64 f', .string s', .int .i64 r0', .int .i64 r1', .int .i64 r2', .int .i64 r3', .slice pp' path'.length pc', .slice ip' items'.length ic'] : Array Value)[i]?)) (by kernel_rfl) ?_
  obtain ⟨W4, hW4⟩ : ∃ W4, W4 = W2.drew := ⟨_, rfl⟩
  have e4 : ({ W2 with drawn := W2.drawn + 1 } : World) = W4 := hW4.symm
  rw [e4]
  have hB4 : Below W2.heap.size W2 W4 := by rw [hW4]; exact (Below.refl _ _).drew
  have hS := (HK.out W4 hB4).2
  clear e4 hW4
  refine wpAnyH_take (i := 0) (v := .agg #[.int .i64 0, .string t, .int .i64 a, .int .u64 f, .string s, .int .i64 r0, .int .i64 r1, .int .i64 r2, .int .i64 r3, .slice pp path.length pc, .slice ip items.length ic]) rfl (by kernel_rfl) (by kernel_rfl) (by kernel_rfl) (fun _ _ _ h => h) (Or.inl ⟨by rfl, ?r⟩) hS ?_
  case r => intro W hW; simp [go_sem, execOp, Act.eval, hW.1]
  simp only [List.getElem_toArray, List.getElem_cons_zero, Act.put, List.setIfInBounds_toArray, List.set_cons_succ, List.set_cons_zero]
  refine wpAnyH_take (i := 2) (v := .agg #[.int .i64 0, .string t, .int .i64 a', .int .u64 f', .string s', .int .i64 r0', .int .i64 r1', .int .i64 r2', .int .i64 r3', .slice pp' path'.length pc', .slice ip' items'.length ic']) rfl (by kernel_rfl) (by kernel_rfl) (by kernel_rfl) (fun _ _ _ h => h) (Or.inl ⟨by rfl, ?r⟩) hS ?_
  case r => intro W hW; simp [go_sem, execOp, Act.eval, hW.2]
  simp only [List.getElem_toArray, List.getElem_cons_zero, List.getElem_cons_succ, Act.put, List.setIfInBounds_toArray, List.set_cons_succ, List.set_cons_zero]
  refine wpAnyH_all (rs := [1]) (by kernel_rfl) (by simp) (fun i2 hi2 => ?_)
  obtain rfl : i2 = 1 := by simpa using hi2
  clear hi2
  refine wpOp_step rfl (fun K hK => ite_yes rfl ?_)
  simp only [List.getElem_toArray, List.getElem_cons_zero, List.getElem_cons_succ]
  go_simp
  refine (HTA.out _).mono ?_
  rintro e w5 ⟨rfl, b5⟩
  have hb5 : Below W2.heap.size W2 w5 := hB4.trans (b5.mono hB4.size)
  go_simp
  refine hK _ _ ⟨(HK.out _ hb5).2, ?_⟩
  clear hK K
  refine wpAnyH_all (rs := [3]) (by kernel_rfl) (by simp) (fun i2 hi2 => ?_)
  obtain rfl : i2 = 3 := by simpa using hi2
  clear hi2
  refine wpOp_step rfl (fun K hK => ite_yes rfl ?_)
  simp only [List.getElem_toArray, List.getElem_cons_zero, List.getElem_cons_succ]
  go_simp
  refine (HTB.out _).mono ?_
  rintro e w6 ⟨rfl, b6⟩
  have hb6 : Below W2.heap.size W2 w6 := hb5.trans (b6.mono hb5.size)
  go_simp
  refine hK _ _ ⟨(HK.out _ hb6).2, ?_⟩
  clear hK K
  clear hS
  have hS := (HK.out _ hb6).2
  refine wpAnyH_take (i := 4) (v := .bool false) rfl (by kernel_rfl) (by kernel_rfl) (by kernel_rfl) (fun _ _ _ h => h) (Or.inl ⟨by rfl, ?r⟩) hS ?_
  case r => intro W hW; simp [go_sem, execOp, Act.eval, HQ]
  simp only [List.getElem_toArray, List.getElem_cons_zero, List.getElem_cons_succ, Act.put, List.setIfInBounds_toArray, List.set_cons_succ, List.set_cons_zero]
  refine wpAnyH_done (by kernel_rfl) ?_ _
  refine NoPanic.normal ?_
  try simp only [Act.put]
  have hc6 := (HK.out _ hb6).2.1
  have hd6 := (HK.out _ hb6).2.2
  have HB6 : Hid (Below W2.heap.size W2 w6) := hb6
  have hz6 := hb6.size
  clear hb6 b6 hb5 b5 hB4 hS HQ HTA HTB
  have hb0 : w6.cell? ⟨w.heap.size, 0, none⟩ = some (.int .i64 0) := hc6 0
  go_wp2_with (go_at_call 66; refine (behind_0 _ _ hb0 (by omega)).mono ?_; rintro r w7 ⟨rfl, b7⟩; have HB7 : Hid (Below W2.heap.size W2 w7) := HB6.out.trans (b7.mono HB6.out.size); clear b7)
  clear hc6 hd6 hb0
  refine wp_region_noPanic ?_
  refine wp_region_held (S := fun W => (∀ i, W.cell? ⟨w.heap.size, i, none⟩ = (#[.int .i64 0, .string t, .int .i64 a, .int .u64 f, .string s, .int .i64 r0, .int .i64 r1, .int .i64 r2, .int .i64 r3, .slice pp path.length pc, .slice ip items.length ic] : Array Value)[i]?) ∧ (∀ i, W.cell? ⟨w.heap.size + 1, i, none⟩ = (#[.int .i64 0, .string t, .int .i64 a', .int .u64 f', .string s', .int .i64 r0', .int .i64 r1', .int .i64 r2', .int .i64 r3', .slice pp' path'.length pc', .slice ip' items'.length ic'] : Array Value)[i]?)) (by kernel_rfl) ?_
  obtain ⟨W8, hW8⟩ : ∃ W8, W8 = w7.drew := ⟨_, rfl⟩
  have e8 : ({ w7 with drawn := w7.drawn + 1 } : World) = W8 := hW8.symm
  rw [e8]
  have hB8 : Below W2.heap.size W2 W8 := by rw [hW8]; exact HB7.out.drew
  have hS := (HK.out W8 hB8).2
  clear e8 hW8
  refine wpAnyH_take (i := 0) (v := .agg #[.int .i64 0, .string t, .int .i64 a, .int .u64 f, .string s, .int .i64 r0, .int .i64 r1, .int .i64 r2, .int .i64 r3, .slice pp path.length pc, .slice ip items.length ic]) rfl (by kernel_rfl) (by kernel_rfl) (by kernel_rfl) (fun _ _ _ h => h) (Or.inl ⟨by rfl, ?r⟩) hS ?_
  case r => intro W hW; simp [go_sem, execOp, Act.eval, hW.1]
  simp only [List.getElem_toArray, List.getElem_cons_zero, Act.put, List.setIfInBounds_toArray, List.set_cons_succ, List.set_cons_zero]
  refine wpAnyH_take (i := 2) (v := .agg #[.int .i64 0, .string t, .int .i64 a', .int .u64 f', .string s', .int .i64 r0', .int .i64 r1', .int .i64 r2', .int .i64 r3', .slice pp' path'.length pc', .slice ip' items'.length ic']) rfl (by kernel_rfl) (by kernel_rfl) (by kernel_rfl) (fun _ _ _ h => h) (Or.inl ⟨by rfl, ?r⟩) hS ?_
  case r => intro W hW; simp [go_sem, execOp, Act.eval, hW.2]
  simp only [List.getElem_toArray, List.getElem_cons_zero, List.getElem_cons_succ, Act.put, List.setIfInBounds_toArray, List.set_cons_succ, List.set_cons_zero]
  refine wpAnyH_all (rs := [1]) (by kernel_rfl) (by simp) (fun i2 hi2 => ?_)
  obtain rfl : i2 = 1 := by simpa using hi2
  clear hi2
  refine wpOp_step rfl (fun K hK => ite_yes rfl ?_)
  simp only [List.getElem_toArray, List.getElem_cons_zero, List.getElem_cons_succ]
  go_simp
  refine (HCA.out _ (HK.out _ hB8).1).mono ?_
  rintro e w9 ⟨rfl, b9⟩
  have hb9 : Below W2.heap.size W2 w9 := hB8.trans (b9.mono hB8.size)
  go_simp
  refine hK _ _ ⟨(HK.out _ hb9).2, ?_⟩
  clear hK K
  refine wpAnyH_all (rs := [3]) (by kernel_rfl) (by simp) (fun i2 hi2 => ?_)
  obtain rfl : i2 = 3 := by simpa using hi2
  clear hi2
  refine wpOp_step rfl (fun K hK => ite_yes rfl ?_)
  simp only [List.getElem_toArray, List.getElem_cons_zero, List.getElem_cons_succ]
  go_simp
  refine (HCB.out _ (HK.out _ hb9).1).mono ?_
  rintro e w10 ⟨rfl, b10⟩
  have hb10 : Below W2.heap.size W2 w10 := hb9.trans (b10.mono hb9.size)
  go_simp
  refine hK _ _ ⟨(HK.out _ hb10).2, ?_⟩
  clear hK K
  clear hS
  have hS := (HK.out _ hb10).2
  have HQ2 := HE.out
  refine wpAnyH_take (i := 4) (v := .bool q) rfl (by kernel_rfl) (by kernel_rfl) (by kernel_rfl) (fun _ _ _ h => h) (Or.inl ⟨by rfl, ?r⟩) hS ?_
  case r => intro W hW; simp [go_sem, execOp, Act.eval, HQ2]
  simp only [List.getElem_toArray, List.getElem_cons_zero, List.getElem_cons_succ, Act.put, List.setIfInBounds_toArray, List.set_cons_succ, List.set_cons_zero]
  refine wpAnyH_take (i := 5) (v := .bool q) rfl (by kernel_rfl) (by kernel_rfl) (by kernel_rfl) (fun _ _ _ h => h) (Or.inl ⟨by rfl, ?r⟩) hS ?_
  case r => intro W hW; simp [go_sem, execOp, Act.eval]
  simp only [List.getElem_toArray, List.getElem_cons_zero, List.getElem_cons_succ, Act.put, List.setIfInBounds_toArray, List.set_cons_succ, List.set_cons_zero]
  refine wpAnyH_take (i := 6) (v := .string ⟨#[]⟩) rfl (by kernel_rfl) (by kernel_rfl) (by kernel_rfl) (fun _ _ _ h => h) (Or.inl ⟨by rfl, ?r⟩) hS ?_
  case r => intro W hW; simp [go_sem, execOp, Act.eval]
  simp only [List.getElem_toArray, List.getElem_cons_zero, List.getElem_cons_succ, Act.put, List.setIfInBounds_toArray, List.set_cons_succ, List.set_cons_zero]
  refine wpAnyH_done (by kernel_rfl) ?_ _
  refine NoPanic.normal ?_
  try simp only [Act.put]
  go_wp2_with fail
  refine bodyPost_ret (v := .tuple #[.bool q, .string ⟨#[]⟩]) (by simp [results, Tryd.results59, go_sem]) rfl ⟨rfl, (HK.out _ hb10).1⟩

set_option maxRecDepth 100000 in
set_option maxHeartbeats 8000000 in
theorem eqk_1 (t : ByteArray) (a f : Int) (s : ByteArray) (r0 r1 r2 r3 : Int) (pp : Option Addr) (path : List Int) (pc : Nat) (ip : Option Addr) (items : List MD) (ic : Nat) (a' f' : Int) (s' : ByteArray) (r0' r1' r2' r3' : Int) (pp' : Option Addr) (path' : List Int) (pc' : Nat) (ip' : Option Addr) (items' : List MD) (ic' : Nat) (w : World)
    (hF : MD.Fine ⟨1, t, a, f, s, r0, r1, r2, r3, pp, path, pc⟩) (hF' : MD.Fine ⟨1, t, a', f', s', r0', r1', r2', r3', pp', path', pc'⟩) (hP : MD.PathIn w.heap.size w ⟨1, t, a, f, s, r0, r1, r2, r3, pp, path, pc⟩) (hP' : MD.PathIn w.heap.size w ⟨1, t, a', f', s', r0', r1', r2', r3', pp', path', pc'⟩)
    (hp : path.length ≤ 100) (hb : ∀ z ∈ path, 0 ≤ z ∧ z < 30) (hp' : path'.length ≤ 100) (hb' : ∀ z ∈ path', 0 ≤ z ∧ z < 30) :
    Calls Tryd.prog 59 #[.agg #[.int .i64 1, .string t, .int .i64 a, .int .u64 f, .string s, .int .i64 r0, .int .i64 r1, .int .i64 r2, .int .i64 r3, .slice pp path.length pc, .slice ip items.length ic], .agg #[.int .i64 1, .string t, .int .i64 a', .int .u64 f', .string s', .int .i64 r0', .int .i64 r1', .int .i64 r2', .int .i64 r3', .slice pp' path'.length pc', .slice ip' items'.length ic']] w fun r w' => r = .returned (.tuple #[.bool (decide (a = a' ∧ nz f = nz f' ∧ s = s' ∧ r0 = r0' ∧ path = path')), .string ⟨#[]⟩]) ∧ Below w.heap.size w w' := by
  have HQ : ∀ W, (binOp .neq 96 (.agg #[.int .i64 1, .string t]) (.agg #[.int .i64 1, .string t])).run Tryd.prog W = .ok (.bool false) W := fun W => by rw [typed_neq]; simp
  obtain ⟨q, hq⟩ : ∃ q, q = decide (a = a' ∧ nz f = nz f' ∧ s = s' ∧ r0 = r0' ∧ path = path') := ⟨_, rfl⟩
  have HE : Hid (∀ W, (binOp .eql 122 (.agg (coreF Tryd.zeroCells122 1 t a f s r0 path)) (.agg (coreF Tryd.zeroCells122 1 t a' f' s' r0' path'))).run Tryd.prog W = .ok (.bool q) W) := fun W => by
    have h := core_eql ⟨1, t, a, f, s, r0, r1, r2, r3, pp, path, pc⟩ ⟨1, t, a', f', s', r0', r1', r2', r3', pp', path', pc'⟩ hF hF' hp hb hp' hb' W
    rw [h, hq]; simp
  have HCA : Hid (∀ W, Below w.heap.size w W → Calls Tryd.prog 60 #[.agg #[.int .i64 1, .string t, .int .i64 a, .int .u64 f, .string s, .int .i64 r0, .int .i64 r1, .int .i64 r2, .int .i64 r3, .slice pp path.length pc, .slice ip items.length ic]] W fun r w' => r = .returned (.agg (coreF Tryd.zeroCells122 1 t a f s r0 path)) ∧ Below W.heap.size W w') := fun W hW => coreOf_any 1 t a f s r0 r1 r2 r3 pp path pc ip items.length ic W hp hb (hP.later (Nat.le_refl _) hW).2
  have HCB : Hid (∀ W, Below w.heap.size w W → Calls Tryd.prog 60 #[.agg #[.int .i64 1, .string t, .int .i64 a', .int .u64 f', .string s', .int .i64 r0', .int .i64 r1', .int .i64 r2', .int .i64 r3', .slice pp' path'.length pc', .slice ip' items'.length ic']] W fun r w' => r = .returned (.agg (coreF Tryd.zeroCells122 1 t a' f' s' r0' path')) ∧ Below W.heap.size W w') := fun W hW => coreOf_any 1 t a' f' s' r0' r1' r2' r3' pp' path' pc' ip' items'.length ic' W hp' hb' (hP'.later (Nat.le_refl _) hW).2
  rw [← hq]
  clear hq hF hF' hP hP' hp hb hp' hb'
  generalize coreF Tryd.zeroCells122 1 t a f s r0 path = ca at HE HCA
  generalize coreF Tryd.zeroCells122 1 t a' f' s' r0' path' = cb at HE HCB
  obtain ⟨W2, hW2⟩ : ∃ W2, W2 = (w.alloc (.cells #[.int .i64 1, .string t, .int .i64 a, .int .u64 f, .string s, .int .i64 r0, .int .i64 r1, .int .i64 r2, .int .i64 r3, .slice pp path.length pc, .slice ip items.length ic] 39)).alloc (.cells #[.int .i64 1, .string t, .int .i64 a', .int .u64 f', .string s', .int .i64 r0', .int .i64 r1', .int .i64 r2', .int .i64 r3', .slice pp' path'.length pc', .slice ip' items'.length ic'] 39) := ⟨_, rfl⟩
  have HK : Hid (∀ W, Below W2.heap.size W2 W → Below w.heap.size w W ∧ (∀ i, W.cell? ⟨w.heap.size, i, none⟩ = (#[.int .i64 1, .string t, .int .i64 a, .int .u64 f, .string s, .int .i64 r0, .int .i64 r1, .int .i64 r2, .int .i64 r3, .slice pp path.length pc, .slice ip items.length ic] : Array Value)[i]?) ∧ (∀ i, W.cell? ⟨w.heap.size + 1, i, none⟩ = (#[.int .i64 1, .string t, .int .i64 a', .int .u64 f', .string s', .int .i64 r0', .int .i64 r1', .int .i64 r2', .int .i64 r3', .slice pp' path'.length pc', .slice ip' items'.length ic'] : Array Value)[i]?)) := fun W hW => by rw [hW2] at hW; exact kept2 hW
  have hz2 : W2.heap.size = w.heap.size + 2 := by rw [hW2]; simp
  have HTA : Hid (∀ W, Calls Tryd.prog 58 #[.agg #[.int .i64 1, .string t, .int .i64 a, .int .u64 f, .string s, .int .i64 r0, .int .i64 r1, .int .i64 r2, .int .i64 r3, .slice pp path.length pc, .slice ip items.length ic]] W fun r w' => r = .returned (.agg #[.int .i64 1, .string t]) ∧ Below W.heap.size W w') := fun W => typeOf_any _ _ _ _ _ _ _ _ _ _ _ W
  have HTB : Hid (∀ W, Calls Tryd.prog 58 #[.agg #[.int .i64 1, .string t, .int .i64 a', .int .u64 f', .string s', .int .i64 r0', .int .i64 r1', .int .i64 r2', .int .i64 r3', .slice pp' path'.length pc', .slice ip' items'.length ic']] W fun r w' => r = .returned (.agg #[.int .i64 1, .string t]) ∧ Below W.heap.size W w') := fun W => typeOf_any _ _ _ _ _ _ _ _ _ _ _ W
  go_enter Tryd.func59, Tryd.ntmps59
  go_wp2_with fail
  rw [← hW2]
  clear hW2
  refine wp_region_noPanic ?_
  refine wp_region_held (S := fun W => (∀ i, W.cell? ⟨w.heap.size, i, none⟩ = (#[.int .i64 1, .string t, .int .i64 a, .int .u64 f, .string s, .int .i64 r0, .int .i64 r1, .int .i64 r2, .int .i64 r3, .slice pp path.length pc, .slice ip items.length ic] : Array Value)[i]?) ∧ (∀ i, W.cell? ⟨w.heap.size + 1, i, none⟩ = (#[.int .i64 1, .string t, .int .i64 a', .int .u64 f', .string s', .int .i64 r0', .int .i64 r1', .int .i64 r2', .int .i64 r3', .slice pp' path'.length pc', .slice ip' items'.length ic'] : Array Value)[i]?)) (by kernel_rfl) ?_
  obtain ⟨W4, hW4⟩ : ∃ W4, W4 = W2.drew := ⟨_, rfl⟩
  have e4 : ({ W2 with drawn := W2.drawn + 1 } : World) = W4 := hW4.symm
  rw [e4]
  have hB4 : Below W2.heap.size W2 W4 := by rw [hW4]; exact (Below.refl _ _).drew
  have hS := (HK.out W4 hB4).2
  clear e4 hW4
  refine wpAnyH_take (i := 0) (v := .agg #[.int .i64 1, .string t, .int .i64 a, .int .u64 f, .string s, .int .i64 r0, .int .i64 r1, .int .i64 r2, .int .i64 r3, .slice pp path.length pc, .slice ip items.length ic]) rfl (by kernel_rfl) (by kernel_rfl) (by kernel_rfl) (fun _ _ _ h => h) (Or.inl ⟨by rfl, ?r⟩) hS ?_
  case r => intro W hW; simp [go_sem, execOp, Act.eval, hW.1]
  simp only [List.getElem_toArray, List.getElem_cons_zero, Act.put, List.setIfInBounds_toArray, List.set_cons_succ, List.set_cons_zero]
  refine wpAnyH_take (i := 2) (v := .agg #[.int .i64 1, .string t, .int .i64 a', .int .u64 f', .string s', .int .i64 r0', .int .i64 r1', .int .i64 r2', .int .i64 r3', .slice pp' path'.length pc', .slice ip' items'.length ic']) rfl (by kernel_rfl) (by kernel_rfl) (by kernel_rfl) (fun _ _ _ h => h) (Or.inl ⟨by rfl, ?r⟩) hS ?_
  case r => intro W hW; simp [go_sem, execOp, Act.eval, hW.2]
  simp only [List.getElem_toArray, List.getElem_cons_zero, List.getElem_cons_succ, Act.put, List.setIfInBounds_toArray, List.set_cons_succ, List.set_cons_zero]
  refine wpAnyH_all (rs := [1]) (by kernel_rfl) (by simp) (fun i2 hi2 => ?_)
  obtain rfl : i2 = 1 := by simpa using hi2
  clear hi2
  refine wpOp_step rfl (fun K hK => ite_yes rfl ?_)
  simp only [List.getElem_toArray, List.getElem_cons_zero, List.getElem_cons_succ]
  go_simp
  refine (HTA.out _).mono ?_
  rintro e w5 ⟨rfl, b5⟩
  have hb5 : Below W2.heap.size W2 w5 := hB4.trans (b5.mono hB4.size)
  go_simp
  refine hK _ _ ⟨(HK.out _ hb5).2, ?_⟩
  clear hK K
  refine wpAnyH_all (rs := [3]) (by kernel_rfl) (by simp) (fun i2 hi2 => ?_)
  obtain rfl : i2 = 3 := by simpa using hi2
  clear hi2
  refine wpOp_step rfl (fun K hK => ite_yes rfl ?_)
  simp only [List.getElem_toArray, List.getElem_cons_zero, List.getElem_cons_succ]
  go_simp
  refine (HTB.out _).mono ?_
  rintro e w6 ⟨rfl, b6⟩
  have hb6 : Below W2.heap.size W2 w6 := hb5.trans (b6.mono hb5.size)
  go_simp
  refine hK _ _ ⟨(HK.out _ hb6).2, ?_⟩
  clear hK K
  clear hS
  have hS := (HK.out _ hb6).2
  refine wpAnyH_take (i := 4) (v := .bool false) rfl (by kernel_rfl) (by kernel_rfl) (by kernel_rfl) (fun _ _ _ h => h) (Or.inl ⟨by rfl, ?r⟩) hS ?_
  case r => intro W hW; simp [go_sem, execOp, Act.eval, HQ]
  simp only [List.getElem_toArray, List.getElem_cons_zero, List.getElem_cons_succ, Act.put, List.setIfInBounds_toArray, List.set_cons_succ, List.set_cons_zero]
  refine wpAnyH_done (by kernel_rfl) ?_ _
  refine NoPanic.normal ?_
  try simp only [Act.put]
  have hc6 := (HK.out _ hb6).2.1
  have hd6 := (HK.out _ hb6).2.2
  have HB6 : Hid (Below W2.heap.size W2 w6) := hb6
  have hz6 := hb6.size
  clear hb6 b6 hb5 b5 hB4 hS HQ HTA HTB
  have hb0 : w6.cell? ⟨w.heap.size, 0, none⟩ = some (.int .i64 1) := hc6 0
  go_wp2_with (go_at_call 66; refine (behind_1 _ _ hb0 (by omega)).mono ?_; rintro r w7 ⟨rfl, b7⟩; have HB7 : Hid (Below W2.heap.size W2 w7) := HB6.out.trans (b7.mono HB6.out.size); clear b7)
  clear hc6 hd6 hb0
  refine wp_region_noPanic ?_
  refine wp_region_held (S := fun W => (∀ i, W.cell? ⟨w.heap.size, i, none⟩ = (#[.int .i64 1, .string t, .int .i64 a, .int .u64 f, .string s, .int .i64 r0, .int .i64 r1, .int .i64 r2, .int .i64 r3, .slice pp path.length pc, .slice ip items.length ic] : Array Value)[i]?) ∧ (∀ i, W.cell? ⟨w.heap.size + 1, i, none⟩ = (#[.int .i64 1, .string t, .int .i64 a', .int .u64 f', .string s', .int .i64 r0', .int .i64 r1', .int .i64 r2', .int .i64 r3', .slice pp' path'.length pc', .slice ip' items'.length ic'] : Array Value)[i]?)) (by kernel_rfl) ?_
  obtain ⟨W8, hW8⟩ : ∃ W8, W8 = w7.drew := ⟨_, rfl⟩
  have e8 : ({ w7 with drawn := w7.drawn + 1 } : World) = W8 := hW8.symm
  rw [e8]
  have hB8 : Below W2.heap.size W2 W8 := by rw [hW8]; exact HB7.out.drew
  have hS := (HK.out W8 hB8).2
  clear e8 hW8
  refine wpAnyH_take (i := 0) (v := .agg #[.int .i64 1, .string t, .int .i64 a, .int .u64 f, .string s, .int .i64 r0, .int .i64 r1, .int .i64 r2, .int .i64 r3, .slice pp path.length pc, .slice ip items.length ic]) rfl (by kernel_rfl) (by kernel_rfl) (by kernel_rfl) (fun _ _ _ h => h) (Or.inl ⟨by rfl, ?r⟩) hS ?_
  case r => intro W hW; simp [go_sem, execOp, Act.eval, hW.1]
  simp only [List.getElem_toArray, List.getElem_cons_zero, Act.put, List.setIfInBounds_toArray, List.set_cons_succ, List.set_cons_zero]
  refine wpAnyH_take (i := 2) (v := .agg #[.int .i64 1, .string t, .int .i64 a', .int .u64 f', .string s', .int .i64 r0', .int .i64 r1', .int .i64 r2', .int .i64 r3', .slice pp' path'.length pc', .slice ip' items'.length ic']) rfl (by kernel_rfl) (by kernel_rfl) (by kernel_rfl) (fun _ _ _ h => h) (Or.inl ⟨by rfl, ?r⟩) hS ?_
  case r => intro W hW; simp [go_sem, execOp, Act.eval, hW.2]
  simp only [List.getElem_toArray, List.getElem_cons_zero, List.getElem_cons_succ, Act.put, List.setIfInBounds_toArray, List.set_cons_succ, List.set_cons_zero]
  refine wpAnyH_all (rs := [1]) (by kernel_rfl) (by simp) (fun i2 hi2 => ?_)
  obtain rfl : i2 = 1 := by simpa using hi2
  clear hi2
  refine wpOp_step rfl (fun K hK => ite_yes rfl ?_)
  simp only [List.getElem_toArray, List.getElem_cons_zero, List.getElem_cons_succ]
  go_simp
  refine (HCA.out _ (HK.out _ hB8).1).mono ?_
  rintro e w9 ⟨rfl, b9⟩
  have hb9 : Below W2.heap.size W2 w9 := hB8.trans (b9.mono hB8.size)
  go_simp
  refine hK _ _ ⟨(HK.out _ hb9).2, ?_⟩
  clear hK K
  refine wpAnyH_all (rs := [3]) (by kernel_rfl) (by simp) (fun i2 hi2 => ?_)
  obtain rfl : i2 = 3 := by simpa using hi2
  clear hi2
  refine wpOp_step rfl (fun K hK => ite_yes rfl ?_)
  simp only [List.getElem_toArray, List.getElem_cons_zero, List.getElem_cons_succ]
  go_simp
  refine (HCB.out _ (HK.out _ hb9).1).mono ?_
  rintro e w10 ⟨rfl, b10⟩
  have hb10 : Below W2.heap.size W2 w10 := hb9.trans (b10.mono hb9.size)
  go_simp
  refine hK _ _ ⟨(HK.out _ hb10).2, ?_⟩
  clear hK K
  clear hS
  have hS := (HK.out _ hb10).2
  have HQ2 := HE.out
  refine wpAnyH_take (i := 4) (v := .bool q) rfl (by kernel_rfl) (by kernel_rfl) (by kernel_rfl) (fun _ _ _ h => h) (Or.inl ⟨by rfl, ?r⟩) hS ?_
  case r => intro W hW; simp [go_sem, execOp, Act.eval, HQ2]
  simp only [List.getElem_toArray, List.getElem_cons_zero, List.getElem_cons_succ, Act.put, List.setIfInBounds_toArray, List.set_cons_succ, List.set_cons_zero]
  refine wpAnyH_take (i := 5) (v := .bool q) rfl (by kernel_rfl) (by kernel_rfl) (by kernel_rfl) (fun _ _ _ h => h) (Or.inl ⟨by rfl, ?r⟩) hS ?_
  case r => intro W hW; simp [go_sem, execOp, Act.eval]
  simp only [List.getElem_toArray, List.getElem_cons_zero, List.getElem_cons_succ, Act.put, List.setIfInBounds_toArray, List.set_cons_succ, List.set_cons_zero]
  refine wpAnyH_take (i := 6) (v := .string ⟨#[]⟩) rfl (by kernel_rfl) (by kernel_rfl) (by kernel_rfl) (fun _ _ _ h => h) (Or.inl ⟨by rfl, ?r⟩) hS ?_
  case r => intro W hW; simp [go_sem, execOp, Act.eval]
  simp only [List.getElem_toArray, List.getElem_cons_zero, List.getElem_cons_succ, Act.put, List.setIfInBounds_toArray, List.set_cons_succ, List.set_cons_zero]
  refine wpAnyH_done (by kernel_rfl) ?_ _
  refine NoPanic.normal ?_
  try simp only [Act.put]
  go_wp2_with fail
  refine bodyPost_ret (v := .tuple #[.bool q, .string ⟨#[]⟩]) (by simp [results, Tryd.results59, go_sem]) rfl ⟨rfl, (HK.out _ hb10).1⟩

set_option maxRecDepth 100000 in
set_option maxHeartbeats 8000000 in
theorem eqk_2 (t : ByteArray) (a f : Int) (s : ByteArray) (r0 r1 r2 r3 : Int) (pp : Option Addr) (path : List Int) (pc : Nat) (ip : Option Addr) (items : List MD) (ic : Nat) (a' f' : Int) (s' : ByteArray) (r0' r1' r2' r3' : Int) (pp' : Option Addr) (path' : List Int) (pc' : Nat) (ip' : Option Addr) (items' : List MD) (ic' : Nat) (w : World)
    (hF : MD.Fine ⟨2, t, a, f, s, r0, r1, r2, r3, pp, path, pc⟩) (hF' : MD.Fine ⟨2, t, a', f', s', r0', r1', r2', r3', pp', path', pc'⟩) (hP : MD.PathIn w.heap.size w ⟨2, t, a, f, s, r0, r1, r2, r3, pp, path, pc⟩) (hP' : MD.PathIn w.heap.size w ⟨2, t, a', f', s', r0', r1', r2', r3', pp', path', pc'⟩)
    (hp : path.length ≤ 100) (hb : ∀ z ∈ path, 0 ≤ z ∧ z < 30) (hp' : path'.length ≤ 100) (hb' : ∀ z ∈ path', 0 ≤ z ∧ z < 30) :
    Calls Tryd.prog 59 #[.agg #[.int .i64 2, .string t, .int .i64 a, .int .u64 f, .string s, .int .i64 r0, .int .i64 r1, .int .i64 r2, .int .i64 r3, .slice pp path.length pc, .slice ip items.length ic], .agg #[.int .i64 2, .string t, .int .i64 a', .int .u64 f', .string s', .int .i64 r0', .int .i64 r1', .int .i64 r2', .int .i64 r3', .slice pp' path'.length pc', .slice ip' items'.length ic']] w fun r w' => r = .returned (.tuple #[.bool (decide (a = a' ∧ nz f = nz f' ∧ s = s' ∧ r0 = r0' ∧ path = path')), .string ⟨#[]⟩]) ∧ Below w.heap.size w w' := by
  have HQ : ∀ W, (binOp .neq 96 (.agg #[.int .i64 2, .string t]) (.agg #[.int .i64 2, .string t])).run Tryd.prog W = .ok (.bool false) W := fun W => by rw [typed_neq]; simp
  obtain ⟨q, hq⟩ : ∃ q, q = decide (a = a' ∧ nz f = nz f' ∧ s = s' ∧ r0 = r0' ∧ path = path') := ⟨_, rfl⟩
  have HE : Hid (∀ W, (binOp .eql 122 (.agg (coreF Tryd.zeroCells122 2 t a f s r0 path)) (.agg (coreF Tryd.zeroCells122 2 t a' f' s' r0' path'))).run Tryd.prog W = .ok (.bool q) W) := fun W => by
    have h := core_eql ⟨2, t, a, f, s, r0, r1, r2, r3, pp, path, pc⟩ ⟨2, t, a', f', s', r0', r1', r2', r3', pp', path', pc'⟩ hF hF' hp hb hp' hb' W
    rw [h, hq]; simp
  have HCA : Hid (∀ W, Below w.heap.size w W → Calls Tryd.prog 60 #[.agg #[.int .i64 2, .string t, .int .i64 a, .int .u64 f, .string s, .int .i64 r0, .int .i64 r1, .int .i64 r2, .int .i64 r3, .slice pp path.length pc, .slice ip items.length ic]] W fun r w' => r = .returned (.agg (coreF Tryd.zeroCells122 2 t a f s r0 path)) ∧ Below W.heap.size W w') := fun W hW => coreOf_any 2 t a f s r0 r1 r2 r3 pp path pc ip items.length ic W hp hb (hP.later (Nat.le_refl _) hW).2
  have HCB : Hid (∀ W, Below w.heap.size w W → Calls Tryd.prog 60 #[.agg #[.int .i64 2, .string t, .int .i64 a', .int .u64 f', .string s', .int .i64 r0', .int .i64 r1', .int .i64 r2', .int .i64 r3', .slice pp' path'.length pc', .slice ip' items'.length ic']] W fun r w' => r = .returned (.agg (coreF Tryd.zeroCells122 2 t a' f' s' r0' path')) ∧ Below W.heap.size W w') := fun W hW => coreOf_any 2 t a' f' s' r0' r1' r2' r3' pp' path' pc' ip' items'.length ic' W hp' hb' (hP'.later (Nat.le_refl _) hW).2
  rw [← hq]
  clear hq hF hF' hP hP' hp hb hp' hb'
  generalize coreF Tryd.zeroCells122 2 t a f s r0 path = ca at HE HCA
  generalize coreF Tryd.zeroCells122 2 t a' f' s' r0' path' = cb at HE HCB
  obtain ⟨W2, hW2⟩ : ∃ W2, W2 = (w.alloc (.cells #[.int .i64 2, .string t, .int .i64 a, .int .u64 f, .string s, .int .i64 r0, .int .i64 r1, .int .i64 r2, .int .i64 r3, .slice pp path.length pc, .slice ip items.length ic] 39)).alloc (.cells #[.int .i64 2, .string t, .int .i64 a', .int .u64 f', .string s', .int .i64 r0', .int .i64 r1', .int .i64 r2', .int .i64 r3', .slice pp' path'.length pc', .slice ip' items'.length ic'] 39) := ⟨_, rfl⟩
  have HK : Hid (∀ W, Below W2.heap.size W2 W → Below w.heap.size w W ∧ (∀ i, W.cell? ⟨w.heap.size, i, none⟩ = (#[.int .i64 2, .string t, .int .i64 a, .int .u64 f, .string s, .int .i64 r0, .int .i64 r1, .int .i64 r2, .int .i64 r3, .slice pp path.length pc, .slice ip items.length ic] : Array Value)[i]?) ∧ (∀ i, W.cell? ⟨w.heap.size + 1, i, none⟩ = (#[.int .i64 2, .string t, .int .i64 a', .int .u64 f', .string s', .int .i64 r0', .int .i64 r1', .int .i64 r2', .int .i64 r3', .slice pp' path'.length pc', .slice ip' items'.length ic'] : Array Value)[i]?)) := fun W hW => by rw [hW2] at hW; exact kept2 hW
  have hz2 : W2.heap.size = w.heap.size + 2 := by rw [hW2]; simp
  have HTA : Hid (∀ W, Calls Tryd.prog 58 #[.agg #[.int .i64 2, .string t, .int .i64 a, .int .u64 f, .string s, .int .i64 r0, .int .i64 r1, .int .i64 r2, .int .i64 r3, .slice pp path.length pc, .slice ip items.length ic]] W fun r w' => r = .returned (.agg #[.int .i64 2, .string t]) ∧ Below W.heap.size W w') := fun W => typeOf_any _ _ _ _ _ _ _ _ _ _ _ W
  have HTB : Hid (∀ W, Calls Tryd.prog 58 #[.agg #[.int .i64 2, .string t, .int .i64 a', .int .u64 f', .string s', .int .i64 r0', .int .i64 r1', .int .i64 r2', .int .i64 r3', .slice pp' path'.length pc', .slice ip' items'.length ic']] W fun r w' => r = .returned (.agg #[.int .i64 2, .string t]) ∧ Below W.heap.size W w') := fun W => typeOf_any _ _ _ _ _ _ _ _ _ _ _ W
  go_enter Tryd.func59, Tryd.ntmps59
  go_wp2_with fail
  rw [← hW2]
  clear hW2
  refine wp_region_noPanic ?_
  refine wp_region_held (S := fun W => (∀ i, W.cell? ⟨w.heap.size, i, none⟩ = (#[.int .i64 2, .string t, .int .i64 a, .int .u64 f, .string s, .int .i64 r0, .int .i64 r1, .int .i64 r2, .int .i64 r3, .slice pp path.length pc, .slice ip items.length ic] : Array Value)[i]?) ∧ (∀ i, W.cell? ⟨w.heap.size + 1, i, none⟩ = (#[.int .i64 2, .string t, .int .i64 a', .int .u64 f', .string s', .int .i64 r0', .int .i64 r1', .int .i64 r2', .int .i64 r3', .slice pp' path'.length pc', .slice ip' items'.length ic'] : Array Value)[i]?)) (by kernel_rfl) ?_
  obtain ⟨W4, hW4⟩ : ∃ W4, W4 = W2.drew := ⟨_, rfl⟩
  have e4 : ({ W2 with drawn := W2.drawn + 1 } : World) = W4 := hW4.symm
  rw [e4]
  have hB4 : Below W2.heap.size W2 W4 := by rw [hW4]; exact (Below.refl _ _).drew
  have hS := (HK.out W4 hB4).2
  clear e4 hW4
  refine wpAnyH_take (i := 0) (v := .agg #[.int .i64 2, .string t, .int .i64 a, .int .u64 f, .string s, .int .i64 r0, .int .i64 r1, .int .i64 r2, .int .i64 r3, .slice pp path.length pc, .slice ip items.length ic]) rfl (by kernel_rfl) (by kernel_rfl) (by kernel_rfl) (fun _ _ _ h => h) (Or.inl ⟨by rfl, ?r⟩) hS ?_
  case r => intro W hW; simp [go_sem, execOp, Act.eval, hW.1]
  simp only [List.getElem_toArray, List.getElem_cons_zero, Act.put, List.setIfInBounds_toArray, List.set_cons_succ, List.set_cons_zero]
  refine wpAnyH_take (i := 2) (v := .agg #[.int .i64 2, .string t, .int .i64 a', .int .u64 f', .string s', .int .i64 r0', .int .i64 r1', .int .i64 r2', .int .i64 r3', .slice pp' path'.length pc', .slice ip' items'.length ic']) rfl (by kernel_rfl) (by kernel_rfl) (by kernel_rfl) (fun _ _ _ h => h) (Or.inl ⟨by rfl, ?r⟩) hS ?_
  case r => intro W hW; simp [go_sem, execOp, Act.eval, hW.2]
  simp only [List.getElem_toArray, List.getElem_cons_zero, List.getElem_cons_succ, Act.put, List.setIfInBounds_toArray, List.set_cons_succ, List.set_cons_zero]
  refine wpAnyH_all (rs := [1]) (by kernel_rfl) (by simp) (fun i2 hi2 => ?_)
  obtain rfl : i2 = 1 := by simpa using hi2
  clear hi2
  refine wpOp_step rfl (fun K hK => ite_yes rfl ?_)
  simp only [List.getElem_toArray, List.getElem_cons_zero, List.getElem_cons_succ]
  go_simp
  refine (HTA.out _).mono ?_
  rintro e w5 ⟨rfl, b5⟩
  have hb5 : Below W2.heap.size W2 w5 := hB4.trans (b5.mono hB4.size)
  go_simp
  refine hK _ _ ⟨(HK.out _ hb5).2, ?_⟩
  clear hK K
  refine wpAnyH_all (rs := [3]) (by kernel_rfl) (by simp) (fun i2 hi2 => ?_)
  obtain rfl : i2 = 3 := by simpa using hi2
  clear hi2
  refine wpOp_step rfl (fun K hK => ite_yes rfl ?_)
  simp only [List.getElem_toArray, List.getElem_cons_zero, List.getElem_cons_succ]
  go_simp
  refine (HTB.out _).mono ?_
  rintro e w6 ⟨rfl, b6⟩
  have hb6 : Below W2.heap.size W2 w6 := hb5.trans (b6.mono hb5.size)
  go_simp
  refine hK _ _ ⟨(HK.out _ hb6).2, ?_⟩
  clear hK K
  clear hS
  have hS := (HK.out _ hb6).2
  refine wpAnyH_take (i := 4) (v := .bool false) rfl (by kernel_rfl) (by kernel_rfl) (by kernel_rfl) (fun _ _ _ h => h) (Or.inl ⟨by rfl, ?r⟩) hS ?_
  case r => intro W hW; simp [go_sem, execOp, Act.eval, HQ]
  simp only [List.getElem_toArray, List.getElem_cons_zero, List.getElem_cons_succ, Act.put, List.setIfInBounds_toArray, List.set_cons_succ, List.set_cons_zero]
  refine wpAnyH_done (by kernel_rfl) ?_ _
  refine NoPanic.normal ?_
  try simp only [Act.put]
  have hc6 := (HK.out _ hb6).2.1
  have hd6 := (HK.out _ hb6).2.2
  have HB6 : Hid (Below W2.heap.size W2 w6) := hb6
  have hz6 := hb6.size
  clear hb6 b6 hb5 b5 hB4 hS HQ HTA HTB
  have hb0 : w6.cell? ⟨w.heap.size, 0, none⟩ = some (.int .i64 2) := hc6 0
  go_wp2_with (go_at_call 66; refine (behind_2 _ _ hb0 (by omega)).mono ?_; rintro r w7 ⟨rfl, b7⟩; have HB7 : Hid (Below W2.heap.size W2 w7) := HB6.out.trans (b7.mono HB6.out.size); clear b7)
  clear hc6 hd6 hb0
  refine wp_region_noPanic ?_
  refine wp_region_held (S := fun W => (∀ i, W.cell? ⟨w.heap.size, i, none⟩ = (#[.int .i64 2, .string t, .int .i64 a, .int .u64 f, .string s, .int .i64 r0, .int .i64 r1, .int .i64 r2, .int .i64 r3, .slice pp path.length pc, .slice ip items.length ic] : Array Value)[i]?) ∧ (∀ i, W.cell? ⟨w.heap.size + 1, i, none⟩ = (#[.int .i64 2, .string t, .int .i64 a', .int .u64 f', .string s', .int .i64 r0', .int .i64 r1', .int .i64 r2', .int .i64 r3', .slice pp' path'.length pc', .slice ip' items'.length ic'] : Array Value)[i]?)) (by kernel_rfl) ?_
  obtain ⟨W8, hW8⟩ : ∃ W8, W8 = w7.drew := ⟨_, rfl⟩
  have e8 : ({ w7 with drawn := w7.drawn + 1 } : World) = W8 := hW8.symm
  rw [e8]
  have hB8 : Below W2.heap.size W2 W8 := by rw [hW8]; exact HB7.out.drew
  have hS := (HK.out W8 hB8).2
  clear e8 hW8
  refine wpAnyH_take (i := 0) (v := .agg #[.int .i64 2, .string t, .int .i64 a, .int .u64 f, .string s, .int .i64 r0, .int .i64 r1, .int .i64 r2, .int .i64 r3, .slice pp path.length pc, .slice ip items.length ic]) rfl (by kernel_rfl) (by kernel_rfl) (by kernel_rfl) (fun _ _ _ h => h) (Or.inl ⟨by rfl, ?r⟩) hS ?_
  case r => intro W hW; simp [go_sem, execOp, Act.eval, hW.1]
  simp only [List.getElem_toArray, List.getElem_cons_zero, Act.put, List.setIfInBounds_toArray, List.set_cons_succ, List.set_cons_zero]
  refine wpAnyH_take (i := 2) (v := .agg #[.int .i64 2, .string t, .int .i64 a', .int .u64 f', .string s', .int .i64 r0', .int .i64 r1', .int .i64 r2', .int .i64 r3', .slice pp' path'.length pc', .slice ip' items'.length ic']) rfl (by kernel_rfl) (by kernel_rfl) (by kernel_rfl) (fun _ _ _ h => h) (Or.inl ⟨by rfl, ?r⟩) hS ?_
  case r => intro W hW; simp [go_sem, execOp, Act.eval, hW.2]
  simp only [List.getElem_toArray, List.getElem_cons_zero, List.getElem_cons_succ, Act.put, List.setIfInBounds_toArray, List.set_cons_succ, List.set_cons_zero]
  refine wpAnyH_all (rs := [1]) (by kernel_rfl) (by simp) (fun i2 hi2 => ?_)
  obtain rfl : i2 = 1 := by simpa using hi2
  clear hi2
  refine wpOp_step rfl (fun K hK => ite_yes rfl ?_)
  simp only [List.getElem_toArray, List.getElem_cons_zero, List.getElem_cons_succ]
  go_simp
  refine (HCA.out _ (HK.out _ hB8).1).mono ?_
  rintro e w9 ⟨rfl, b9⟩
  have hb9 : Below W2.heap.size W2 w9 := hB8.trans (b9.mono hB8.size)
  go_simp
  refine hK _ _ ⟨(HK.out _ hb9).2, ?_⟩
  clear hK K
  refine wpAnyH_all (rs := [3]) (by kernel_rfl) (by simp) (fun i2 hi2 => ?_)
  obtain rfl : i2 = 3 := by simpa using hi2
  clear hi2
  refine wpOp_step rfl (fun K hK => ite_yes rfl ?_)
  simp only [List.getElem_toArray, List.getElem_cons_zero, List.getElem_cons_succ]
  go_simp
  refine (HCB.out _ (HK.out _ hb9).1).mono ?_
  rintro e w10 ⟨rfl, b10⟩
  have hb10 : Below W2.heap.size W2 w10 := hb9.trans (b10.mono hb9.size)
  go_simp
  refine hK _ _ ⟨(HK.out _ hb10).2, ?_⟩
  clear hK K
  clear hS
  have hS := (HK.out _ hb10).2
  have HQ2 := HE.out
  refine wpAnyH_take (i := 4) (v := .bool q) rfl (by kernel_rfl) (by kernel_rfl) (by kernel_rfl) (fun _ _ _ h => h) (Or.inl ⟨by rfl, ?r⟩) hS ?_
  case r => intro W hW; simp [go_sem, execOp, Act.eval, HQ2]
  simp only [List.getElem_toArray, List.getElem_cons_zero, List.getElem_cons_succ, Act.put, List.setIfInBounds_toArray, List.set_cons_succ, List.set_cons_zero]
  refine wpAnyH_take (i := 5) (v := .bool q) rfl (by kernel_rfl) (by kernel_rfl) (by kernel_rfl) (fun _ _ _ h => h) (Or.inl ⟨by rfl, ?r⟩) hS ?_
  case r => intro W hW; simp [go_sem, execOp, Act.eval]
  simp only [List.getElem_toArray, List.getElem_cons_zero, List.getElem_cons_succ, Act.put, List.setIfInBounds_toArray, List.set_cons_succ, List.set_cons_zero]
  refine wpAnyH_take (i := 6) (v := .string ⟨#[]⟩) rfl (by kernel_rfl) (by kernel_rfl) (by kernel_rfl) (fun _ _ _ h => h) (Or.inl ⟨by rfl, ?r⟩) hS ?_
  case r => intro W hW; simp [go_sem, execOp, Act.eval]
  simp only [List.getElem_toArray, List.getElem_cons_zero, List.getElem_cons_succ, Act.put, List.setIfInBounds_toArray, List.set_cons_succ, List.set_cons_zero]
  refine wpAnyH_done (by kernel_rfl) ?_ _
  refine NoPanic.normal ?_
  try simp only [Act.put]
  go_wp2_with fail
  refine bodyPost_ret (v := .tuple #[.bool q, .string ⟨#[]⟩]) (by simp [results, Tryd.results59, go_sem]) rfl ⟨rfl, (HK.out _ hb10).1⟩

set_option maxRecDepth 100000 in
set_option maxHeartbeats 8000000 in
theorem eqk_4 (t : ByteArray) (a f : Int) (s : ByteArray) (r0 r1 r2 r3 : Int) (pp : Option Addr) (path : List Int) (pc : Nat) (ip : Option Addr) (items : List MD) (ic : Nat) (a' f' : Int) (s' : ByteArray) (r0' r1' r2' r3' : Int) (pp' : Option Addr) (path' : List Int) (pc' : Nat) (ip' : Option Addr) (items' : List MD) (ic' : Nat) (w : World)
    (hF : MD.Fine ⟨4, t, a, f, s, r0, r1, r2, r3, pp, path, pc⟩) (hF' : MD.Fine ⟨4, t, a', f', s', r0', r1', r2', r3', pp', path', pc'⟩) (hP : MD.PathIn w.heap.size w ⟨4, t, a, f, s, r0, r1, r2, r3, pp, path, pc⟩) (hP' : MD.PathIn w.heap.size w ⟨4, t, a', f', s', r0', r1', r2', r3', pp', path', pc'⟩)
    (hp : path.length ≤ 100) (hb : ∀ z ∈ path, 0 ≤ z ∧ z < 30) (hp' : path'.length ≤ 100) (hb' : ∀ z ∈ path', 0 ≤ z ∧ z < 30) :
    Calls Tryd.prog 59 #[.agg #[.int .i64 4, .string t, .int .i64 a, .int .u64 f, .string s, .int .i64 r0, .int .i64 r1, .int .i64 r2, .int .i64 r3, .slice pp path.length pc, .slice ip items.length ic], .agg #[.int .i64 4, .string t, .int .i64 a', .int .u64 f', .string s', .int .i64 r0', .int .i64 r1', .int .i64 r2', .int .i64 r3', .slice pp' path'.length pc', .slice ip' items'.length ic']] w fun r w' => r = .returned (.tuple #[.bool (decide (a = a' ∧ nz f = nz f' ∧ s = s' ∧ r0 = r0' ∧ path = path')), .string ⟨#[]⟩]) ∧ Below w.heap.size w w' := by
  have HQ : ∀ W, (binOp .neq 96 (.agg #[.int .i64 4, .string t]) (.agg #[.int .i64 4, .string t])).run Tryd.prog W = .ok (.bool false) W := fun W => by rw [typed_neq]; simp
  obtain ⟨q, hq⟩ : ∃ q, q = decide (a = a' ∧ nz f = nz f' ∧ s = s' ∧ r0 = r0' ∧ path = path') := ⟨_, rfl⟩
  have HE : Hid (∀ W, (binOp .eql 122 (.agg (coreF Tryd.zeroCells122 4 t a f s r0 path)) (.agg (coreF Tryd.zeroCells122 4 t a' f' s' r0' path'))).run Tryd.prog W = .ok (.bool q) W) := fun W => by
    have h := core_eql ⟨4, t, a, f, s, r0, r1, r2, r3, pp, path, pc⟩ ⟨4, t, a', f', s', r0', r1', r2', r3', pp', path', pc'⟩ hF hF' hp hb hp' hb' W
    rw [h, hq]; simp
  have HCA : Hid (∀ W, Below w.heap.size w W → Calls Tryd.prog 60 #[.agg #[.int .i64 4, .string t, .int .i64 a, .int .u64 f, .string s, .int .i64 r0, .int .i64 r1, .int .i64 r2, .int .i64 r3, .slice pp path.length pc, .slice ip items.length ic]] W fun r w' => r = .returned (.agg (coreF Tryd.zeroCells122 4 t a f s r0 path)) ∧ Below W.heap.size W w') := fun W hW => coreOf_any 4 t a f s r0 r1 r2 r3 pp path pc ip items.length ic W hp hb (hP.later (Nat.le_refl _) hW).2
  have HCB : Hid (∀ W, Below w.heap.size w W → Calls Tryd.prog 60 #[.agg #[.int .i64 4, .string t, .int .i64 a', .int .u64 f', .string s', .int .i64 r0', .int .i64 r1', .int .i64 r2', .int .i64 r3', .slice pp' path'.length pc', .slice ip' items'.length ic']] W fun r w' => r = .returned (.agg (coreF Tryd.zeroCells122 4 t a' f' s' r0' path')) ∧ Below W.heap.size W w') := fun W hW => coreOf_any 4 t a' f' s' r0' r1' r2' r3' pp' path' pc' ip' items'.length ic' W hp' hb' (hP'.later (Nat.le_refl _) hW).2
  rw [← hq]
  clear hq hF hF' hP hP' hp hb hp' hb'
  generalize coreF Tryd.zeroCells122 4 t a f s r0 path = ca at HE HCA
  generalize coreF Tryd.zeroCells122 4 t a' f' s' r0' path' = cb at HE HCB
  obtain ⟨W2, hW2⟩ : ∃ W2, W2 = (w.alloc (.cells #[.int .i64 4, .string t, .int .i64 a, .int .u64 f, .string s, .int .i64 r0, .int .i64 r1, .int .i64 r2, .int .i64 r3, .slice pp path.length pc, .slice ip items.length ic] 39)).alloc (.cells #[.int .i64 4, .string t, .int .i64 a', .int .u64 f', .string s', .int .i64 r0', .int .i64 r1', .int .i64 r2', .int .i64 r3', .slice pp' path'.length pc', .slice ip' items'.length ic'] 39) := ⟨_, rfl⟩
  have HK : Hid (∀ W, Below W2.heap.size W2 W → Below w.heap.size w W ∧ (∀ i, W.cell? ⟨w.heap.size, i, none⟩ = (#[.int .i64 4, .string t, .int .i64 a, .int .u64 f, .string s, .int .i64 r0, .int .i64 r1, .int .i64 r2, .int .i64 r3, .slice pp path.length pc, .slice ip items.length ic] : Array Value)[i]?) ∧ (∀ i, W.cell? ⟨w.heap.size + 1, i, none⟩ = (#[.int .i64 4, .string t, .int .i64 a', .int .u64 f', .string s', .int .i64 r0', .int .i64 r1', .int .i64 r2', .int .i64 r3', .slice pp' path'.length pc', .slice ip' items'.length ic'] : Array Value)[i]?)) := fun W hW => by rw [hW2] at hW; exact kept2 hW
  have hz2 : W2.heap.size = w.heap.size + 2 := by rw [hW2]; simp
  have HTA : Hid (∀ W, Calls Tryd.prog 58 #[.agg #[.int .i64 4, .string t, .int .i64 a, .int .u64 f, .string s, .int .i64 r0, .int .i64 r1, .int .i64 r2, .int .i64 r3, .slice pp path.length pc, .slice ip items.length ic]] W fun r w' => r = .returned (.agg #[.int .i64 4, .string t]) ∧ Below W.heap.size W w') := fun W => typeOf_any _ _ _ _ _ _ _ _ _ _ _ W
  have HTB : Hid (∀ W, Calls Tryd.prog 58 #[.agg #[.int .i64 4, .string t, .int .i64 a', .int .u64 f', .string s', .int .i64 r0', .int .i64 r1', .int .i64 r2', .int .i64 r3', .slice pp' path'.length pc', .slice ip' items'.length ic']] W fun r w' => r = .returned (.agg #[.int .i64 4, .string t]) ∧ Below W.heap.size W w') := fun W => typeOf_any _ _ _ _ _ _ _ _ _ _ _ W
  go_enter Tryd.func59, Tryd.ntmps59
  go_wp2_with fail
  rw [← hW2]
  clear hW2
  refine wp_region_noPanic ?_
  refine wp_region_held (S := fun W => (∀ i, W.cell? ⟨w.heap.size, i, none⟩ = (#[.int .i64 4, .string t, .int .i64 a, .int .u64 f, .string s, .int .i64 r0, .int .i64 r1, .int .i64 r2, .int .i64 r3, .slice pp path.length pc, .slice ip items.length ic] : Array Value)[i]?) ∧ (∀ i, W.cell? ⟨w.heap.size + 1, i, none⟩ = (#[.int .i64 4, .string t, .int .i64 a', .int .u64 f', .string s', .int .i64 r0', .int .i64 r1', .int .i64 r2', .int .i64 r3', .slice pp' path'.length pc', .slice ip' items'.length ic'] : Array Value)[i]?)) (by kernel_rfl) ?_
  obtain ⟨W4, hW4⟩ : ∃ W4, W4 = W2.drew := ⟨_, rfl⟩
  have e4 : ({ W2 with drawn := W2.drawn + 1 } : World) = W4 := hW4.symm
  rw [e4]
  have hB4 : Below W2.heap.size W2 W4 := by rw [hW4]; exact (Below.refl _ _).drew
  have hS := (HK.out W4 hB4).2
  clear e4 hW4
  refine wpAnyH_take (i := 0) (v := .agg #[.int .i64 4, .string t, .int .i64 a, .int .u64 f, .string s, .int .i64 r0, .int .i64 r1, .int .i64 r2, .int .i64 r3, .slice pp path.length pc, .slice ip items.length ic]) rfl (by kernel_rfl) (by kernel_rfl) (by kernel_rfl) (fun _ _ _ h => h) (Or.inl ⟨by rfl, ?r⟩) hS ?_
  case r => intro W hW; simp [go_sem, execOp, Act.eval, hW.1]
  simp only [List.getElem_toArray, List.getElem_cons_zero, Act.put, List.setIfInBounds_toArray, List.set_cons_succ, List.set_cons_zero]
  refine wpAnyH_take (i := 2) (v := .agg #[.int .i64 4, .string t, .int .i64 a', .int .u64 f', .string s', .int .i64 r0', .int .i64 r1', .int .i64 r2', .int .i64 r3', .slice pp' path'.length pc', .slice ip' items'.length ic']) rfl (by kernel_rfl) (by kernel_rfl) (by kernel_rfl) (fun _ _ _ h => h) (Or.inl ⟨by rfl, ?r⟩) hS ?_
  case r => intro W hW; simp [go_sem, execOp, Act.eval, hW.2]
  simp only [List.getElem_toArray, List.getElem_cons_zero, List.getElem_cons_succ, Act.put, List.setIfInBounds_toArray, List.set_cons_succ, List.set_cons_zero]
  refine wpAnyH_all (rs := [1]) (by kernel_rfl) (by simp) (fun i2 hi2 => ?_)
  obtain rfl : i2 = 1 := by simpa using hi2
  clear hi2
  refine wpOp_step rfl (fun K hK => ite_yes rfl ?_)
  simp only [List.getElem_toArray, List.getElem_cons_zero, List.getElem_cons_succ]
  go_simp
  refine (HTA.out _).mono ?_
  rintro e w5 ⟨rfl, b5⟩
  have hb5 : Below W2.heap.size W2 w5 := hB4.trans (b5.mono hB4.size)
  go_simp
  refine hK _ _ ⟨(HK.out _ hb5).2, ?_⟩
  clear hK K
  refine wpAnyH_all (rs := [3]) (by kernel_rfl) (by simp) (fun i2 hi2 => ?_)
  obtain rfl : i2 = 3 := by simpa using hi2
  clear hi2
  refine wpOp_step rfl (fun K hK => ite_yes rfl ?_)
  simp only [List.getElem_toArray, List.getElem_cons_zero, List.getElem_cons_succ]
  go_simp
  refine (HTB.out _).mono ?_
  rintro e w6 ⟨rfl, b6⟩
  have hb6 : Below W2.heap.size W2 w6 := hb5.trans (b6.mono hb5.size)
  go_simp
  refine hK _ _ ⟨(HK.out _ hb6).2, ?_⟩
  clear hK K
  clear hS
  have hS := (HK.out _ hb6).2
  refine wpAnyH_take (i := 4) (v := .bool false) rfl (by kernel_rfl) (by kernel_rfl) (by kernel_rfl) (fun _ _ _ h => h) (Or.inl ⟨by rfl, ?r⟩) hS ?_
  case r => intro W hW; simp [go_sem, execOp, Act.eval, HQ]
  simp only [List.getElem_toArray, List.getElem_cons_zero, List.getElem_cons_succ, Act.put, List.setIfInBounds_toArray, List.set_cons_succ, List.set_cons_zero]
  refine wpAnyH_done (by kernel_rfl) ?_ _
  refine NoPanic.normal ?_
  try simp only [Act.put]
  have hc6 := (HK.out _ hb6).2.1
  have hd6 := (HK.out _ hb6).2.2
  have HB6 : Hid (Below W2.heap.size W2 w6) := hb6
  have hz6 := hb6.size
  clear hb6 b6 hb5 b5 hB4 hS HQ HTA HTB
  have hb0 : w6.cell? ⟨w.heap.size, 0, none⟩ = some (.int .i64 4) := hc6 0
  go_wp2_with (go_at_call 66; refine (behind_4 _ _ hb0 (by omega)).mono ?_; rintro r w7 ⟨rfl, b7⟩; have HB7 : Hid (Below W2.heap.size W2 w7) := HB6.out.trans (b7.mono HB6.out.size); clear b7)
  clear hc6 hd6 hb0
  refine wp_region_noPanic ?_
  refine wp_region_held (S := fun W => (∀ i, W.cell? ⟨w.heap.size, i, none⟩ = (#[.int .i64 4, .string t, .int .i64 a, .int .u64 f, .string s, .int .i64 r0, .int .i64 r1, .int .i64 r2, .int .i64 r3, .slice pp path.length pc, .slice ip items.length ic] : Array Value)[i]?) ∧ (∀ i, W.cell? ⟨w.heap.size + 1, i, none⟩ = (#[.int .i64 4, .string t, .int .i64 a', .int .u64 f', .string s', .int .i64 r0', .int .i64 r1', .int .i64 r2', .int .i64 r3', .slice pp' path'.length pc', .slice ip' items'.length ic'] : Array Value)[i]?)) (by kernel_rfl) ?_
  obtain ⟨W8, hW8⟩ : ∃ W8, W8 = w7.drew := ⟨_, rfl⟩
  have e8 : ({ w7 with drawn := w7.drawn + 1 } : World) = W8 := hW8.symm
  rw [e8]
  have hB8 : Below W2.heap.size W2 W8 := by rw [hW8]; exact HB7.out.drew
  have hS := (HK.out W8 hB8).2
  clear e8 hW8
  refine wpAnyH_take (i := 0) (v := .agg #[.int .i64 4, .string t, .int .i64 a, .int .u64 f, .string s, .int .i64 r0, .int .i64 r1, .int .i64 r2, .int .i64 r3, .slice pp path.length pc, .slice ip items.length ic]) rfl (by kernel_rfl) (by kernel_rfl) (by kernel_rfl) (fun _ _ _ h => h) (Or.inl ⟨by rfl, ?r⟩) hS ?_
  case r => intro W hW; simp [go_sem, execOp, Act.eval, hW.1]
  simp only [List.getElem_toArray, List.getElem_cons_zero, Act.put, List.setIfInBounds_toArray, List.set_cons_succ, List.set_cons_zero]
  refine wpAnyH_take (i := 2) (v := .agg #[.int .i64 4, .string t, .int .i64 a', .int .u64 f', .string s', .int .i64 r0', .int .i64 r1', .int .i64 r2', .int .i64 r3', .slice pp' path'.length pc', .slice ip' items'.length ic']) rfl (by kernel_rfl) (by kernel_rfl) (by kernel_rfl) (fun _ _ _ h => h) (Or.inl ⟨by rfl, ?r⟩) hS ?_
  case r => intro W hW; simp [go_sem, execOp, Act.eval, hW.2]
  simp only [List.getElem_toArray, List.getElem_cons_zero, List.getElem_cons_succ, Act.put, List.setIfInBounds_toArray, List.set_cons_succ, List.set_cons_zero]
  refine wpAnyH_all (rs := [1]) (by kernel_rfl) (by simp) (fun i2 hi2 => ?_)
  obtain rfl : i2 = 1 := by simpa using hi2
  clear hi2
  refine wpOp_step rfl (fun K hK => ite_yes rfl ?_)
  simp only [List.getElem_toArray, List.getElem_cons_zero, List.getElem_cons_succ]
  go_simp
  refine (HCA.out _ (HK.out _ hB8).1).mono ?_
  rintro e w9 ⟨rfl, b9⟩
  have hb9 : Below W2.heap.size W2 w9 := hB8.trans (b9.mono hB8.size)
  go_simp
  refine hK _ _ ⟨(HK.out _ hb9).2, ?_⟩
  clear hK K
  refine wpAnyH_all (rs := [3]) (by kernel_rfl) (by simp) (fun i2 hi2 => ?_)
  obtain rfl : i2 = 3 := by simpa using hi2
  clear hi2
  refine wpOp_step rfl (fun K hK => ite_yes rfl ?_)
  simp only [List.getElem_toArray, List.getElem_cons_zero, List.getElem_cons_succ]
  go_simp
  refine (HCB.out _ (HK.out _ hb9).1).mono ?_
  rintro e w10 ⟨rfl, b10⟩
  have hb10 : Below W2.heap.size W2 w10 := hb9.trans (b10.mono hb9.size)
  go_simp
  refine hK _ _ ⟨(HK.out _ hb10).2, ?_⟩
  clear hK K
  clear hS
  have hS := (HK.out _ hb10).2
  have HQ2 := HE.out
  refine wpAnyH_take (i := 4) (v := .bool q) rfl (by kernel_rfl) (by kernel_rfl) (by kernel_rfl) (fun _ _ _ h => h) (Or.inl ⟨by rfl, ?r⟩) hS ?_
  case r => intro W hW; simp [go_sem, execOp, Act.eval, HQ2]
  simp only [List.getElem_toArray, List.getElem_cons_zero, List.getElem_cons_succ, Act.put, List.setIfInBounds_toArray, List.set_cons_succ, List.set_cons_zero]
  refine wpAnyH_take (i := 5) (v := .bool q) rfl (by kernel_rfl) (by kernel_rfl) (by kernel_rfl) (fun _ _ _ h => h) (Or.inl ⟨by rfl, ?r⟩) hS ?_
  case r => intro W hW; simp [go_sem, execOp, Act.eval]
  simp only [List.getElem_toArray, List.getElem_cons_zero, List.getElem_cons_succ, Act.put, List.setIfInBounds_toArray, List.set_cons_succ, List.set_cons_zero]
  refine wpAnyH_take (i := 6) (v := .string ⟨#[]⟩) rfl (by kernel_rfl) (by kernel_rfl) (by kernel_rfl) (fun _ _ _ h => h) (Or.inl ⟨by rfl, ?r⟩) hS ?_
  case r => intro W hW; simp [go_sem, execOp, Act.eval]
  simp only [List.getElem_toArray, List.getElem_cons_zero, List.getElem_cons_succ, Act.put, List.setIfInBounds_toArray, List.set_cons_succ, List.set_cons_zero]
  refine wpAnyH_done (by kernel_rfl) ?_ _
  refine NoPanic.normal ?_
  try simp only [Act.put]
  go_wp2_with fail
  refine bodyPost_ret (v := .tuple #[.bool q, .string ⟨#[]⟩]) (by simp [results, Tryd.results59, go_sem]) rfl ⟨rfl, (HK.out _ hb10).1⟩

set_option maxRecDepth 100000 in
set_option maxHeartbeats 8000000 in
theorem eqk_9 (t : ByteArray) (a f : Int) (s : ByteArray) (r0 r1 r2 r3 : Int) (pp : Option Addr) (path : List Int) (pc : Nat) (ip : Option Addr) (items : List MD) (ic : Nat) (a' f' : Int) (s' : ByteArray) (r0' r1' r2' r3' : Int) (pp' : Option Addr) (path' : List Int) (pc' : Nat) (ip' : Option Addr) (items' : List MD) (ic' : Nat) (w : World)
    (hF : MD.Fine ⟨9, t, a, f, s, r0, r1, r2, r3, pp, path, pc⟩) (hF' : MD.Fine ⟨9, t, a', f', s', r0', r1', r2', r3', pp', path', pc'⟩) (hP : MD.PathIn w.heap.size w ⟨9, t, a, f, s, r0, r1, r2, r3, pp, path, pc⟩) (hP' : MD.PathIn w.heap.size w ⟨9, t, a', f', s', r0', r1', r2', r3', pp', path', pc'⟩)
    (hp : path.length ≤ 100) (hb : ∀ z ∈ path, 0 ≤ z ∧ z < 30) (hp' : path'.length ≤ 100) (hb' : ∀ z ∈ path', 0 ≤ z ∧ z < 30) :
    Calls Tryd.prog 59 #[.agg #[.int .i64 9, .string t, .int .i64 a, .int .u64 f, .string s, .int .i64 r0, .int .i64 r1, .int .i64 r2, .int .i64 r3, .slice pp path.length pc, .slice ip items.length ic], .agg #[.int .i64 9, .string t, .int .i64 a', .int .u64 f', .string s', .int .i64 r0', .int .i64 r1', .int .i64 r2', .int .i64 r3', .slice pp' path'.length pc', .slice ip' items'.length ic']] w fun r w' => r = .returned (.tuple #[.bool (decide (a = a' ∧ nz f = nz f' ∧ s = s' ∧ r0 = r0' ∧ path = path')), .string ⟨#[]⟩]) ∧ Below w.heap.size w w' := by
  have HQ : ∀ W, (binOp .neq 96 (.agg #[.int .i64 9, .string t]) (.agg #[.int .i64 9, .string t])).run Tryd.prog W = .ok (.bool false) W := fun W => by rw [typed_neq]; simp
  obtain ⟨q, hq⟩ : ∃ q, q = decide (a = a' ∧ nz f = nz f' ∧ s = s' ∧ r0 = r0' ∧ path = path') := ⟨_, rfl⟩
  have HE : Hid (∀ W, (binOp .eql 122 (.agg (coreF Tryd.zeroCells122 9 t a f s r0 path)) (.agg (coreF Tryd.zeroCells122 9 t a' f' s' r0' path'))).run Tryd.prog W = .ok (.bool q) W) := fun W => by
    have h := core_eql ⟨9, t, a, f, s, r0, r1, r2, r3, pp, path, pc⟩ ⟨9, t, a', f', s', r0', r1', r2', r3', pp', path', pc'⟩ hF hF' hp hb hp' hb' W
    rw [h, hq]; simp
  have HCA : Hid (∀ W, Below w.heap.size w W → Calls Tryd.prog 60 #[.agg #[.int .i64 9, .string t, .int .i64 a, .int .u64 f, .string s, .int .i64 r0, .int .i64 r1, .int .i64 r2, .int .i64 r3, .slice pp path.length pc, .slice ip items.length ic]] W fun r w' => r = .returned (.agg (coreF Tryd.zeroCells122 9 t a f s r0 path)) ∧ Below W.heap.size W w') := fun W hW => coreOf_any 9 t a f s r0 r1 r2 r3 pp path pc ip items.length ic W hp hb (hP.later (Nat.le_refl _) hW).2
  have HCB : Hid (∀ W, Below w.heap.size w W → Calls Tryd.prog 60 #[.agg #[.int .i64 9, .string t, .int .i64 a', .int .u64 f', .string s', .int .i64 r0', .int .i64 r1', .int .i64 r2', .int .i64 r3', .slice pp' path'.length pc', .slice ip' items'.length ic']] W fun r w' => r = .returned (.agg (coreF Tryd.zeroCells122 9 t a' f' s' r0' path')) ∧ Below W.heap.size W w') := fun W hW => coreOf_any 9 t a' f' s' r0' r1' r2' r3' pp' path' pc' ip' items'.length ic' W hp' hb' (hP'.later (Nat.le_refl _) hW).2
  rw [← hq]
  clear hq hF hF' hP hP' hp hb hp' hb'
  generalize coreF Tryd.zeroCells122 9 t a f s r0 path = ca at HE HCA
  generalize coreF Tryd.zeroCells122 9 t a' f' s' r0' path' = cb at HE HCB
  obtain ⟨W2, hW2⟩ : ∃ W2, W2 = (w.alloc (.cells #[.int .i64 9, .string t, .int .i64 a, .int .u64 f, .string s, .int .i64 r0, .int .i64 r1, .int .i64 r2, .int .i64 r3, .slice pp path.length pc, .slice ip items.length ic] 39)).alloc (.cells #[.int .i64 9, .string t, .int .i64 a', .int .u64 f', .string s', .int .i64 r0', .int .i64 r1', .int .i64 r2', .int .i64 r3', .slice pp' path'.length pc', .slice ip' items'.length ic'] 39) := ⟨_, rfl⟩
  have HK : Hid (∀ W, Below W2.heap.size W2 W → Below w.heap.size w W ∧ (∀ i, W.cell? ⟨w.heap.size, i, none⟩ = (#[.int .i64 9, .string t, .int .i64 a, .int .u64 f, .string s, .int .i64 r0, .int .i64 r1, .int .i64 r2, .int .i64 r3, .slice pp path.length pc, .slice ip items.length ic] : Array Value)[i]?) ∧ (∀ i, W.cell? ⟨w.heap.size + 1, i, none⟩ = (#[.int .i64 9, .string t, .int .i64 a', .int .u64 f', .string s', .int .i64 r0', .int .i64 r1', .int .i64 r2', .int .i64 r3', .slice pp' path'.length pc', .slice ip' items'.length ic'] : Array Value)[i]?)) := fun W hW => by rw [hW2] at hW; exact kept2 hW
  have hz2 : W2.heap.size = w.heap.size + 2 := by rw [hW2]; simp
  have HTA : Hid (∀ W, Calls Tryd.prog 58 #[.agg #[.int .i64 9, .string t, .int .i64 a, .int .u64 f, .string s, .int .i64 r0, .int .i64 r1, .int .i64 r2, .int .i64 r3, .slice pp path.length pc, .slice ip items.length ic]] W fun r w' => r = .returned (.agg #[.int .i64 9, .string t]) ∧ Below W.heap.size W w') := fun W => typeOf_any _ _ _ _ _ _ _ _ _ _ _ W
  have HTB : Hid (∀ W, Calls Tryd.prog 58 #[.agg #[.int .i64 9, .string t, .int .i64 a', .int .u64 f', .string s', .int .i64 r0', .int .i64 r1', .int .i64 r2', .int .i64 r3', .slice pp' path'.length pc', .slice ip' items'.length ic']] W fun r w' => r = .returned (.agg #[.int .i64 9, .string t]) ∧ Below W.heap.size W w') := fun W => typeOf_any _ _ _ _ _ _ _ _ _ _ _ W
  go_enter Tryd.func59, Tryd.ntmps59
  go_wp2_with fail
  rw [← hW2]
  clear hW2
  refine wp_region_noPanic ?_
  refine wp_region_held (S := fun W => (∀ i, W.cell? ⟨w.heap.size, i, none⟩ = (#[.int .i64 9, .string t, .int .i64 a, .int .u64 f, .string s, .int .i64 r0, .int .i64 r1, .int .i64 r2, .int .i64 r3, .slice pp path.length pc, .slice ip items.length ic] : Array Value)[i]?) ∧ (∀ i, W.cell? ⟨w.heap.size + 1, i, none⟩ = (#[.int .i64 9, .string t, .int .i64 a', .int .u64 f', .string s', .int .i64 r0', .int .i64 r1', .int .i64 r2', .int .i64 r3', .slice pp' path'.length pc', .slice ip' items'.length ic'] : Array Value)[i]?)) (by kernel_rfl) ?_
  obtain ⟨W4, hW4⟩ : ∃ W4, W4 = W2.drew := ⟨_, rfl⟩
  have e4 : ({ W2 with drawn := W2.drawn + 1 } : World) = W4 := hW4.symm
  rw [e4]
  have hB4 : Below W2.heap.size W2 W4 := by rw [hW4]; exact (Below.refl _ _).drew
  have hS := (HK.out W4 hB4).2
  clear e4 hW4
  refine wpAnyH_take (i := 0) (v := .agg #[.int .i64 9, .string t, .int .i64 a, .int .u64 f, .string s, .int .i64 r0, .int .i64 r1, .int .i64 r2, .int .i64 r3, .slice pp path.length pc, .slice ip items.length ic]) rfl (by kernel_rfl) (by kernel_rfl) (by kernel_rfl) (fun _ _ _ h => h) (Or.inl ⟨by rfl, ?r⟩) hS ?_
  case r => intro W hW; simp [go_sem, execOp, Act.eval, hW.1]
  simp only [List.getElem_toArray, List.getElem_cons_zero, Act.put, List.setIfInBounds_toArray, List.set_cons_succ, List.set_cons_zero]
  refine wpAnyH_take (i := 2) (v := .agg #[.int .i64 9, .string t, .int .i64 a', .int .u64 f', .string s', .int .i64 r0', .int .i64 r1', .int .i64 r2', .int .i64 r3', .slice pp' path'.length pc', .slice ip' items'.length ic']) rfl (by kernel_rfl) (by kernel_rfl) (by kernel_rfl) (fun _ _ _ h => h) (Or.inl ⟨by rfl, ?r⟩) hS ?_
  case r => intro W hW; simp [go_sem, execOp, Act.eval, hW.2]
  simp only [List.getElem_toArray, List.getElem_cons_zero, List.getElem_cons_succ, Act.put, List.setIfInBounds_toArray, List.set_cons_succ, List.set_cons_zero]
  refine wpAnyH_all (rs := [1]) (by kernel_rfl) (by simp) (fun i2 hi2 => ?_)
  obtain rfl : i2 = 1 := by simpa using hi2
  clear hi2
  refine wpOp_step rfl (fun K hK => ite_yes rfl ?_)
  simp only [List.getElem_toArray, List.getElem_cons_zero, List.getElem_cons_succ]
  go_simp
  refine (HTA.out _).mono ?_
  rintro e w5 ⟨rfl, b5⟩
  have hb5 : Below W2.heap.size W2 w5 := hB4.trans (b5.mono hB4.size)
  go_simp
  refine hK _ _ ⟨(HK.out _ hb5).2, ?_⟩
  clear hK K
  refine wpAnyH_all (rs := [3]) (by kernel_rfl) (by simp) (fun i2 hi2 => ?_)
  obtain rfl : i2 = 3 := by simpa using hi2
  clear hi2
  refine wpOp_step rfl (fun K hK => ite_yes rfl ?_)
  simp only [List.getElem_toArray, List.getElem_cons_zero, List.getElem_cons_succ]
  go_simp
  refine (HTB.out _).mono ?_
  rintro e w6 ⟨rfl, b6⟩
  have hb6 : Below W2.heap.size W2 w6 := hb5.trans (b6.mono hb5.size)
  go_simp
  refine hK _ _ ⟨(HK.out _ hb6).2, ?_⟩
  clear hK K
  clear hS
  have hS := (HK.out _ hb6).2
  refine wpAnyH_take (i := 4) (v := .bool false) rfl (by kernel_rfl) (by kernel_rfl) (by kernel_rfl) (fun _ _ _ h => h) (Or.inl ⟨by rfl, ?r⟩) hS ?_
  case r => intro W hW; simp [go_sem, execOp, Act.eval, HQ]
  simp only [List.getElem_toArray, List.getElem_cons_zero, List.getElem_cons_succ, Act.put, List.setIfInBounds_toArray, List.set_cons_succ, List.set_cons_zero]
  refine wpAnyH_done (by kernel_rfl) ?_ _
  refine NoPanic.normal ?_
  try simp only [Act.put]
  have hc6 := (HK.out _ hb6).2.1
  have hd6 := (HK.out _ hb6).2.2
  have HB6 : Hid (Below W2.heap.size W2 w6) := hb6
  have hz6 := hb6.size
  clear hb6 b6 hb5 b5 hB4 hS HQ HTA HTB
  have hb0 : w6.cell? ⟨w.heap.size, 0, none⟩ = some (.int .i64 9) := hc6 0
  go_wp2_with (go_at_call 66; refine (behind_9 _ _ hb0 (by omega)).mono ?_; rintro r w7 ⟨rfl, b7⟩; have HB7 : Hid (Below W2.heap.size W2 w7) := HB6.out.trans (b7.mono HB6.out.size); clear b7)
  clear hc6 hd6 hb0
  refine wp_region_noPanic ?_
  refine wp_region_held (S := fun W => (∀ i, W.cell? ⟨w.heap.size, i, none⟩ = (#[.int .i64 9, .string t, .int .i64 a, .int .u64 f, .string s, .int .i64 r0, .int .i64 r1, .int .i64 r2, .int .i64 r3, .slice pp path.length pc, .slice ip items.length ic] : Array Value)[i]?) ∧ (∀ i, W.cell? ⟨w.heap.size + 1, i, none⟩ = (#[.int .i64 9, .string t, .int .i64 a', .int .u64 f', .string s', .int .i64 r0', .int .i64 r1', .int .i64 r2', .int .i64 r3', .slice pp' path'.length pc', .slice ip' items'.length ic'] : Array Value)[i]?)) (by kernel_rfl) ?_
  obtain ⟨W8, hW8⟩ : ∃ W8, W8 = w7.drew := ⟨_, rfl⟩
  have e8 : ({ w7 with drawn := w7.drawn + 1 } : World) = W8 := hW8.symm
  rw [e8]
  have hB8 : Below W2.heap.size W2 W8 := by rw [hW8]; exact HB7.out.drew
  have hS := (HK.out W8 hB8).2
  clear e8 hW8
  refine wpAnyH_take (i := 0) (v := .agg #[.int .i64 9, .string t, .int .i64 a, .int .u64 f, .string s, .int .i64 r0, .int .i64 r1, .int .i64 r2, .int .i64 r3, .slice pp path.length pc, .slice ip items.length ic]) rfl (by kernel_rfl) (by kernel_rfl) (by kernel_rfl) (fun _ _ _ h => h) (Or.inl ⟨by rfl, ?r⟩) hS ?_
  case r => intro W hW; simp [go_sem, execOp, Act.eval, hW.1]
  simp only [List.getElem_toArray, List.getElem_cons_zero, Act.put, List.setIfInBounds_toArray, List.set_cons_succ, List.set_cons_zero]
  refine wpAnyH_take (i := 2) (v := .agg #[.int .i64 9, .string t, .int .i64 a', .int .u64 f', .string s', .int .i64 r0', .int .i64 r1', .int .i64 r2', .int .i64 r3', .slice pp' path'.length pc', .slice ip' items'.length ic']) rfl (by kernel_rfl) (by kernel_rfl) (by kernel_rfl) (fun _ _ _ h => h) (Or.inl ⟨by rfl, ?r⟩) hS ?_
  case r => intro W hW; simp [go_sem, execOp, Act.eval, hW.2]
  simp only [List.getElem_toArray, List.getElem_cons_zero, List.getElem_cons_succ, Act.put, List.setIfInBounds_toArray, List.set_cons_succ, List.set_cons_zero]
  refine wpAnyH_all (rs := [1]) (by kernel_rfl) (by simp) (fun i2 hi2 => ?_)
  obtain rfl : i2 = 1 := by simpa using hi2
  clear hi2
  refine wpOp_step rfl (fun K hK => ite_yes rfl ?_)
  simp only [List.getElem_toArray, List.getElem_cons_zero, List.getElem_cons_succ]
  go_simp
  refine (HCA.out _ (HK.out _ hB8).1).mono ?_
  rintro e w9 ⟨rfl, b9⟩
  have hb9 : Below W2.heap.size W2 w9 := hB8.trans (b9.mono hB8.size)
  go_simp
  refine hK _ _ ⟨(HK.out _ hb9).2, ?_⟩
  clear hK K
  refine wpAnyH_all (rs := [3]) (by kernel_rfl) (by simp) (fun i2 hi2 => ?_)
  obtain rfl : i2 = 3 := by simpa using hi2
  clear hi2
  refine wpOp_step rfl (fun K hK => ite_yes rfl ?_)
  simp only [List.getElem_toArray, List.getElem_cons_zero, List.getElem_cons_succ]
  go_simp
  refine (HCB.out _ (HK.out _ hb9).1).mono ?_
  rintro e w10 ⟨rfl, b10⟩
  have hb10 : Below W2.heap.size W2 w10 := hb9.trans (b10.mono hb9.size)
  go_simp
  refine hK _ _ ⟨(HK.out _ hb10).2, ?_⟩
  clear hK K
  clear hS
  have hS := (HK.out _ hb10).2
  have HQ2 := HE.out
  refine wpAnyH_take (i := 4) (v := .bool q) rfl (by kernel_rfl) (by kernel_rfl) (by kernel_rfl) (fun _ _ _ h => h) (Or.inl ⟨by rfl, ?r⟩) hS ?_
  case r => intro W hW; simp [go_sem, execOp, Act.eval, HQ2]
  simp only [List.getElem_toArray, List.getElem_cons_zero, List.getElem_cons_succ, Act.put, List.setIfInBounds_toArray, List.set_cons_succ, List.set_cons_zero]
  refine wpAnyH_take (i := 5) (v := .bool q) rfl (by kernel_rfl) (by kernel_rfl) (by kernel_rfl) (fun _ _ _ h => h) (Or.inl ⟨by rfl, ?r⟩) hS ?_
  case r => intro W hW; simp [go_sem, execOp, Act.eval]
  simp only [List.getElem_toArray, List.getElem_cons_zero, List.getElem_cons_succ, Act.put, List.setIfInBounds_toArray, List.set_cons_succ, List.set_cons_zero]
  refine wpAnyH_take (i := 6) (v := .string ⟨#[]⟩) rfl (by kernel_rfl) (by kernel_rfl) (by kernel_rfl) (fun _ _ _ h => h) (Or.inl ⟨by rfl, ?r⟩) hS ?_
  case r => intro W hW; simp [go_sem, execOp, Act.eval]
  simp only [List.getElem_toArray, List.getElem_cons_zero, List.getElem_cons_succ, Act.put, List.setIfInBounds_toArray, List.set_cons_succ, List.set_cons_zero]
  refine wpAnyH_done (by kernel_rfl) ?_ _
  refine NoPanic.normal ?_
  try simp only [Act.put]
  go_wp2_with fail
  refine bodyPost_ret (v := .tuple #[.bool q, .string ⟨#[]⟩]) (by simp [results, Tryd.results59, go_sem]) rfl ⟨rfl, (HK.out _ hb10).1⟩
end Go.Proofs.YtflonmlnedkmjaaDoor
