/-
  .
  .
  .
-/
import Derived.Test.YtdbijkgnddcneaaGreatDoorSq
import Derived.Test.YtdbijkgnddcneaaGreatDoorQb
import Derived.Test.YtdbijkgnddcneaaGreatDoorEeJ
import Derived.BigRegion
import Derived.Test.YtdbijkgnddcneaaGreatDoorIJ
import Derived.Test.YtdbijkgnddcneaaGreatDoorNJ
import Derived.Stop.Asserts
namespace Go.Proofs.YtdbijkgnddcneaaGreatDoor
open Go.RowKit
set_option maxRecDepth 100000
set_option maxHeartbeats 8000000
attribute [local go_sem] refold2 cell3_0 cell3_1 b28_0 b28_01 x56
theorem typed_neq (k : Int) (t : ByteArray) (k' : Int) (t' : ByteArray) (w : World) : (binOp .neq 176 (.agg #[.int .i64 k, .string t]) (.agg #[.int .i64 k', .string t'])).run Tryz.prog w = .ok (.bool (!(k == k' && t.toList == t'.toList))) w := by
 by_cases h0 : k = k'
 ·by_cases h1 : t.toList = t'.toList
  ·simp [go_sem, h0, h1]
  ·simp [go_sem, h0, h1]
 ·simp [go_sem, h0]
theorem ta1r (v : Value) (w : World) : (Instr.typeAssert (.iface 299 v) 257 262 true).run Tryz.prog w = .ok (.tuple #[.agg #[.pointer none], .bool false]) w := by kernel_rfl
theorem ta1f (v : Value) (w : World) : (Instr.typeAssert (.iface 299 v) 257 266 true).run Tryz.prog w = .ok (.tuple #[.agg #[.pointer none], .bool false]) w := by kernel_rfl
theorem ta1k (v : Value) (w : World) : (Instr.typeAssert (.iface 299 v) 257 268 true).run Tryz.prog w = .ok (.tuple #[.iface 299 v, .bool true]) w := run_typeAssert_hasB Tryz.underlying268 (by kernel_rfl) v 257 w
theorem ta2r (v : Value) (w : World) : (Instr.typeAssert (.iface 300 v) 257 262 true).run Tryz.prog w = .ok (.tuple #[.agg #[.pointer none], .bool false]) w := by kernel_rfl
theorem ta2f (v : Value) (w : World) : (Instr.typeAssert (.iface 300 v) 257 266 true).run Tryz.prog w = .ok (.tuple #[.agg #[.pointer none], .bool false]) w := by kernel_rfl
theorem ta2k (v : Value) (w : World) : (Instr.typeAssert (.iface 300 v) 257 268 true).run Tryz.prog w = .ok (.tuple #[.iface 300 v, .bool true]) w := run_typeAssert_hasB Tryz.underlying268 (by kernel_rfl) v 257 w
theorem ta3r (v : Value) (w : World) : (Instr.typeAssert (.iface 266 v) 257 262 true).run Tryz.prog w = .ok (.tuple #[.agg #[.pointer none], .bool false]) w := by kernel_rfl
theorem ta4r (v : Value) (w : World) : (Instr.typeAssert (.iface 301 v) 257 262 true).run Tryz.prog w = .ok (.tuple #[.agg #[.pointer none], .bool false]) w := by kernel_rfl
theorem ta4f (v : Value) (w : World) : (Instr.typeAssert (.iface 301 v) 257 266 true).run Tryz.prog w = .ok (.tuple #[.agg #[.pointer none], .bool false]) w := by kernel_rfl
theorem ta4k (v : Value) (w : World) : (Instr.typeAssert (.iface 301 v) 257 268 true).run Tryz.prog w = .ok (.tuple #[.iface 301 v, .bool true]) w := run_typeAssert_hasB Tryz.underlying268 (by kernel_rfl) v 257 w
theorem ta5r (v : Value) (w : World) : (Instr.typeAssert (.iface 304 v) 257 262 true).run Tryz.prog w = .ok (.tuple #[.agg #[.pointer none], .bool false]) w := by kernel_rfl
theorem ta5f (v : Value) (w : World) : (Instr.typeAssert (.iface 304 v) 257 266 true).run Tryz.prog w = .ok (.tuple #[.agg #[.pointer none], .bool false]) w := by kernel_rfl
theorem ta5k (v : Value) (w : World) : (Instr.typeAssert (.iface 304 v) 257 268 true).run Tryz.prog w = .ok (.tuple #[.nilIface, .bool false]) w := run_typeAssert_lacksB Tryz.underlying268 (by kernel_rfl) (by kernel_rfl) v 257 w
theorem ta6r (v : Value) (w : World) : (Instr.typeAssert (.iface 305 v) 257 262 true).run Tryz.prog w = .ok (.tuple #[.agg #[.pointer none], .bool false]) w := by kernel_rfl
theorem ta6f (v : Value) (w : World) : (Instr.typeAssert (.iface 305 v) 257 266 true).run Tryz.prog w = .ok (.tuple #[.agg #[.pointer none], .bool false]) w := by kernel_rfl
theorem ta6k (v : Value) (w : World) : (Instr.typeAssert (.iface 305 v) 257 268 true).run Tryz.prog w = .ok (.tuple #[.nilIface, .bool false]) w := run_typeAssert_lacksB Tryz.underlying268 (by kernel_rfl) (by kernel_rfl) v 257 w
theorem ta7r (v : Value) (w : World) : (Instr.typeAssert (.iface 306 v) 257 262 true).run Tryz.prog w = .ok (.tuple #[.agg #[.pointer none], .bool false]) w := by kernel_rfl
theorem ta7f (v : Value) (w : World) : (Instr.typeAssert (.iface 306 v) 257 266 true).run Tryz.prog w = .ok (.tuple #[.agg #[.pointer none], .bool false]) w := by kernel_rfl
theorem ta7k (v : Value) (w : World) : (Instr.typeAssert (.iface 306 v) 257 268 true).run Tryz.prog w = .ok (.tuple #[.nilIface, .bool false]) w := run_typeAssert_lacksB Tryz.underlying268 (by kernel_rfl) (by kernel_rfl) v 257 w
theorem ta9r (v : Value) (w : World) : (Instr.typeAssert (.iface 307 v) 257 262 true).run Tryz.prog w = .ok (.tuple #[.agg #[.pointer none], .bool false]) w := by kernel_rfl
theorem ta9f (v : Value) (w : World) : (Instr.typeAssert (.iface 307 v) 257 266 true).run Tryz.prog w = .ok (.tuple #[.agg #[.pointer none], .bool false]) w := by kernel_rfl
theorem ta9k (v : Value) (w : World) : (Instr.typeAssert (.iface 307 v) 257 268 true).run Tryz.prog w = .ok (.tuple #[.iface 307 v, .bool true]) w := run_typeAssert_hasB Tryz.underlying268 (by kernel_rfl) v 257 w
theorem ta8r (v : Value) (w : World) : (Instr.typeAssert (.iface 262 v) 257 262 true).run Tryz.prog w = .ok (.tuple #[v, .bool true]) w := by kernel_rfl
theorem ta3f (v : Value) (w : World) : (Instr.typeAssert (.iface 266 v) 257 266 true).run Tryz.prog w = .ok (.tuple #[v, .bool true]) w := by kernel_rfl
theorem ta0r (w : World) : (Instr.typeAssert .nilIface 257 262 true).run Tryz.prog w = .ok (.tuple #[.agg #[.pointer none], .bool false]) w := by kernel_rfl
theorem ta0f (w : World) : (Instr.typeAssert .nilIface 257 266 true).run Tryz.prog w = .ok (.tuple #[.agg #[.pointer none], .bool false]) w := by kernel_rfl
theorem ta0k (w : World) : (Instr.typeAssert .nilIface 257 268 true).run Tryz.prog w = .ok (.tuple #[.nilIface, .bool false]) w := by kernel_rfl
attribute [local go_sem] ta1r ta1f ta1k ta2r ta2f ta2k ta3r ta4r ta4f ta4k ta5r ta5f ta5k ta6r ta6f ta6k ta7r ta7f ta7k ta9r ta9f ta9k ta8r ta3f ta0r ta0f ta0k
theorem equal_unlike (x y : MD) (w : World) (hne : ¬ (x.h.k = y.h.k ∧ x.h.t = y.h.t)) : Calls Tryz.prog 120 #[x.val, y.val] w fun r w' => r = .returned (.tuple #[.bool false, .string ⟨#[]⟩]) ∧ Below w.heap.size w w' := by
 obtain ⟨⟨k, t, a, f, s, r0, r1, r2, r3, pp, path, pc⟩, ip, ic, items⟩ := x
 obtain ⟨⟨k', t', a', f', s', r0', r1', r2', r3', pp', path', pc'⟩, ip', ic', items'⟩ := y
 have HQ : ∀ W, (binOp .neq 176 (.agg #[.int .i64 k, .string t]) (.agg #[.int .i64 k', .string t'])).run Tryz.prog W = .ok (.bool true) W := fun W => by
  rw [typed_neq]
  have e : (k == k' && t.toList == t'.toList) = false := by
   cases hh : (k == k' && t.toList == t'.toList) with
   | false => rfl
   | true =>
    rw [Bool.and_eq_true, beq_iff_eq, beq_iff_eq] at hh
    exact absurd ⟨hh.1, byteArray_ext hh.2⟩ hne
  rw [e]; rfl
 clear hne
 simp only [MD.val, D]
 obtain ⟨W2, hW2⟩ : ∃ W2, W2 = (w.alloc (.cells #[.int .i64 k, .string t, .int .i64 a, .int .u64 f, .string s, .int .i64 r0, .int .i64 r1, .int .i64 r2, .int .i64 r3, .slice pp path.length pc, .slice ip items.length ic] 32)).alloc (.cells #[.int .i64 k', .string t', .int .i64 a', .int .u64 f', .string s', .int .i64 r0', .int .i64 r1', .int .i64 r2', .int .i64 r3', .slice pp' path'.length pc', .slice ip' items'.length ic'] 32) := ⟨_, rfl⟩
 have HK : Hid (∀ W, Below W2.heap.size W2 W → Below w.heap.size w W ∧ (∀ i, W.cell? ⟨w.heap.size, i, none⟩ = (#[.int .i64 k, .string t, .int .i64 a, .int .u64 f, .string s, .int .i64 r0, .int .i64 r1, .int .i64 r2, .int .i64 r3, .slice pp path.length pc, .slice ip items.length ic] : Array Value)[i]?) ∧ (∀ i, W.cell? ⟨w.heap.size + 1, i, none⟩ = (#[.int .i64 k', .string t', .int .i64 a', .int .u64 f', .string s', .int .i64 r0', .int .i64 r1', .int .i64 r2', .int .i64 r3', .slice pp' path'.length pc', .slice ip' items'.length ic'] : Array Value)[i]?)) := fun W hW => by rw [hW2] at hW; exact kept2 hW
 have hz2 : W2.heap.size = w.heap.size + 2 := by rw [hW2]; simp
 have HTA : Hid (∀ W, Calls Tryz.prog 141 #[.agg #[.int .i64 k, .string t, .int .i64 a, .int .u64 f, .string s, .int .i64 r0, .int .i64 r1, .int .i64 r2, .int .i64 r3, .slice pp path.length pc, .slice ip items.length ic]] W fun r w' => r = .returned (.agg #[.int .i64 k, .string t]) ∧ Below W.heap.size W w') := fun W => typeOf_any _ _ _ _ _ _ _ _ _ _ _ W
 have HTB : Hid (∀ W, Calls Tryz.prog 141 #[.agg #[.int .i64 k', .string t', .int .i64 a', .int .u64 f', .string s', .int .i64 r0', .int .i64 r1', .int .i64 r2', .int .i64 r3', .slice pp' path'.length pc', .slice ip' items'.length ic']] W fun r w' => r = .returned (.agg #[.int .i64 k', .string t']) ∧ Below W.heap.size W w') := fun W => typeOf_any _ _ _ _ _ _ _ _ _ _ _ W
 go_enter Tryz.func120, Tryz.ntmps120
 go_wp2_with fail
 rw [← hW2]
 clear hW2
 refine wp_region_noPanic ?_
 refine wp_region_held (S := fun W => (∀ i, W.cell? ⟨w.heap.size, i, none⟩ = (#[.int .i64 k, .string t, .int .i64 a, .int .u64 f, .string s, .int .i64 r0, .int .i64 r1, .int .i64 r2, .int .i64 r3, .slice pp path.length pc, .slice ip items.length ic] : Array Value)[i]?) ∧ (∀ i, W.cell? ⟨w.heap.size + 1, i, none⟩ = (#[.int .i64 k', .string t', .int .i64 a', .int .u64 f', .string s', .int .i64 r0', .int .i64 r1', .int .i64 r2', .int .i64 r3', .slice pp' path'.length pc', .slice ip' items'.length ic'] : Array Value)[i]?)) (by kernel_rfl) ?_
 obtain ⟨W4, hW4⟩ : ∃ W4, W4 = W2.drew := ⟨_, rfl⟩
 have e4 : ({ W2 with drawn := W2.drawn + 1 } : World) = W4 := hW4.symm
 rw [e4]
 have hB4 : Below W2.heap.size W2 W4 := by rw [hW4]; exact (Below.refl _ _).drew
 have hS := (HK.out W4 hB4).2
 clear e4 hW4
 refine tk 0 (.agg #[.int .i64 k, .string t, .int .i64 a, .int .u64 f, .string s, .int .i64 r0, .int .i64 r1, .int .i64 r2, .int .i64 r3, .slice pp path.length pc, .slice ip items.length ic]) rfl (.inl ⟨by rfl, ?r⟩) hS ?_
 case r => intro W hW; simp [go_sem, execOp, Act.eval, hW.1]
 simp only [sa, sb, Act.put, sd, se, sf]
 refine tk 2 (.agg #[.int .i64 k', .string t', .int .i64 a', .int .u64 f', .string s', .int .i64 r0', .int .i64 r1', .int .i64 r2', .int .i64 r3', .slice pp' path'.length pc', .slice ip' items'.length ic']) rfl (.inl ⟨by rfl, ?r⟩) hS ?_
 case r => intro W hW; simp [go_sem, execOp, Act.eval, hW.2]
 simp only [sa, sb, sc, Act.put, sd, se, sf]
 refine one 1 rfl (fun K hK => ?_)
 simp only [sa, sb, sc]
 go_simp
 refine (HTA.out _).mono ?_
 rintro e w5 ⟨rfl, b5⟩
 have hb5 : Below W2.heap.size W2 w5 := hB4.trans (b5.mono hB4.size)
 go_simp
 refine hK _ _ ⟨(HK.out _ hb5).2, ?_⟩
 clear hK K
 refine one 3 rfl (fun K hK => ?_)
 simp only [sa, sb, sc]
 go_simp
 refine (HTB.out _).mono ?_
 rintro e w6 ⟨rfl, b6⟩
 have hb6 : Below W2.heap.size W2 w6 := hb5.trans (b6.mono hb5.size)
 go_simp
 refine hK _ _ ⟨(HK.out _ hb6).2, ?_⟩
 clear hK K
 clear hS
 have hS := (HK.out _ hb6).2
 refine tk 4 (.bool true) rfl (.inl ⟨by rfl, ?r⟩) hS ?_
 case r => intro W hW; simp [go_sem, execOp, Act.eval, HQ]
 simp only [sa, sb, sc, Act.put, sd, se, sf]
 refine dn ?_
 try simp only [Act.put]
 have hc6 := (HK.out _ hb6).2.1
 have hd6 := (HK.out _ hb6).2.2
 have HB6 : Hid (Below W2.heap.size W2 w6) := hb6
 have hz6 := hb6.size
 clear hb6 b6 hb5 b5 hB4 hS HQ HTA HTB
 go_wp2_with fail
 refine bodyPost_ret (v := .tuple #[.bool false, .string ⟨#[]⟩]) (by simp [results, Tryz.results120, go_sem]) rfl ⟨rfl, (HK.out _ HB6.out).1⟩
theorem eqk_0 (t : ByteArray) (a f : Int) (s : ByteArray) (r0 r1 r2 r3 : Int) (pp : Option Addr) (path : List Int) (pc : Nat) (ip : Option Addr) (items : List MD) (ic : Nat) (a' f' : Int) (s' : ByteArray) (r0' r1' r2' r3' : Int) (pp' : Option Addr) (path' : List Int) (pc' : Nat) (ip' : Option Addr) (items' : List MD) (ic' : Nat) (w : World)
  (hF : MD.Fine ⟨0, t, a, f, s, r0, r1, r2, r3, pp, path, pc⟩) (hF' : MD.Fine ⟨0, t, a', f', s', r0', r1', r2', r3', pp', path', pc'⟩) (hP : MD.PathIn w.heap.size w ⟨0, t, a, f, s, r0, r1, r2, r3, pp, path, pc⟩) (hP' : MD.PathIn w.heap.size w ⟨0, t, a', f', s', r0', r1', r2', r3', pp', path', pc'⟩)
  (hp : path.length ≤ 100) (hb : ∀ z ∈ path, 0 ≤ z ∧ z < 30) (hp' : path'.length ≤ 100) (hb' : ∀ z ∈ path', 0 ≤ z ∧ z < 30) :
  Calls Tryz.prog 120 #[.agg #[.int .i64 0, .string t, .int .i64 a, .int .u64 f, .string s, .int .i64 r0, .int .i64 r1, .int .i64 r2, .int .i64 r3, .slice pp path.length pc, .slice ip items.length ic], .agg #[.int .i64 0, .string t, .int .i64 a', .int .u64 f', .string s', .int .i64 r0', .int .i64 r1', .int .i64 r2', .int .i64 r3', .slice pp' path'.length pc', .slice ip' items'.length ic']] w fun r w' => r = .returned (.tuple #[.bool (decide (a = a' ∧ nz f = nz f' ∧ s = s' ∧ r0 = r0' ∧ path = path')), .string ⟨#[]⟩]) ∧ Below w.heap.size w w' := by
 have HQ : ∀ W, (binOp .neq 176 (.agg #[.int .i64 0, .string t]) (.agg #[.int .i64 0, .string t])).run Tryz.prog W = .ok (.bool false) W := fun W => by rw [typed_neq]; simp
 obtain ⟨q, hq⟩ : ∃ q, q = decide (a = a' ∧ nz f = nz f' ∧ s = s' ∧ r0 = r0' ∧ path = path') := ⟨_, rfl⟩
 have HE : Hid (∀ W, (binOp .eql 271 (.agg (coreF Tryz.zeroCells271 0 t a f s r0 path)) (.agg (coreF Tryz.zeroCells271 0 t a' f' s' r0' path'))).run Tryz.prog W = .ok (.bool q) W) := fun W => by
  have h := core_eql ⟨0, t, a, f, s, r0, r1, r2, r3, pp, path, pc⟩ ⟨0, t, a', f', s', r0', r1', r2', r3', pp', path', pc'⟩ hF hF' hp hb hp' hb' W
  rw [h, hq]; simp
 have HCA : Hid (∀ W, Below w.heap.size w W → Calls Tryz.prog 164 #[.agg #[.int .i64 0, .string t, .int .i64 a, .int .u64 f, .string s, .int .i64 r0, .int .i64 r1, .int .i64 r2, .int .i64 r3, .slice pp path.length pc, .slice ip items.length ic]] W fun r w' => r = .returned (.agg (coreF Tryz.zeroCells271 0 t a f s r0 path)) ∧ Below W.heap.size W w') := fun W hW => coreOf_any 0 t a f s r0 r1 r2 r3 pp path pc ip items.length ic W hp hb (hP.later (Nat.le_refl _) hW).2
 have HCB : Hid (∀ W, Below w.heap.size w W → Calls Tryz.prog 164 #[.agg #[.int .i64 0, .string t, .int .i64 a', .int .u64 f', .string s', .int .i64 r0', .int .i64 r1', .int .i64 r2', .int .i64 r3', .slice pp' path'.length pc', .slice ip' items'.length ic']] W fun r w' => r = .returned (.agg (coreF Tryz.zeroCells271 0 t a' f' s' r0' path')) ∧ Below W.heap.size W w') := fun W hW => coreOf_any 0 t a' f' s' r0' r1' r2' r3' pp' path' pc' ip' items'.length ic' W hp' hb' (hP'.later (Nat.le_refl _) hW).2
 rw [← hq]
 clear hq hF hF' hP hP' hp hb hp' hb'
 generalize coreF Tryz.zeroCells271 0 t a f s r0 path = ca at HE HCA
 generalize coreF Tryz.zeroCells271 0 t a' f' s' r0' path' = cb at HE HCB
 obtain ⟨W2, hW2⟩ : ∃ W2, W2 = (w.alloc (.cells #[.int .i64 0, .string t, .int .i64 a, .int .u64 f, .string s, .int .i64 r0, .int .i64 r1, .int .i64 r2, .int .i64 r3, .slice pp path.length pc, .slice ip items.length ic] 32)).alloc (.cells #[.int .i64 0, .string t, .int .i64 a', .int .u64 f', .string s', .int .i64 r0', .int .i64 r1', .int .i64 r2', .int .i64 r3', .slice pp' path'.length pc', .slice ip' items'.length ic'] 32) := ⟨_, rfl⟩
 have HK : Hid (∀ W, Below W2.heap.size W2 W → Below w.heap.size w W ∧ (∀ i, W.cell? ⟨w.heap.size, i, none⟩ = (#[.int .i64 0, .string t, .int .i64 a, .int .u64 f, .string s, .int .i64 r0, .int .i64 r1, .int .i64 r2, .int .i64 r3, .slice pp path.length pc, .slice ip items.length ic] : Array Value)[i]?) ∧ (∀ i, W.cell? ⟨w.heap.size + 1, i, none⟩ = (#[.int .i64 0, .string t, .int .i64 a', .int .u64 f', .string s', .int .i64 r0', .int .i64 r1', .int .i64 r2', .int .i64 r3', .slice pp' path'.length pc', .slice ip' items'.length ic'] : Array Value)[i]?)) := fun W hW => by rw [hW2] at hW; exact kept2 hW
 have hz2 : W2.heap.size = w.heap.size + 2 := by rw [hW2]; simp
 have HTA : Hid (∀ W, Calls Tryz.prog 141 #[.agg #[.int .i64 0, .string t, .int .i64 a, .int .u64 f, .string s, .int .i64 r0, .int .i64 r1, .int .i64 r2, .int .i64 r3, .slice pp path.length pc, .slice ip items.length ic]] W fun r w' => r = .returned (.agg #[.int .i64 0, .string t]) ∧ Below W.heap.size W w') := fun W => typeOf_any _ _ _ _ _ _ _ _ _ _ _ W
 have HTB : Hid (∀ W, Calls Tryz.prog 141 #[.agg #[.int .i64 0, .string t, .int .i64 a', .int .u64 f', .string s', .int .i64 r0', .int .i64 r1', .int .i64 r2', .int .i64 r3', .slice pp' path'.length pc', .slice ip' items'.length ic']] W fun r w' => r = .returned (.agg #[.int .i64 0, .string t]) ∧ Below W.heap.size W w') := fun W => typeOf_any _ _ _ _ _ _ _ _ _ _ _ W
 go_enter Tryz.func120, Tryz.ntmps120
 go_wp2_with fail
 rw [← hW2]
 clear hW2
 refine wp_region_noPanic ?_
 refine wp_region_held (S := fun W => (∀ i, W.cell? ⟨w.heap.size, i, none⟩ = (#[.int .i64 0, .string t, .int .i64 a, .int .u64 f, .string s, .int .i64 r0, .int .i64 r1, .int .i64 r2, .int .i64 r3, .slice pp path.length pc, .slice ip items.length ic] : Array Value)[i]?) ∧ (∀ i, W.cell? ⟨w.heap.size + 1, i, none⟩ = (#[.int .i64 0, .string t, .int .i64 a', .int .u64 f', .string s', .int .i64 r0', .int .i64 r1', .int .i64 r2', .int .i64 r3', .slice pp' path'.length pc', .slice ip' items'.length ic'] : Array Value)[i]?)) (by kernel_rfl) ?_
 obtain ⟨W4, hW4⟩ : ∃ W4, W4 = W2.drew := ⟨_, rfl⟩
 have e4 : ({ W2 with drawn := W2.drawn + 1 } : World) = W4 := hW4.symm
 rw [e4]
 have hB4 : Below W2.heap.size W2 W4 := by rw [hW4]; exact (Below.refl _ _).drew
 have hS := (HK.out W4 hB4).2
 clear e4 hW4
 refine tk 0 (.agg #[.int .i64 0, .string t, .int .i64 a, .int .u64 f, .string s, .int .i64 r0, .int .i64 r1, .int .i64 r2, .int .i64 r3, .slice pp path.length pc, .slice ip items.length ic]) rfl (.inl ⟨by rfl, ?r⟩) hS ?_
 case r => intro W hW; simp [go_sem, execOp, Act.eval, hW.1]
 simp only [sa, sb, Act.put, sd, se, sf]
 refine tk 2 (.agg #[.int .i64 0, .string t, .int .i64 a', .int .u64 f', .string s', .int .i64 r0', .int .i64 r1', .int .i64 r2', .int .i64 r3', .slice pp' path'.length pc', .slice ip' items'.length ic']) rfl (.inl ⟨by rfl, ?r⟩) hS ?_
 case r => intro W hW; simp [go_sem, execOp, Act.eval, hW.2]
 simp only [sa, sb, sc, Act.put, sd, se, sf]
 refine one 1 rfl (fun K hK => ?_)
 simp only [sa, sb, sc]
 go_simp
 refine (HTA.out _).mono ?_
 rintro e w5 ⟨rfl, b5⟩
 have hb5 : Below W2.heap.size W2 w5 := hB4.trans (b5.mono hB4.size)
 go_simp
 refine hK _ _ ⟨(HK.out _ hb5).2, ?_⟩
 clear hK K
 refine one 3 rfl (fun K hK => ?_)
 simp only [sa, sb, sc]
 go_simp
 refine (HTB.out _).mono ?_
 rintro e w6 ⟨rfl, b6⟩
 have hb6 : Below W2.heap.size W2 w6 := hb5.trans (b6.mono hb5.size)
 go_simp
 refine hK _ _ ⟨(HK.out _ hb6).2, ?_⟩
 clear hK K
 clear hS
 have hS := (HK.out _ hb6).2
 refine tk 4 (.bool false) rfl (.inl ⟨by rfl, ?r⟩) hS ?_
 case r => intro W hW; simp [go_sem, execOp, Act.eval, HQ]
 simp only [sa, sb, sc, Act.put, sd, se, sf]
 refine dn ?_
 try simp only [Act.put]
 have hc6 := (HK.out _ hb6).2.1
 have hd6 := (HK.out _ hb6).2.2
 have HB6 : Hid (Below W2.heap.size W2 w6) := hb6
 have hz6 := hb6.size
 clear hb6 b6 hb5 b5 hB4 hS HQ HTA HTB
 have hb0 : w6.cell? ⟨w.heap.size, 0, none⟩ = some (.int .i64 0) := hc6 0
 go_wp2_with (go_at_call 162; refine (behind_0 _ _ hb0 (by omega)).mono ?_; rintro r w7 ⟨rfl, b7⟩; have HB7 : Hid (Below W2.heap.size W2 w7) := HB6.out.trans (b7.mono HB6.out.size); clear b7)
 clear hc6 hd6 hb0
 refine wp_region_noPanic ?_
 refine wp_region_held (S := fun W => (∀ i, W.cell? ⟨w.heap.size, i, none⟩ = (#[.int .i64 0, .string t, .int .i64 a, .int .u64 f, .string s, .int .i64 r0, .int .i64 r1, .int .i64 r2, .int .i64 r3, .slice pp path.length pc, .slice ip items.length ic] : Array Value)[i]?) ∧ (∀ i, W.cell? ⟨w.heap.size + 1, i, none⟩ = (#[.int .i64 0, .string t, .int .i64 a', .int .u64 f', .string s', .int .i64 r0', .int .i64 r1', .int .i64 r2', .int .i64 r3', .slice pp' path'.length pc', .slice ip' items'.length ic'] : Array Value)[i]?)) (by kernel_rfl) ?_
 obtain ⟨W8, hW8⟩ : ∃ W8, W8 = w7.drew := ⟨_, rfl⟩
 have e8 : ({ w7 with drawn := w7.drawn + 1 } : World) = W8 := hW8.symm
 rw [e8]
 have hB8 : Below W2.heap.size W2 W8 := by rw [hW8]; exact HB7.out.drew
 have hS := (HK.out W8 hB8).2
 clear e8 hW8
 refine tk 0 (.agg #[.int .i64 0, .string t, .int .i64 a, .int .u64 f, .string s, .int .i64 r0, .int .i64 r1, .int .i64 r2, .int .i64 r3, .slice pp path.length pc, .slice ip items.length ic]) rfl (.inl ⟨by rfl, ?r⟩) hS ?_
 case r => intro W hW; simp [go_sem, execOp, Act.eval, hW.1]
 simp only [sa, sb, Act.put, sd, se, sf]
 refine tk 2 (.agg #[.int .i64 0, .string t, .int .i64 a', .int .u64 f', .string s', .int .i64 r0', .int .i64 r1', .int .i64 r2', .int .i64 r3', .slice pp' path'.length pc', .slice ip' items'.length ic']) rfl (.inl ⟨by rfl, ?r⟩) hS ?_
 case r => intro W hW; simp [go_sem, execOp, Act.eval, hW.2]
 simp only [sa, sb, sc, Act.put, sd, se, sf]
 refine one 1 rfl (fun K hK => ?_)
 simp only [sa, sb, sc]
 go_simp
 refine (HCA.out _ (HK.out _ hB8).1).mono ?_
 rintro e w9 ⟨rfl, b9⟩
 have hb9 : Below W2.heap.size W2 w9 := hB8.trans (b9.mono hB8.size)
 go_simp
 refine hK _ _ ⟨(HK.out _ hb9).2, ?_⟩
 clear hK K
 refine one 3 rfl (fun K hK => ?_)
 simp only [sa, sb, sc]
 go_simp
 refine (HCB.out _ (HK.out _ hb9).1).mono ?_
 rintro e w10 ⟨rfl, b10⟩
 have hb10 : Below W2.heap.size W2 w10 := hb9.trans (b10.mono hb9.size)
 go_simp
 refine hK _ _ ⟨(HK.out _ hb10).2, ?_⟩
 clear hK K
 clear hS
 have hS := (HK.out _ hb10).2
 have HQ2 := HE.out
 refine tk 4 (.bool q) rfl (.inl ⟨by rfl, ?r⟩) hS ?_
 case r => intro W hW; simp [go_sem, execOp, Act.eval, HQ2]
 simp only [sa, sb, sc, Act.put, sd, se, sf]
 refine tq 5 (.bool q) rfl hS ?_
 simp only [sa, sb, sc, Act.put, sd, se, sf]
 refine tq 6 (.string ⟨#[]⟩) rfl hS ?_
 simp only [sa, sb, sc, Act.put, sd, se, sf]
 refine dn ?_
 try simp only [Act.put]
 go_wp2_with fail
 refine bodyPost_ret (v := .tuple #[.bool q, .string ⟨#[]⟩]) (by simp [results, Tryz.results120, go_sem]) rfl ⟨rfl, (HK.out _ hb10).1⟩
theorem eqk_2 (t : ByteArray) (a f : Int) (s : ByteArray) (r0 r1 r2 r3 : Int) (pp : Option Addr) (path : List Int) (pc : Nat) (ip : Option Addr) (items : List MD) (ic : Nat) (a' f' : Int) (s' : ByteArray) (r0' r1' r2' r3' : Int) (pp' : Option Addr) (path' : List Int) (pc' : Nat) (ip' : Option Addr) (items' : List MD) (ic' : Nat) (w : World)
  (hF : MD.Fine ⟨2, t, a, f, s, r0, r1, r2, r3, pp, path, pc⟩) (hF' : MD.Fine ⟨2, t, a', f', s', r0', r1', r2', r3', pp', path', pc'⟩) (hP : MD.PathIn w.heap.size w ⟨2, t, a, f, s, r0, r1, r2, r3, pp, path, pc⟩) (hP' : MD.PathIn w.heap.size w ⟨2, t, a', f', s', r0', r1', r2', r3', pp', path', pc'⟩)
  (hp : path.length ≤ 100) (hb : ∀ z ∈ path, 0 ≤ z ∧ z < 30) (hp' : path'.length ≤ 100) (hb' : ∀ z ∈ path', 0 ≤ z ∧ z < 30) :
  Calls Tryz.prog 120 #[.agg #[.int .i64 2, .string t, .int .i64 a, .int .u64 f, .string s, .int .i64 r0, .int .i64 r1, .int .i64 r2, .int .i64 r3, .slice pp path.length pc, .slice ip items.length ic], .agg #[.int .i64 2, .string t, .int .i64 a', .int .u64 f', .string s', .int .i64 r0', .int .i64 r1', .int .i64 r2', .int .i64 r3', .slice pp' path'.length pc', .slice ip' items'.length ic']] w fun r w' => r = .returned (.tuple #[.bool (decide (a = a' ∧ nz f = nz f' ∧ s = s' ∧ r0 = r0' ∧ path = path')), .string ⟨#[]⟩]) ∧ Below w.heap.size w w' := by
 have HQ : ∀ W, (binOp .neq 176 (.agg #[.int .i64 2, .string t]) (.agg #[.int .i64 2, .string t])).run Tryz.prog W = .ok (.bool false) W := fun W => by rw [typed_neq]; simp
 obtain ⟨q, hq⟩ : ∃ q, q = decide (a = a' ∧ nz f = nz f' ∧ s = s' ∧ r0 = r0' ∧ path = path') := ⟨_, rfl⟩
 have HE : Hid (∀ W, (binOp .eql 271 (.agg (coreF Tryz.zeroCells271 2 t a f s r0 path)) (.agg (coreF Tryz.zeroCells271 2 t a' f' s' r0' path'))).run Tryz.prog W = .ok (.bool q) W) := fun W => by
  have h := core_eql ⟨2, t, a, f, s, r0, r1, r2, r3, pp, path, pc⟩ ⟨2, t, a', f', s', r0', r1', r2', r3', pp', path', pc'⟩ hF hF' hp hb hp' hb' W
  rw [h, hq]; simp
 have HCA : Hid (∀ W, Below w.heap.size w W → Calls Tryz.prog 164 #[.agg #[.int .i64 2, .string t, .int .i64 a, .int .u64 f, .string s, .int .i64 r0, .int .i64 r1, .int .i64 r2, .int .i64 r3, .slice pp path.length pc, .slice ip items.length ic]] W fun r w' => r = .returned (.agg (coreF Tryz.zeroCells271 2 t a f s r0 path)) ∧ Below W.heap.size W w') := fun W hW => coreOf_any 2 t a f s r0 r1 r2 r3 pp path pc ip items.length ic W hp hb (hP.later (Nat.le_refl _) hW).2
 have HCB : Hid (∀ W, Below w.heap.size w W → Calls Tryz.prog 164 #[.agg #[.int .i64 2, .string t, .int .i64 a', .int .u64 f', .string s', .int .i64 r0', .int .i64 r1', .int .i64 r2', .int .i64 r3', .slice pp' path'.length pc', .slice ip' items'.length ic']] W fun r w' => r = .returned (.agg (coreF Tryz.zeroCells271 2 t a' f' s' r0' path')) ∧ Below W.heap.size W w') := fun W hW => coreOf_any 2 t a' f' s' r0' r1' r2' r3' pp' path' pc' ip' items'.length ic' W hp' hb' (hP'.later (Nat.le_refl _) hW).2
 rw [← hq]
 clear hq hF hF' hP hP' hp hb hp' hb'
 generalize coreF Tryz.zeroCells271 2 t a f s r0 path = ca at HE HCA
 generalize coreF Tryz.zeroCells271 2 t a' f' s' r0' path' = cb at HE HCB
 obtain ⟨W2, hW2⟩ : ∃ W2, W2 = (w.alloc (.cells #[.int .i64 2, .string t, .int .i64 a, .int .u64 f, .string s, .int .i64 r0, .int .i64 r1, .int .i64 r2, .int .i64 r3, .slice pp path.length pc, .slice ip items.length ic] 32)).alloc (.cells #[.int .i64 2, .string t, .int .i64 a', .int .u64 f', .string s', .int .i64 r0', .int .i64 r1', .int .i64 r2', .int .i64 r3', .slice pp' path'.length pc', .slice ip' items'.length ic'] 32) := ⟨_, rfl⟩
 have HK : Hid (∀ W, Below W2.heap.size W2 W → Below w.heap.size w W ∧ (∀ i, W.cell? ⟨w.heap.size, i, none⟩ = (#[.int .i64 2, .string t, .int .i64 a, .int .u64 f, .string s, .int .i64 r0, .int .i64 r1, .int .i64 r2, .int .i64 r3, .slice pp path.length pc, .slice ip items.length ic] : Array Value)[i]?) ∧ (∀ i, W.cell? ⟨w.heap.size + 1, i, none⟩ = (#[.int .i64 2, .string t, .int .i64 a', .int .u64 f', .string s', .int .i64 r0', .int .i64 r1', .int .i64 r2', .int .i64 r3', .slice pp' path'.length pc', .slice ip' items'.length ic'] : Array Value)[i]?)) := fun W hW => by rw [hW2] at hW; exact kept2 hW
 have hz2 : W2.heap.size = w.heap.size + 2 := by rw [hW2]; simp
 have HTA : Hid (∀ W, Calls Tryz.prog 141 #[.agg #[.int .i64 2, .string t, .int .i64 a, .int .u64 f, .string s, .int .i64 r0, .int .i64 r1, .int .i64 r2, .int .i64 r3, .slice pp path.length pc, .slice ip items.length ic]] W fun r w' => r = .returned (.agg #[.int .i64 2, .string t]) ∧ Below W.heap.size W w') := fun W => typeOf_any _ _ _ _ _ _ _ _ _ _ _ W
 have HTB : Hid (∀ W, Calls Tryz.prog 141 #[.agg #[.int .i64 2, .string t, .int .i64 a', .int .u64 f', .string s', .int .i64 r0', .int .i64 r1', .int .i64 r2', .int .i64 r3', .slice pp' path'.length pc', .slice ip' items'.length ic']] W fun r w' => r = .returned (.agg #[.int .i64 2, .string t]) ∧ Below W.heap.size W w') := fun W => typeOf_any _ _ _ _ _ _ _ _ _ _ _ W
 go_enter Tryz.func120, Tryz.ntmps120
 go_wp2_with fail
 rw [← hW2]
 clear hW2
 refine wp_region_noPanic ?_
 refine wp_region_held (S := fun W => (∀ i, W.cell? ⟨w.heap.size, i, none⟩ = (#[.int .i64 2, .string t, .int .i64 a, .int .u64 f, .string s, .int .i64 r0, .int .i64 r1, .int .i64 r2, .int .i64 r3, .slice pp path.length pc, .slice ip items.length ic] : Array Value)[i]?) ∧ (∀ i, W.cell? ⟨w.heap.size + 1, i, none⟩ = (#[.int .i64 2, .string t, .int .i64 a', .int .u64 f', .string s', .int .i64 r0', .int .i64 r1', .int .i64 r2', .int .i64 r3', .slice pp' path'.length pc', .slice ip' items'.length ic'] : Array Value)[i]?)) (by kernel_rfl) ?_
 obtain ⟨W4, hW4⟩ : ∃ W4, W4 = W2.drew := ⟨_, rfl⟩
 have e4 : ({ W2 with drawn := W2.drawn + 1 } : World) = W4 := hW4.symm
 rw [e4]
 have hB4 : Below W2.heap.size W2 W4 := by rw [hW4]; exact (Below.refl _ _).drew
 have hS := (HK.out W4 hB4).2
 clear e4 hW4
 refine tk 0 (.agg #[.int .i64 2, .string t, .int .i64 a, .int .u64 f, .string s, .int .i64 r0, .int .i64 r1, .int .i64 r2, .int .i64 r3, .slice pp path.length pc, .slice ip items.length ic]) rfl (.inl ⟨by rfl, ?r⟩) hS ?_
 case r => intro W hW; simp [go_sem, execOp, Act.eval, hW.1]
 simp only [sa, sb, Act.put, sd, se, sf]
 refine tk 2 (.agg #[.int .i64 2, .string t, .int .i64 a', .int .u64 f', .string s', .int .i64 r0', .int .i64 r1', .int .i64 r2', .int .i64 r3', .slice pp' path'.length pc', .slice ip' items'.length ic']) rfl (.inl ⟨by rfl, ?r⟩) hS ?_
 case r => intro W hW; simp [go_sem, execOp, Act.eval, hW.2]
 simp only [sa, sb, sc, Act.put, sd, se, sf]
 refine one 1 rfl (fun K hK => ?_)
 simp only [sa, sb, sc]
 go_simp
 refine (HTA.out _).mono ?_
 rintro e w5 ⟨rfl, b5⟩
 have hb5 : Below W2.heap.size W2 w5 := hB4.trans (b5.mono hB4.size)
 go_simp
 refine hK _ _ ⟨(HK.out _ hb5).2, ?_⟩
 clear hK K
 refine one 3 rfl (fun K hK => ?_)
 simp only [sa, sb, sc]
 go_simp
 refine (HTB.out _).mono ?_
 rintro e w6 ⟨rfl, b6⟩
 have hb6 : Below W2.heap.size W2 w6 := hb5.trans (b6.mono hb5.size)
 go_simp
 refine hK _ _ ⟨(HK.out _ hb6).2, ?_⟩
 clear hK K
 clear hS
 have hS := (HK.out _ hb6).2
 refine tk 4 (.bool false) rfl (.inl ⟨by rfl, ?r⟩) hS ?_
 case r => intro W hW; simp [go_sem, execOp, Act.eval, HQ]
 simp only [sa, sb, sc, Act.put, sd, se, sf]
 refine dn ?_
 try simp only [Act.put]
 have hc6 := (HK.out _ hb6).2.1
 have hd6 := (HK.out _ hb6).2.2
 have HB6 : Hid (Below W2.heap.size W2 w6) := hb6
 have hz6 := hb6.size
 clear hb6 b6 hb5 b5 hB4 hS HQ HTA HTB
 have hb0 : w6.cell? ⟨w.heap.size, 0, none⟩ = some (.int .i64 2) := hc6 0
 go_wp2_with (go_at_call 162; refine (behind_2 _ _ hb0 (by omega)).mono ?_; rintro r w7 ⟨rfl, b7⟩; have HB7 : Hid (Below W2.heap.size W2 w7) := HB6.out.trans (b7.mono HB6.out.size); clear b7)
 clear hc6 hd6 hb0
 refine wp_region_noPanic ?_
 refine wp_region_held (S := fun W => (∀ i, W.cell? ⟨w.heap.size, i, none⟩ = (#[.int .i64 2, .string t, .int .i64 a, .int .u64 f, .string s, .int .i64 r0, .int .i64 r1, .int .i64 r2, .int .i64 r3, .slice pp path.length pc, .slice ip items.length ic] : Array Value)[i]?) ∧ (∀ i, W.cell? ⟨w.heap.size + 1, i, none⟩ = (#[.int .i64 2, .string t, .int .i64 a', .int .u64 f', .string s', .int .i64 r0', .int .i64 r1', .int .i64 r2', .int .i64 r3', .slice pp' path'.length pc', .slice ip' items'.length ic'] : Array Value)[i]?)) (by kernel_rfl) ?_
 obtain ⟨W8, hW8⟩ : ∃ W8, W8 = w7.drew := ⟨_, rfl⟩
 have e8 : ({ w7 with drawn := w7.drawn + 1 } : World) = W8 := hW8.symm
 rw [e8]
 have hB8 : Below W2.heap.size W2 W8 := by rw [hW8]; exact HB7.out.drew
 have hS := (HK.out W8 hB8).2
 clear e8 hW8
 refine tk 0 (.agg #[.int .i64 2, .string t, .int .i64 a, .int .u64 f, .string s, .int .i64 r0, .int .i64 r1, .int .i64 r2, .int .i64 r3, .slice pp path.length pc, .slice ip items.length ic]) rfl (.inl ⟨by rfl, ?r⟩) hS ?_
 case r => intro W hW; simp [go_sem, execOp, Act.eval, hW.1]
 simp only [sa, sb, Act.put, sd, se, sf]
 refine tk 2 (.agg #[.int .i64 2, .string t, .int .i64 a', .int .u64 f', .string s', .int .i64 r0', .int .i64 r1', .int .i64 r2', .int .i64 r3', .slice pp' path'.length pc', .slice ip' items'.length ic']) rfl (.inl ⟨by rfl, ?r⟩) hS ?_
 case r => intro W hW; simp [go_sem, execOp, Act.eval, hW.2]
 simp only [sa, sb, sc, Act.put, sd, se, sf]
 refine one 1 rfl (fun K hK => ?_)
 simp only [sa, sb, sc]
 go_simp
 refine (HCA.out _ (HK.out _ hB8).1).mono ?_
 rintro e w9 ⟨rfl, b9⟩
 have hb9 : Below W2.heap.size W2 w9 := hB8.trans (b9.mono hB8.size)
 go_simp
 refine hK _ _ ⟨(HK.out _ hb9).2, ?_⟩
 clear hK K
 refine one 3 rfl (fun K hK => ?_)
 simp only [sa, sb, sc]
 go_simp
 refine (HCB.out _ (HK.out _ hb9).1).mono ?_
 rintro e w10 ⟨rfl, b10⟩
 have hb10 : Below W2.heap.size W2 w10 := hb9.trans (b10.mono hb9.size)
 go_simp
 refine hK _ _ ⟨(HK.out _ hb10).2, ?_⟩
 clear hK K
 clear hS
 have hS := (HK.out _ hb10).2
 have HQ2 := HE.out
 refine tk 4 (.bool q) rfl (.inl ⟨by rfl, ?r⟩) hS ?_
 case r => intro W hW; simp [go_sem, execOp, Act.eval, HQ2]
 simp only [sa, sb, sc, Act.put, sd, se, sf]
 refine tq 5 (.bool q) rfl hS ?_
 simp only [sa, sb, sc, Act.put, sd, se, sf]
 refine tq 6 (.string ⟨#[]⟩) rfl hS ?_
 simp only [sa, sb, sc, Act.put, sd, se, sf]
 refine dn ?_
 try simp only [Act.put]
 go_wp2_with fail
 refine bodyPost_ret (v := .tuple #[.bool q, .string ⟨#[]⟩]) (by simp [results, Tryz.results120, go_sem]) rfl ⟨rfl, (HK.out _ hb10).1⟩
end Go.Proofs.YtdbijkgnddcneaaGreatDoor
namespace Go.Proofs.YtdbijkgnddcneaaGreatDoor
open Go.RowKit
attribute [local go_sem] refold2 cell3_0 cell3_1 b28_0 b28_01 x56 ta3r ta3f ta8r
theorem tyB_out {k : Int} {t : ByteArray} (hk : k < 0 ∨ 9 < k) (h : tyB k t = true) : False := by
  have := tyB_range h; omega
def allEq (p : MD → MD → Bool × ByteArray) : List MD → List MD → Bool × ByteArray
  | [], _ => (true, ⟨#[]⟩)
  | _ :: _, [] => (true, ⟨#[]⟩)
  | x :: xs, y :: ys => if (p x y).1 = true then allEq p xs ys else (false, (p x y).2)
def feq (f g : Int) : Bool := FloatKind.f64.format.order f.toNat g.toNat == some .eq
def MD.eqv : Nat → MD → MD → Bool × ByteArray
  | 0, _, _ => (false, ⟨#[]⟩)
  | n + 1, a, b => if a.h.k = b.h.k ∧ a.h.t = b.h.t then
      (if a.h.k = 8 then (if a.items.length = b.items.length then allEq (MD.eqv n) a.items b.items else (false, ⟨#[]⟩))
       else if a.h.k = 3 then (feq a.h.f b.h.f, ⟨#[]⟩)
       else if a.h.k = 5 ∨ a.h.k = 6 ∨ a.h.k = 7 then (false, a.h.t)
       else (decide (a.h.n = b.h.n ∧ nz a.h.f = nz b.h.f ∧ a.h.s = b.h.s ∧ a.h.r0 = b.h.r0 ∧ a.h.path = b.h.path), ⟨#[]⟩))
      else (false, ⟨#[]⟩)
theorem head_path {h : Hd} {il : Nat} (hh : headOK h il = true) : h.path.length ≤ 100 ∧ ∀ z ∈ h.path, 0 ≤ z ∧ z < 30 := by
  unfold headOK at hh
  rw [Bool.and_eq_true, Bool.and_eq_true] at hh
  obtain ⟨⟨_, h2⟩, h3⟩ := hh
  by_cases h9 : h.k = 9
  · unfold kindB at h3
    rw [if_neg (by omega), if_neg (by omega), if_neg (by omega), if_neg (by omega), if_neg (by omega), if_neg (by omega), if_pos h9, targetB_eq] at h3
    simp only [Bool.and_eq_true, decide_eq_true_eq, List.all_eq_true] at h3
    exact ⟨h3.1.1.2, fun z hz => by have := h3.2 z hz; simp only [stepB, Bool.and_eq_true, decide_eq_true_eq] at this; exact this⟩
  · unfold zeroK at h2
    simp only [Bool.and_eq_true, Bool.or_eq_true, beq_iff_eq] at h2
    have h4 : h.path = [] := by
      rcases h2.1.2 with e | e
      · exact absurd e h9
      · exact List.eq_nil_of_length_eq_zero (by exact_mod_cast e)
    rw [h4]; exact ⟨by simp, fun z hz => by cases hz⟩
theorem size_of_list {t : ByteArray} {l : List UInt8} (h : t.toList = l) : t.size = l.length := by
  rw [Lib.size_eq, ← h, Lib.toList_data]
theorem ty_small {k : Int} {t : ByteArray} (h : tyB k t = true) : t.size ≤ 40 := by
  have hd : declB t = true → t.size ≤ 40 := fun h => by
    unfold declB at h
    simp only [Bool.and_eq_true, decide_eq_true_eq] at h
    exact h.1.1.2
  rcases kinds k with rfl | rfl | rfl | rfl | rfl | rfl | rfl | rfl | rfl | rfl | hk
  · have e : (t.toList == []) = true := h
    have := size_of_list (beq_iff_eq.1 e); rw [this]; decide
  iterate 7 (
    rcases (Bool.or_eq_true _ _).mp (show (_ || declB t) = true from h) with e | e
    · have := size_of_list (beq_iff_eq.1 e); rw [this]; decide
    · exact hd e)
  · exact hd h
  · exact hd h
  · have := tyB_out hk h; cases this
def EqP (n : Nat) (x y : MD) : Prop := ∀ w : World, MD.In w.heap.size w n x → MD.In w.heap.size w n y → MD.full n x = true → MD.full n y = true → Calls Tryz.prog 120 #[x.val, y.val] w fun r w' => r = .returned (.tuple #[.bool (MD.eqv n x y).1, .string (MD.eqv n x y).2]) ∧ Below w.heap.size w w'
theorem eqv_two (n : Nat) (x y : MD) (h2 : x.h.k = 2) : EqP (n + 1) x y := by
  intro w hx hy fx fy
  by_cases hty : x.h.k = y.h.k ∧ x.h.t = y.h.t
  · have hF := hx.fine
    have hF' := hy.fine
    have hP := hx.path
    have hP' := hy.path
    obtain ⟨⟨k, t, a, f, s, r0, r1, r2, r3, pp, path, pc⟩, ip, ic, items⟩ := x
    obtain ⟨⟨k', t', a', f', s', r0', r1', r2', r3', pp', path', pc'⟩, ip', ic', items'⟩ := y
    obtain ⟨rfl, rfl⟩ : k = k' ∧ t = t' := hty
    have fx2 : (headOK ⟨k, t, a, f, s, r0, r1, r2, r3, pp, path, pc⟩ items.length && (k != 8 || (decide (items.length ≤ 30) && items.all (MD.full n)))) = true := fx
    have fy2 : (headOK ⟨k, t, a', f', s', r0', r1', r2', r3', pp', path', pc'⟩ items'.length && (k != 8 || (decide (items'.length ≤ 30) && items'.all (MD.full n)))) = true := fy
    rw [Bool.and_eq_true] at fx2 fy2
    obtain ⟨hp, hb⟩ := head_path fx2.1
    obtain ⟨hp', hb'⟩ := head_path fy2.1
    simp only [MD.eqv, MD.val, D]
    rw [if_pos ⟨trivial, trivial⟩]
    obtain rfl : k = 2 := h2
    rw [if_neg (by decide), if_neg (by decide), if_neg (by decide)]
    exact eqk_2 t a f s r0 r1 r2 r3 pp path pc ip items ic a' f' s' r0' r1' r2' r3' pp' path' pc' ip' items' ic' w hF hF' hP hP' hp hb hp' hb'
  · have e : MD.eqv (n + 1) x y = (false, ⟨#[]⟩) := by simp only [MD.eqv]; rw [if_neg hty]
    rw [e]
    exact equal_unlike x y w hty
end Go.Proofs.YtdbijkgnddcneaaGreatDoor
namespace Go.Proofs.YtdbijkgnddcneaaGreatDoor
section
open Ieee
def eB (b : Nat) : Nat := if b < 4503599627370496 then 0 else b / 4503599627370496 - 1
def mB (b : Nat) : Nat := if b < 4503599627370496 then b else 4503599627370496 + b % 4503599627370496
theorem mB_lt (b : Nat) : mB b < 9007199254740992 := by unfold mB; split <;> omega
theorem mB_ge (b : Nat) (h : 1 ≤ eB b) : 4503599627370496 ≤ mB b := by 
 unfold eB at h; unfold mB
 by_cases hb : b < 4503599627370496
 ·rw [if_pos hb] at h; omega
 ·rw [if_neg hb]; omega
theorem me_inj (b c : Nat) (h1 : mB b = mB c) (h2 : eB b = eB c) : b = c := by
 unfold mB at h1; unfold eB at h2
 by_cases hb : b < 4503599627370496 <;> by_cases hc : c < 4503599627370496 <;> simp only [hb, hc, if_true, if_false] at h1 h2 <;> omega
theorem me_step (b c d : Nat) (he : eB c = eB b + d) (h : mB b = mB c * 2 ^ d) : b = c := by
 cases d with
 | zero => exact me_inj b c (by simpa using h) (by omega)
 | succ d =>
  have h1 := mB_ge c (by omega)
  have h2 := mB_lt b
  have h3 : 1 ≤ 2 ^ d := Nat.one_le_two_pow
  have h4 : mB c * 2 ^ (d + 1) = mB c * 2 ^ d * 2 := by rw [Nat.pow_succ, Nat.mul_assoc]
  have h5 : mB c * 1 ≤ mB c * 2 ^ d := Nat.mul_le_mul_left _ h3
  omega
theorem me_eq (b c : Nat) : mB b * 2 ^ ((-1074 + (eB b : Int)) - min (-1074 + (eB b : Int)) (-1074 + (eB c : Int))).toNat = mB c * 2 ^ ((-1074 + (eB c : Int)) - min (-1074 + (eB b : Int)) (-1074 + (eB c : Int))).toNat ↔ b = c := by
 constructor
 ·intro h
  rcases Nat.le_total (eB b) (eB c) with hl | hl
  ·rw [show ((-1074 + (eB b : Int)) - min (-1074 + (eB b : Int)) (-1074 + (eB c : Int))).toNat = 0 by omega, show ((-1074 + (eB c : Int)) - min (-1074 + (eB b : Int)) (-1074 + (eB c : Int))).toNat = eB c - eB b by omega, Nat.pow_zero, Nat.mul_one] at h
   exact me_step b c _ (by omega) h
  ·rw [show ((-1074 + (eB c : Int)) - min (-1074 + (eB b : Int)) (-1074 + (eB c : Int))).toNat = 0 by omega, show ((-1074 + (eB b : Int)) - min (-1074 + (eB b : Int)) (-1074 + (eB c : Int))).toNat = eB b - eB c by omega, Nat.pow_zero, Nat.mul_one] at h
   exact (me_step c b _ (by omega) h.symm).symm
 ·rintro rfl; rfl
theorem read_fin (x : Nat) (h : x % 9223372036854775808 < 9218868437227405312) : double.read x = .number (x / 9223372036854775808 % 2 == 1) (mB (x % 9223372036854775808)) (-1074 + (eB (x % 9223372036854775808) : Int)) := by
 rw [read_double]; unfold mB eB
 by_cases hb : x % 9223372036854775808 < 4503599627370496
 ·simp only [hb, if_true]; rfl
 ·simp only [hb, if_false, h, if_true]
theorem signed_eq (s t : Bool) (A B i j : Nat) : signed s A i = signed t B j ↔ A * 2 ^ i = B * 2 ^ j ∧ (s = t ∨ A * 2 ^ i = 0) := by
 have e : ∀ (s : Bool) (A i : Nat), signed s A i = (if s then -((A * 2 ^ i : Nat) : Int) else ((A * 2 ^ i : Nat) : Int)) := fun s A i => by unfold signed; rw [Nat.shiftLeft_eq]
 rw [e, e]
 generalize A * 2 ^ i = a
 generalize B * 2 ^ j = b
 cases s <;> cases t <;> simp only [if_true, if_false, Bool.false_eq_true] <;> simp <;> omega
theorem cmp_int (a b : Int) : compare a b = .eq ↔ a = b := by
 simp only [compare, compareOfLessAndEq]
 by_cases h1 : a < b
 ·simp [h1]; omega
 ·by_cases h2 : a = b
  ·simp [h2]
  ·simp [h1, h2]
def rk (x : Nat) : Int := if x < 9223372036854775808 then x else 9223372036854775808 - x
theorem rk_eq (x y : Nat) (hx : x < 18446744073709551616) (hy : y < 18446744073709551616) : rk x = rk y ↔ x % 9223372036854775808 = y % 9223372036854775808 ∧ ((x / 9223372036854775808 % 2 == 1) = (y / 9223372036854775808 % 2 == 1) ∨ x % 9223372036854775808 = 0) := by
 have e : ∀ z : Nat, z < 18446744073709551616 → (z / 9223372036854775808 % 2 == 1) = decide (9223372036854775808 ≤ z) := fun z hz => by
  rw [Bool.eq_iff_iff]; simp; omega
 rw [e x hx, e y hy, decide_eq_decide]
 unfold rk
 by_cases h1 : x < 9223372036854775808 <;> by_cases h2 : y < 9223372036854775808 <;> simp only [h1, h2, if_true, if_false] <;> omega
theorem order_eq (x y : Nat) (hx : x < 18446744073709551616) (hy : y < 18446744073709551616) (nx : isNan x = false) (ny : isNan y = false) : double.order x y = some .eq ↔ rk x = rk y := by
 rw [rk_eq x y hx hy]
 unfold isNan at nx ny
 have nx' := of_decide_eq_false nx
 have ny' := of_decide_eq_false ny
 unfold Format.order
 by_cases h1 : x % 9223372036854775808 < 9218868437227405312
 ·rw [read_fin x h1]
  by_cases h2 : y % 9223372036854775808 < 9218868437227405312
  ·rw [read_fin y h2]
   simp only [Datum.order, Option.some.injEq]
   rw [cmp_int, signed_eq, me_eq]
   constructor
   ·rintro ⟨e, q⟩
    refine ⟨e, q.imp id fun z => ?_⟩
    rcases Nat.mul_eq_zero.1 z with z | z
    ·unfold mB at z; split at z <;> omega
    ·exact absurd z (Nat.ne_of_gt (Nat.two_pow_pos _))
   ·rintro ⟨e, q⟩
    refine ⟨e, q.imp id fun z => ?_⟩
    rw [z]; simp [mB]
  ·rw [read_double y, if_neg (by omega), if_neg h2, if_pos (by omega)]
   simp only [Datum.order]
   constructor
   ·intro h; split at h <;> cases h
   ·rintro ⟨e, _⟩; omega
 ·rw [read_double x, if_neg (by omega), if_neg h1, if_pos (by omega)]
  by_cases h2 : y % 9223372036854775808 < 9218868437227405312
  ·rw [read_fin y h2]
   simp only [Datum.order]
   constructor
   ·intro h; split at h <;> cases h
   ·rintro ⟨e, _⟩; omega
  ·rw [read_double y, if_neg (by omega), if_neg h2, if_pos (by omega)]
   generalize (x / 9223372036854775808 % 2 == 1) = s
   generalize (y / 9223372036854775808 % 2 == 1) = t
   simp only [Datum.order, Option.some.injEq]
   constructor
   ·intro h; refine ⟨by omega, .inl ?_⟩; revert h; cases s <;> cases t <;> decide
   ·rintro ⟨e, h⟩
    rcases h with rfl | h
    ·cases s <;> decide
    ·omega
end
def rnk (f : Int) : Int := if f < 9223372036854775808 then f else 9223372036854775808 - f
theorem feq_rank (f g : Int) (f0 : 0 ≤ f) (f1 : f ≤ 18446744073709551615) (g0 : 0 ≤ g) (g1 : g ≤ 18446744073709551615) : feq f g = (!isNan f.toNat && !isNan g.toNat && decide (rnk f = rnk g)) := by
 have e : ∀ z : Int, 0 ≤ z → rnk z = rk z.toNat := fun z hz => by unfold rnk rk; split <;> split <;> omega
 rw [e f f0, e g g0]
 show (Ieee.double.order f.toNat g.toNat == some .eq) = _
 by_cases nx : isNan f.toNat = true
 ·rw [(order_none f.toNat g.toNat).2 (.inl nx), nx]; rfl
 ·by_cases ny : isNan g.toNat = true
  ·rw [(order_none f.toNat g.toNat).2 (.inr ny), ny]; simp
  ·have h := order_eq f.toNat g.toNat (by omega) (by omega) (by simpa using nx) (by simpa using ny)
   rw [Bool.not_eq_true] at nx ny
   rw [nx, ny, Bool.eq_iff_iff]
   simp [h]
end Go.Proofs.YtdbijkgnddcneaaGreatDoor
