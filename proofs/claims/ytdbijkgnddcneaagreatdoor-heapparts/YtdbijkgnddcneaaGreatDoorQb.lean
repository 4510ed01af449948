/-
  .
-/
import Derived.Test.YtdbijkgnddcneaaGreatDoorQaJ
import Derived.DeepKeys
import Derived.Test.YtdbijkgnddcneaaGreatDoorMaJ
namespace Go.Proofs.YtdbijkgnddcneaaGreatDoor
open Go.RowKit
set_option maxRecDepth 100000
theorem mapM_some {α β : Type} {f : α → Option β} {h : α → β} : ∀ (l : List α), (∀ x ∈ l, f x = some (h x)) → l.mapM f = some (l.map h)
 | [], _ => rfl
 | x :: l, hl => by
  rw [List.mapM_cons, hl x (by simp), mapM_some l (fun y hy => hl y (by simp [hy]))]; rfl
def pathV (path : List Int) : List Value := (List.range 100).map fun i => Value.int .u8 (path[i]?.getD 0)
def pathL (path : List Int) : List Lit := (List.range 100).map fun i => Lit.int .u8 (path[i]?.getD 0)
def coreL (k : Int) (t : ByteArray) (a f : Int) (s : ByteArray) (o : Int) (path : List Int) : List Value := [.int .i64 k, .string t, .int .i64 a, .int .u64 f, .string s, .int .i64 o, .int .i64 path.length] ++ pathV path
def litL (k : Int) (t : ByteArray) (a f : Int) (s : ByteArray) (o : Int) (path : List Int) : List Lit := [.int .i64 k, .string t.data.toList, .int .i64 a, .int .u64 f, .string s.data.toList, .int .i64 o, .int .i64 path.length] ++ pathL path
theorem zeros_tail : ∀ q, q < 100 → Tryz.zeroCells271[7 + q]? = some (.int .u8 0) := by
 have h : Tryz.zeroCells271.toList.drop 7 = List.replicate 100 (Value.int .u8 0) := by kernel_rfl
 intro q hq
 have := congrArg (fun l => l[q]?) h
 simp only [List.getElem?_drop, List.getElem?_replicate, if_pos hq] at this
 rw [← Array.getElem?_toList]; exact this
theorem coreJ_get (path : List Int) (c : Array Value) (hc : c.size = 107) : ∀ (j : Nat), j ≤ 100 → ∀ i, (coreJ path c j)[i]? = if 7 ≤ i ∧ i < 7 + j then some (.int .u8 (path[i - 7]?.getD 0)) else c[i]?
 | 0, _, i => by rw [if_neg (by omega)]; rfl
 | j + 1, hj, i => by
  show ((coreJ path c j).setIfInBounds (7 + j) _)[i]? = _
  rw [Array.getElem?_setIfInBounds, coreJ_size, coreJ_get path c hc j (by omega) i]
  by_cases h1 : 7 + j = i
  ·subst h1
   rw [if_pos rfl, if_pos (by omega), if_pos (by omega), show 7 + j - 7 = j by omega]
  ·rw [if_neg h1]
   by_cases h2 : 7 ≤ i ∧ i < 7 + j
   ·rw [if_pos h2, if_pos (by omega)]
   ·rw [if_neg h2, if_neg (by omega)]
theorem coreA_get (k : Int) (t : ByteArray) (a f : Int) (s : ByteArray) (o m : Int) : (coreA Tryz.zeroCells271 k t a f s o m)[0]? = some (.int .i64 k) ∧ (coreA Tryz.zeroCells271 k t a f s o m)[1]? = some (.string t) ∧ (coreA Tryz.zeroCells271 k t a f s o m)[2]? = some (.int .i64 a) ∧ (coreA Tryz.zeroCells271 k t a f s o m)[3]? = some (.int .u64 f) ∧ (coreA Tryz.zeroCells271 k t a f s o m)[4]? = some (.string s) ∧ (coreA Tryz.zeroCells271 k t a f s o m)[5]? = some (.int .i64 o) ∧ (coreA Tryz.zeroCells271 k t a f s o m)[6]? = some (.int .i64 m) :=
 ⟨by kernel_rfl, by kernel_rfl, by kernel_rfl, by kernel_rfl, by kernel_rfl, by kernel_rfl, by kernel_rfl⟩
theorem coreA_tail (k : Int) (t : ByteArray) (a f : Int) (s : ByteArray) (o m : Int) (i : Nat) (hi : 7 ≤ i) : (coreA Tryz.zeroCells271 k t a f s o m)[i]? = Tryz.zeroCells271[i]? := by
 unfold coreA
 rw [Array.getElem?_setIfInBounds_ne (by omega), Array.getElem?_setIfInBounds_ne (by omega), Array.getElem?_setIfInBounds_ne (by omega), Array.getElem?_setIfInBounds_ne (by omega), Array.getElem?_setIfInBounds_ne (by omega), Array.getElem?_setIfInBounds_ne (by omega), Array.getElem?_setIfInBounds_ne (by omega)]
theorem coreF_list (k : Int) (t : ByteArray) (a f : Int) (s : ByteArray) (o : Int) (path : List Int) (hp : path.length ≤ 100) : (coreF Tryz.zeroCells271 k t a f s o path).toList = coreL k t a (nz f) s o path := by
 apply List.ext_getElem?
 intro i
 rw [Array.getElem?_toList]
 unfold coreF
 rw [coreJ_get _ _ (coreA_size _ _ _ _ _ _ _) _ hp]
 obtain ⟨g0, g1, g2, g3, g4, g5, g6⟩ := coreA_get k t a (nz f) s o path.length
 unfold coreL
 match i with
 | 0 => rw [if_neg (by omega), g0]; rfl
 | 1 => rw [if_neg (by omega), g1]; rfl
 | 2 => rw [if_neg (by omega), g2]; rfl
 | 3 => rw [if_neg (by omega), g3]; rfl
 | 4 => rw [if_neg (by omega), g4]; rfl
 | 5 => rw [if_neg (by omega), g5]; rfl
 | 6 => rw [if_neg (by omega), g6]; rfl
 | q + 7 =>
  rw [List.getElem?_append_right (by simp)]
  simp only [List.length_cons, List.length_nil]
  have e : q + 7 - (0 + 1 + 1 + 1 + 1 + 1 + 1 + 1) = q := by omega
  rw [e]
  unfold pathV
  rw [List.getElem?_map]
  by_cases hq : q < 100
  ·rw [List.getElem?_range hq]
   by_cases hl : q < path.length
   ·rw [if_pos (by omega)]; rfl
   ·rw [if_neg (by omega), coreA_tail _ _ _ _ _ _ _ _ (by omega), show q + 7 = 7 + q by omega, zeros_tail q hq]
    simp only [Option.map_some]
    rw [List.getElem?_eq_none (by omega)]; rfl
  ·rw [if_neg (by omega), Array.getElem?_eq_none (by rw [coreA_size]; omega), List.getElem?_eq_none (by simp; omega)]; rfl
theorem u107 : Tryz.prog.cellsOf 176 = 2 := by kernel_rfl
theorem c136 : Tryz.prog.cellsOf 269 = 100 := by kernel_rfl
theorem c138 : Tryz.prog.cellsOf 271 = 107 := by kernel_rfl
theorem c5 : Tryz.prog.cellsOf 5 = 1 := by kernel_rfl
theorem c22' : Tryz.prog.cellsOf 28 = 1 := by kernel_rfl
theorem c3' : Tryz.prog.cellsOf 3 = 1 := by kernel_rfl
theorem c9' : Tryz.prog.cellsOf 9 = 1 := by kernel_rfl
theorem flat_single {α β : Type} (l : List α) (h : α → β) : (l.map fun x => [h x]).flatten = l.map h := by
 induction l with
 | nil => rfl
 | cons x l ih => simp [ih]
theorem lits_path (D : Nat) (path : List Int) (hb : ∀ z ∈ path, 0 ≤ z ∧ z < 30) : Tryz.prog.keyLits (D + 2) 269 (pathV path) = some (pathL path) := by
 unfold Program.keyLits
 rw [Tryz.underlying269]
 simp only
 rw [if_pos (by rw [c136]; simp [pathV]), mapM_some (h := fun i => [Lit.int .u8 (path[i]?.getD 0)])]
 ·simp only [Option.map_some]
  rw [flat_single]; rfl
 ·intro i hi
  have hi' : i < 100 := List.mem_range.1 hi
  have e : ((pathV path).drop (i * Tryz.prog.cellsOf 5)).take (Tryz.prog.cellsOf 5) = [Value.int .u8 (path[i]?.getD 0)] := by
   rw [c5, Nat.mul_one]
   apply List.ext_getElem?
   intro q
   rw [List.getElem?_take, List.getElem?_drop]
   cases q with
   | zero => simp [pathV, hi']
   | succ q => simp
  rw [e]
  have hz : 0 ≤ path[i]?.getD 0 ∧ path[i]?.getD 0 < 256 := by
   by_cases h : i < path.length
   ·rw [List.getElem?_eq_getElem h]
    have := hb _ (List.getElem_mem h)
    exact ⟨this.1, by have := this.2; simp; omega⟩
   ·rw [List.getElem?_eq_none (by omega)]; exact ⟨by simp, by simp⟩
  unfold Program.keyLits
  rw [Tryz.underlying5]
  simp only
  have hw : (Lit.int .u8 (path[i]?.getD 0)).wf = true := by
   simp only [Lit.wf, show IntKind.u8.min = 0 by decide, show IntKind.u8.max = 255 by decide, Bool.and_eq_true, decide_eq_true_eq]
   omega
  rw [if_pos ⟨trivial, hw⟩]
theorem lit_i64 (D : Nat) (n : Int) (h0 : -9223372036854775808 ≤ n) (h1 : n ≤ 9223372036854775807) : Tryz.prog.keyLits (D + 1) 3 [.int .i64 n] = some [.int .i64 n] := by
 unfold Program.keyLits
 rw [Tryz.underlying3]
 simp only
 have hw : (Lit.int .i64 n).wf = true := by
  simp only [Lit.wf, show IntKind.i64.min = -9223372036854775808 by decide, show IntKind.i64.max = 9223372036854775807 by decide, Bool.and_eq_true, decide_eq_true_eq]
  omega
 rw [if_pos ⟨trivial, hw⟩]
theorem lit_u64 (D : Nat) (n : Int) (h0 : 0 ≤ n) (h1 : n ≤ 18446744073709551615) : Tryz.prog.keyLits (D + 1) 28 [.int .u64 n] = some [.int .u64 n] := by
 unfold Program.keyLits
 rw [Tryz.underlying28]
 simp only
 have hw : (Lit.int .u64 n).wf = true := by
  simp only [Lit.wf, show IntKind.u64.min = 0 by decide, show IntKind.u64.max = 18446744073709551615 by decide, Bool.and_eq_true, decide_eq_true_eq]
  omega
 rw [if_pos ⟨trivial, hw⟩]
theorem lit_str (D : Nat) (s : ByteArray) (h : s.size ≤ maxLen) : Tryz.prog.keyLits (D + 1) 9 [.string s] = some [.string s.data.toList] := by
 unfold Program.keyLits
 rw [Tryz.underlying9]
 simp only
 rw [if_pos h]
theorem lit_typed (D : Nat) (k : Int) (t : ByteArray) (h0 : -9223372036854775808 ≤ k) (h1 : k ≤ 9223372036854775807) (ht : t.size ≤ maxLen) : Tryz.prog.keyLits (D + 2) 176 [.int .i64 k, .string t] = some [.int .i64 k, .string t.data.toList] := by
 unfold Program.keyLits
 rw [Tryz.underlying176]
 simp only
 rw [if_pos ⟨by rw [u107]; rfl, by kernel_rfl⟩]
 simp [List.mapM_cons, c3', c9', lit_i64 D k h0 h1, lit_str D t ht]
theorem lits_core (D : Nat) (k : Int) (t : ByteArray) (a f : Int) (s : ByteArray) (o : Int) (path : List Int) (hk0 : -9223372036854775808 ≤ k) (hk1 : k ≤ 9223372036854775807) (ht : t.size ≤ maxLen) (ha0 : -9223372036854775808 ≤ a) (ha1 : a ≤ 9223372036854775807) (hf0 : 0 ≤ f) (hf1 : f ≤ 18446744073709551615) (hs : s.size ≤ maxLen) (ho0 : -9223372036854775808 ≤ o) (ho1 : o ≤ 9223372036854775807) (hp : path.length ≤ 100) (hb : ∀ z ∈ path, 0 ≤ z ∧ z < 30) :
  Tryz.prog.keyLits (D + 3) 271 (coreL k t a f s o path) = some (litL k t a f s o path) := by
 unfold Program.keyLits
 rw [Tryz.underlying271]
 simp only
 rw [if_pos ⟨by rw [c138]; simp [coreL, pathV], by kernel_rfl⟩]
 have hpv : List.take 100 (pathV path) = pathV path := List.take_of_length_le (by simp [pathV])
 simp [List.mapM_cons, coreL, u107, c3', c9', c22', c136, lit_typed D k t hk0 hk1 ht, lit_i64 (D + 1) a ha0 ha1, lit_u64 (D + 1) f hf0 hf1, lit_str (D + 1) s hs, lit_i64 (D + 1) o ho0 ho1, lit_i64 (D + 1) (path.length : Int) (by omega) (by omega), hpv, lits_path D path hb, litL]
theorem litL_iff (k : Int) (t : ByteArray) (a f : Int) (s : ByteArray) (o : Int) (path : List Int) (k' : Int) (t' : ByteArray) (a' f' : Int) (s' : ByteArray) (o' : Int) (path' : List Int) (hp : path.length ≤ 100) (hp' : path'.length ≤ 100) :
  litL k t a f s o path = litL k' t' a' f' s' o' path' ↔ (k = k' ∧ t = t' ∧ a = a' ∧ f = f' ∧ s = s' ∧ o = o' ∧ path = path') := by
 constructor
 ·intro h
  unfold litL at h
  simp only [List.cons_append, List.nil_append, List.cons.injEq, Lit.int.injEq, Lit.string.injEq, true_and] at h
  obtain ⟨h1, h2, h3, h4, h5, h6, h7, h8⟩ := h
  refine ⟨h1, ByteArray.ext (Array.toList_inj.1 h2), h3, h4, ByteArray.ext (Array.toList_inj.1 h5), h6, ?_⟩
  have hl : path.length = path'.length := by exact_mod_cast h7
  apply List.ext_getElem hl
  intro i hi hi'
  have h9 := congrArg (fun l => l[i]?) h8
  unfold pathL at h9
  have hi100 : i < 100 := by omega
  simp only [List.getElem?_map, List.getElem?_range hi100, Option.map_some, Option.some.injEq, Lit.int.injEq, true_and, List.getElem?_eq_getElem hi, List.getElem?_eq_getElem hi', Option.getD_some] at h9
  exact h9
 ·rintro ⟨rfl, rfl, rfl, rfl, rfl, rfl, rfl⟩; rfl
theorem nz_bounds {f : Int} (h0 : 0 ≤ f) (h1 : f ≤ 18446744073709551615) : 0 ≤ nz f ∧ nz f ≤ 18446744073709551615 := by
 unfold nz; split <;> omega
theorem core_eql (h h' : Hd) (hF : MD.Fine h) (hF' : MD.Fine h') (hp : h.path.length ≤ 100) (hb : ∀ z ∈ h.path, 0 ≤ z ∧ z < 30) (hp' : h'.path.length ≤ 100) (hb' : ∀ z ∈ h'.path, 0 ≤ z ∧ z < 30) (w : World) :
  (binOp .eql 271 (.agg (coreF Tryz.zeroCells271 h.k h.t h.n h.f h.s h.r0 h.path)) (.agg (coreF Tryz.zeroCells271 h'.k h'.t h'.n h'.f h'.s h'.r0 h'.path))).run Tryz.prog w
   = .ok (.bool (decide (h.k = h'.k ∧ h.t = h'.t ∧ h.n = h'.n ∧ nz h.f = nz h'.f ∧ h.s = h'.s ∧ h.r0 = h'.r0 ∧ h.path = h'.path))) w := by
 have L := lits_core 0 h.k h.t h.n (nz h.f) h.s h.r0 h.path hF.k0 hF.k1 hF.t0 hF.n0 hF.n1 (nz_bounds hF.f0 hF.f1).1 (nz_bounds hF.f0 hF.f1).2 hF.s0 hF.o0 hF.o1 hp hb
 have L' := lits_core 0 h'.k h'.t h'.n (nz h'.f) h'.s h'.r0 h'.path hF'.k0 hF'.k1 hF'.t0 hF'.n0 hF'.n1 (nz_bounds hF'.f0 hF'.f1).1 (nz_bounds hF'.f0 hF'.f1).2 hF'.s0 hF'.o0 hF'.o1 hp' hb'
 rw [← coreF_list h.k h.t h.n h.f h.s h.r0 h.path hp] at L
 rw [← coreF_list h'.k h'.t h'.n h'.f h'.s h'.r0 h'.path hp'] at L'
 have sz : ∀ (k : Int) (t : ByteArray) (a f : Int) (s : ByteArray) (o : Int) (path : List Int), (coreF Tryz.zeroCells271 k t a f s o path).size = 107 := fun k t a f s o path => by unfold coreF; rw [coreJ_size, coreA_size]
 have fm : ∀ (k : Int) (t : ByteArray) (a f : Int) (s : ByteArray) (o : Int) (path : List Int), (Value.agg (coreF Tryz.zeroCells271 k t a f s o path)).formed Tryz.prog 271 = true := fun k t a f s o path => by
  simp [Value.formed, Tryz.underlying271, sz, c138]
 obtain ⟨r, hr, hiff⟩ := run_equalIn_deep (P := Tryz.prog) 9996 4 271 (by kernel_rfl) w 3 3 _ _ _ _ (fm h.k h.t h.n h.f h.s h.r0 h.path) (fm h'.k h'.t h'.n h'.f h'.s h'.r0 h'.path) L L'
 rw [run_eql_struct]
 have hr' : (Op.equalIn 10000 271 (.agg (coreF Tryz.zeroCells271 h.k h.t h.n h.f h.s h.r0 h.path)) (.agg (coreF Tryz.zeroCells271 h'.k h'.t h'.n h'.f h'.s h'.r0 h'.path))).run Tryz.prog w = .ok r w := hr
 rw [hr', Result.andThen_ok]
 have e : r = decide (h.k = h'.k ∧ h.t = h'.t ∧ h.n = h'.n ∧ nz h.f = nz h'.f ∧ h.s = h'.s ∧ h.r0 = h'.r0 ∧ h.path = h'.path) := by
  rw [Bool.eq_iff_iff, decide_eq_true_eq, hiff]
  exact litL_iff _ _ _ _ _ _ _ _ _ _ _ _ _ _ hp hp'
 rw [e]
end Go.Proofs.YtdbijkgnddcneaaGreatDoor
