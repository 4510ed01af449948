/-
  .
  .
-/
import Derived.Test.YtdbijkgnddcneaaGreatDoorIJ
import Derived.Deep.MidRow
import Derived.Test.YtdbijkgnddcneaaGreatDoorSq
namespace Go.Proofs.YtdbijkgnddcneaaGreatDoor
open Go.RowKit
def coreA (z : Array Value) (k : Int) (t : ByteArray) (a f : Int) (s : ByteArray) (o m : Int) : Array Value :=
 ((((((z.setIfInBounds 0 (.int .i64 k)).setIfInBounds 1 (.string t)).setIfInBounds 2 (.int .i64 a)).setIfInBounds 3 (.int .u64 f)).setIfInBounds 4 (.string s)).setIfInBounds 5 (.int .i64 o)).setIfInBounds 6 (.int .i64 m)
theorem zero_size : Tryz.zeroCells271.size = 107 := by kernel_rfl
theorem coreA_size (k : Int) (t : ByteArray) (a f : Int) (s : ByteArray) (o m : Int) : (coreA Tryz.zeroCells271 k t a f s o m).size = 107 := by simp [coreA]
theorem coreA_one (k : Int) (t : ByteArray) (a f : Int) (s : ByteArray) (o m : Int) : (coreA Tryz.zeroCells271 k t a f s o m).all (·.oneCell') = true := by kernel_rfl
theorem coreA_bits (k : Int) (t : ByteArray) (a f : Int) (s : ByteArray) (o m : Int) : (coreA Tryz.zeroCells271 k t a f s o m)[3]? = some (.int .u64 f) := by kernel_rfl
theorem info116 : (Tryz.prog.info? 271).map (·.size) = some 107 := by kernel_rfl
attribute [local go_sem] refold2 cell3_0 cell3_1 b28_0 b28_01
end Go.Proofs.YtdbijkgnddcneaaGreatDoor
namespace Go.Proofs.YtdbijkgnddcneaaGreatDoor
open Go.RowKit
set_option maxRecDepth 100000
set_option maxHeartbeats 8000000
attribute [local go_sem] refold2 cell3_0 cell3_1 b28_0 b28_01
def coreJ (path : List Int) (c : Array Value) : Nat → Array Value
 | 0 => c
 | j + 1 => (coreJ path c j).setIfInBounds (7 + j) (.int .u8 (path[j]?.getD 0))
theorem coreJ_size (path : List Int) (c : Array Value) : ∀ j, (coreJ path c j).size = c.size
 | 0 => rfl
 | j + 1 => by simp [coreJ, coreJ_size path c j]
theorem coreJ_succ (path : List Int) (c : Array Value) (j : Nat) (hj : j < path.length) : coreJ path c (j + 1) = (coreJ path c j).setIfInBounds (7 + j) (.int .u8 path[j]) := by
 show (coreJ path c j).setIfInBounds (7 + j) (.int .u8 (path[j]?.getD 0)) = _
 rw [List.getElem?_eq_getElem hj]; rfl
theorem coreJ_one (path : List Int) (c : Array Value) (h : ∀ v ∈ c, v.oneCell' = true) : ∀ j, ∀ v ∈ coreJ path c j, v.oneCell' = true
 | 0 => h
 | j + 1 => fun v hv => by
  rcases Array.mem_or_eq_of_mem_setIfInBounds hv with h1 | h1
  ·exact coreJ_one path c h j v h1
  ·rw [h1]; rfl
def nz (f : Int) : Int := if f = 9223372036854775808 then 0 else f
def coreF (z : Array Value) (k : Int) (t : ByteArray) (a f : Int) (s : ByteArray) (o : Int) (path : List Int) : Array Value := coreJ path (coreA z k t a (nz f) s o path.length) path.length
def CoreRel (path : List Int) (c : Array Value) (W2 : World) (b : Nat) (i : Value) (wr : World) : Prop := ∃ j : Nat, j ≤ path.length ∧ i = .int .i64 j ∧ Below W2.heap.size W2 wr ∧ wr.heap[b]? = some (.cells (coreJ path c j) 271 (0, 0))
theorem row_set {w : World} {g : Nat} {c : Array Value} {t : TypeId} (h : w.heap[g]? = some (.cells c t (0, 0))) (q : Nat) (v : Value) : (w.setCell ⟨g, q, none⟩ v).heap[g]? = some (.cells (c.setIfInBounds q v) t (0, 0)) := by
 have hlt := (Array.getElem?_eq_some_iff.1 h).1
 show (w.heap.modify g _)[g]? = _
 rw [Array.getElem?_eq_getElem (by rw [Array.size_modify]; exact hlt), Array.getElem_modify_self]
 have := (Array.getElem?_eq_some_iff.1 h).2
 rw [this]; rfl
theorem coreA_zero (k : Int) (t : ByteArray) (a f : Int) (s : ByteArray) (o m : Int) : (coreA Tryz.zeroCells271 k t a f s o m).setIfInBounds 3 (.int .u64 0) = coreA Tryz.zeroCells271 k t a 0 s o m := by kernel_rfl
theorem conv_u8 (z : Int) (h0 : 0 ≤ z) (h1 : z < 256) (W : World) : (convert 3 5 (.int .i64 z)).run Tryz.prog W = .ok (.int .u8 z) W := by
 have e : IntKind.u8.wrap z = z := by simp [IntKind.wrap, IntKind.bits, IntKind.signed]; omega
 simp [go_sem, e]
theorem coreOf_any (k : Int) (t : ByteArray) (a f : Int) (s : ByteArray) (r0 r1 r2 r3 : Int) (pp : Option Addr) (path : List Int) (pc : Nat) (ip : Option Addr) (il ic : Nat) (w : World) (hpl : path.length ≤ 100) (hpb : ∀ z ∈ path, 0 ≤ z ∧ z < 30)
  (hP : path = [] ∨ ∃ b o, pp = some ⟨b, o, none⟩ ∧ b < w.heap.size ∧ ∀ (i : Nat) (hi : i < path.length), w.cell? ⟨b, o + i, none⟩ = some (.int .i64 path[i])) :
  Calls Tryz.prog 164 #[D k t a f s r0 r1 r2 r3 (.slice pp path.length pc) (.slice ip il ic)] w fun r w' => r = .returned (.agg (coreF Tryz.zeroCells271 k t a f s r0 path)) ∧ Below w.heap.size w w' := by
 have HT : Hid (∀ W, Calls Tryz.prog 141 #[.agg #[.int .i64 k, .string t, .int .i64 a, .int .u64 f, .string s, .int .i64 r0, .int .i64 r1, .int .i64 r2, .int .i64 r3, .slice pp path.length pc, .slice ip il ic]] W fun r w' => r = .returned (.agg #[.int .i64 k, .string t]) ∧ Below W.heap.size W w') := fun W => typeOf_any k t a f s r0 r1 r2 r3 _ _ W
 simp only [D]
 obtain ⟨W2, hW2⟩ : ∃ W2, W2 = (w.alloc (.cells #[.int .i64 k, .string t, .int .i64 a, .int .u64 f, .string s, .int .i64 r0, .int .i64 r1, .int .i64 r2, .int .i64 r3, .slice pp path.length pc, .slice ip il ic] 32)).alloc (.cells Tryz.zeroCells271 271) := ⟨_, rfl⟩
 have hB2 : Below w.heap.size w W2 := by rw [hW2]; exact below2 _ _ _
 have hz2 : W2.heap.size = w.heap.size + 2 := by rw [hW2]; simp
 have x0 : Hid (W2.heap[w.heap.size]? = some (.cells #[.int .i64 k, .string t, .int .i64 a, .int .u64 f, .string s, .int .i64 r0, .int .i64 r1, .int .i64 r2, .int .i64 r3, .slice pp path.length pc, .slice ip il ic] 32 (0, 0))) := by rw [hW2, Below.heap_alloc _ _ _ (by simp)]; exact heap_alloc_new _ _
 have x1 : Hid (W2.heap[w.heap.size + 1]? = some (.cells Tryz.zeroCells271 271 (0, 0))) := by rw [hW2]; exact heap2_1 _ _ _
 have HK : Hid (∀ W, Below W2.heap.size W2 W → (∀ j, W.cell? ⟨w.heap.size, j, none⟩ = (#[.int .i64 k, .string t, .int .i64 a, .int .u64 f, .string s, .int .i64 r0, .int .i64 r1, .int .i64 r2, .int .i64 r3, .slice pp path.length pc, .slice ip il ic] : Array Value)[j]?)) := fun W hW j => row_at ((hW.block w.heap.size (by omega)).trans x0.out) j
 go_enter Tryz.func164, Tryz.ntmps164
 go_wp2_with fail
 rw [← hW2]
 clear hW2
 rename_i Q1 K1 hK1
 have tail : ∀ (b : Nat) (W : World), w.heap.size + 1 + 1 ≤ b → W.heap[b]? = some (.cells (coreA Tryz.zeroCells271 k t a f s r0 path.length) 271 (0, 0)) → Below W2.heap.size W2 W → K1 { tmps := #[.agg #[.int .i64 k, .string t, .int .i64 a, .int .u64 f, .string s, .int .i64 r0, .int .i64 r1, .int .i64 r2, .int .i64 r3, .slice pp path.length pc, .slice ip il ic], .pointer (some ⟨w.heap.size, 0, none⟩), .pointer (some ⟨w.heap.size + 1, 0, none⟩), .pointer (some ⟨b, 0, none⟩), undef, undef, .agg #[.int .i64 k, .string t, .int .i64 a, .int .u64 f, .string s, .int .i64 r0, .int .i64 r1, .int .i64 r2, .int .i64 r3, .slice pp path.length pc, .slice ip il ic], .agg #[.int .i64 k, .string t], .pointer (some ⟨w.heap.size, 2, none⟩), .int .i64 a, .pointer (some ⟨w.heap.size, 3, none⟩), .int .u64 f, .pointer (some ⟨w.heap.size, 4, none⟩), .string s, .pointer (some ⟨w.heap.size, 5, none⟩), .pointer (some ⟨w.heap.size, 5, none⟩), .int .i64 r0, .pointer (some ⟨w.heap.size, 5, none⟩), .pointer (some ⟨w.heap.size, 9, none⟩), .slice pp path.length pc, .int .i64 path.length, .agg (coreA Tryz.zeroCells271 k t a f s r0 path.length), undef, undef, undef, undef, undef, undef, undef, undef, undef, undef, undef, undef, undef, undef, undef, undef, undef, undef, undef, undef], defers := [] } W := by
  intro b W hbb hbx hBW
  have cb := row_at hbx 3
  rw [coreA_bits] at cb
  have ca := HK.out W hBW
  have hr1 := (hBW.block (w.heap.size + 1) (by omega)).trans x1.out
  have hzW : w.heap.size + 1 + 1 ≤ W.heap.size := by have := hBW.size; omega
  have HPP : Hid _ := hP
  have HPB : Hid _ := hpb
  by_cases hf : f = 9223372036854775808
  ·have HB0 : Hid (Below W2.heap.size W2 (W.setCell ⟨b, 3, none⟩ (.int .u64 0))) := hBW.setCell (p := ⟨b, 3, none⟩) (show W2.heap.size ≤ b by omega) _
   have HR0 : Hid ((W.setCell ⟨b, 3, none⟩ (.int .u64 0)).heap[b]? = some (.cells (coreJ path (coreA Tryz.zeroCells271 k t a 0 s r0 path.length) 0) 271 (0, 0))) := by
    have h := row_set hbx 3 (.int .u64 0)
    rw [coreA_zero] at h
    exact h
   have hcz : (coreA Tryz.zeroCells271 k t a 0 s r0 path.length).size = 107 := coreA_size _ _ _ _ _ _ _
   have HCF : Hid (coreF Tryz.zeroCells271 k t a f s r0 path = coreJ path (coreA Tryz.zeroCells271 k t a 0 s r0 path.length) path.length) := by show _ = _; unfold coreF nz; rw [if_pos hf]
   have hfz3 : W.frozen? ⟨b, 3, none⟩ = false := fz _ _ _ _ _ hbx
   have hbne : ¬ w.heap.size = b := by omega
   subst hf
   apply hK1
   go_wp2_with fail
   rename_i K2 hK2
   have HK2 : Hid _ := hK2
   clear hK2
   go_loopw [4, 5, 30] (fun _ _ i wr => CoreRel path (coreA Tryz.zeroCells271 k t a 0 s r0 path.length) W2 b i wr) (fun _ _ i _ => path.length - (intOf i).toNat)
   case atStart => exact ⟨0, Nat.zero_le _, rfl, HB0.out, HR0.out⟩
   case round =>
    obtain ⟨j, hj, rfl, hbw', hrow'⟩ := hrel
    have HBW : Hid (Below W2.heap.size W2 wr) := hbw'
    have HRW : Hid (wr.heap[b]? = some (.cells (coreJ path (coreA Tryz.zeroCells271 k t a 0 s r0 path.length) j) 271 (0, 0))) := hrow'
    have hsz := hbw'.size
    clear hbw' hrow'
    by_cases hlt : j < path.length
    ·have i1 : (j : Int) < path.length := by omega
     have i2 : (j : Int) < 100 := by omega
     obtain ⟨pb, po, rfl, hpw, hpc⟩ : ∃ pb po, pp = some ⟨pb, po, none⟩ ∧ pb < w.heap.size ∧ wr.cell? ⟨pb, po + j, none⟩ = some (.int .i64 path[j]) := by
      rcases HPP.out with e | ⟨pb, po, e1, e2, e3⟩
      ·rw [e] at hlt; simp at hlt
      ·exact ⟨pb, po, e1, e2, ((hB2.trans (HBW.out.mono (by omega))).cell (p := ⟨pb, po + j, none⟩) e2).trans (e3 j hlt)⟩
     obtain ⟨u, hu⟩ : ∃ u, wr.cell? ⟨b, 7 + j, none⟩ = some u := by
      rw [row_at HRW.out (7 + j)]
      exact ⟨_, Array.getElem?_eq_getElem (by rw [coreJ_size, hcz]; omega)⟩
     have hfr : wr.frozen? ⟨b, 7 + j, none⟩ = false := fz _ _ _ _ _ HRW.out
     have HS : Hid ((wr.setCell ⟨b, 7 + j, none⟩ (.int .u8 path[j])).heap[b]? = some (.cells (coreJ path (coreA Tryz.zeroCells271 k t a 0 s r0 path.length) (j + 1)) 271 (0, 0))) := by
      rw [coreJ_succ path _ j hlt]; exact row_set HRW.out _ _
     have hcv : ∀ X : World, (convert 3 5 (.int .i64 path[j])).run Tryz.prog X = .ok (.int .u8 path[j]) X := fun X => conv_u8 _ (HPB.out _ (List.getElem_mem hlt)).1 (by have := (HPB.out _ (List.getElem_mem hlt)).2; omega) X
     generalize path[j] = z at hpc HS hcv
     go_wp2_with fail
     exact ⟨⟨j + 1, hlt, by go_num, HBW.out.setCell (p := ⟨b, 7 + j, none⟩) (show W2.heap.size ≤ b by omega) _, HS.out⟩, by simp [intOf]; omega⟩
    ·have i1 : ¬ (j : Int) < path.length := by omega
     obtain rfl : j = path.length := by omega
     go_wp2_with fail
     apply HK2.out
     obtain ⟨cs, hcs⟩ : ∃ cs, cs = coreJ path (coreA Tryz.zeroCells271 k t a 0 s r0 path.length) path.length := ⟨_, rfl⟩
     have hsz2 : cs.size = 107 := by rw [hcs, coreJ_size]; exact hcz
     have hone : cs.all (·.oneCell') = true := by rw [hcs, Array.all_eq_true_iff_forall_mem]; exact coreJ_one path _ (Array.all_eq_true_iff_forall_mem.1 (coreA_one _ _ _ _ _ _ _)) _
     have hbx2 := HRW.out
     rw [← hcs] at hbx2
     have hr1 := (HBW.out.block (w.heap.size + 1) (by omega)).trans x1.out
     have hrg : wr.rangeAt b 0 cs.toList := fun j v hj => by rw [Nat.zero_add, row_at hbx2 j]; simpa using hj
     refine wp_seq_k (fun K3 hK3 => ?_)
     refine wp_region_lit ?_
     refine wpList_load_mid rfl 271 _ rfl b 0 rfl cs.toList _ hrg Tryz.underlying271 rfl (by rw [Array.length_toList, hsz2]; exact info116) ?_
     refine wpList_plain rfl (fun K hK => ?_)
     refine wp_store_row 271 _ _ rfl (w.heap.size + 1) cs rfl (by simp [Act.put, Act.eval]) 271 Tryz.zeroCells271 hr1 (by rw [hsz2]; exact info116) (by rw [hsz2]; exact zero_size) hone ?_
     refine hK _ _ ?_
     show K3 _ _
     apply hK3
     simp only [Act.put, sd, se, sf]
     have hrg2 : (wr.setRow (w.heap.size + 1) cs).rangeAt (w.heap.size + 1) 0 cs.toList := fun j v hj => by rw [Nat.zero_add, rowT hr1 j]; simpa using hj
     have hld := run_loadVar_mid (P := Tryz.prog) (wr.setRow (w.heap.size + 1) cs) (w.heap.size + 1) 0 271 cs.toList _ hrg2 Tryz.underlying271 rfl (by rw [Array.length_toList, hsz2]; exact info116)
     rw [Array.toArray_toList] at hld
     go_wp2
     refine bodyPost_ret (v := .agg cs) (by simp [results, Tryz.results164, asAddr, hld]) rfl ⟨by rw [hcs, ← HCF.out], ?_⟩
     exact brow (hB2.trans (HBW.out.mono (by omega))) (by omega) _
  ·have hf2 : (f == 9223372036854775808) = false := by simpa using hf
   have HB0 : Hid (Below W2.heap.size W2 W) := hBW
   have HR0 : Hid (W.heap[b]? = some (.cells (coreJ path (coreA Tryz.zeroCells271 k t a f s r0 path.length) 0) 271 (0, 0))) := hbx
   have HCF : Hid (coreF Tryz.zeroCells271 k t a f s r0 path = coreJ path (coreA Tryz.zeroCells271 k t a f s r0 path.length) path.length) := by show _ = _; unfold coreF nz; rw [if_neg hf]
   have hcz : (coreA Tryz.zeroCells271 k t a f s r0 path.length).size = 107 := coreA_size _ _ _ _ _ _ _
   apply hK1
   go_wp2_with fail
   rename_i K2 hK2
   have HK2 : Hid _ := hK2
   clear hK2
   go_loopw [4, 5, 30] (fun _ _ i wr => CoreRel path (coreA Tryz.zeroCells271 k t a f s r0 path.length) W2 b i wr) (fun _ _ i _ => path.length - (intOf i).toNat)
   case atStart => exact ⟨0, Nat.zero_le _, rfl, HB0.out, HR0.out⟩
   case round =>
    obtain ⟨j, hj, rfl, hbw', hrow'⟩ := hrel
    have HBW : Hid (Below W2.heap.size W2 wr) := hbw'
    have HRW : Hid (wr.heap[b]? = some (.cells (coreJ path (coreA Tryz.zeroCells271 k t a f s r0 path.length) j) 271 (0, 0))) := hrow'
    have hsz := hbw'.size
    clear hbw' hrow'
    by_cases hlt : j < path.length
    ·have i1 : (j : Int) < path.length := by omega
     have i2 : (j : Int) < 100 := by omega
     obtain ⟨pb, po, rfl, hpw, hpc⟩ : ∃ pb po, pp = some ⟨pb, po, none⟩ ∧ pb < w.heap.size ∧ wr.cell? ⟨pb, po + j, none⟩ = some (.int .i64 path[j]) := by
      rcases HPP.out with e | ⟨pb, po, e1, e2, e3⟩
      ·rw [e] at hlt; simp at hlt
      ·exact ⟨pb, po, e1, e2, ((hB2.trans (HBW.out.mono (by omega))).cell (p := ⟨pb, po + j, none⟩) e2).trans (e3 j hlt)⟩
     obtain ⟨u, hu⟩ : ∃ u, wr.cell? ⟨b, 7 + j, none⟩ = some u := by
      rw [row_at HRW.out (7 + j)]
      exact ⟨_, Array.getElem?_eq_getElem (by rw [coreJ_size, hcz]; omega)⟩
     have hfr : wr.frozen? ⟨b, 7 + j, none⟩ = false := fz _ _ _ _ _ HRW.out
     have HS : Hid ((wr.setCell ⟨b, 7 + j, none⟩ (.int .u8 path[j])).heap[b]? = some (.cells (coreJ path (coreA Tryz.zeroCells271 k t a f s r0 path.length) (j + 1)) 271 (0, 0))) := by
      rw [coreJ_succ path _ j hlt]; exact row_set HRW.out _ _
     have hcv : ∀ X : World, (convert 3 5 (.int .i64 path[j])).run Tryz.prog X = .ok (.int .u8 path[j]) X := fun X => conv_u8 _ (HPB.out _ (List.getElem_mem hlt)).1 (by have := (HPB.out _ (List.getElem_mem hlt)).2; omega) X
     generalize path[j] = z at hpc HS hcv
     go_wp2_with fail
     exact ⟨⟨j + 1, hlt, by go_num, HBW.out.setCell (p := ⟨b, 7 + j, none⟩) (show W2.heap.size ≤ b by omega) _, HS.out⟩, by simp [intOf]; omega⟩
    ·have i1 : ¬ (j : Int) < path.length := by omega
     obtain rfl : j = path.length := by omega
     go_wp2_with fail
     apply HK2.out
     obtain ⟨cs, hcs⟩ : ∃ cs, cs = coreJ path (coreA Tryz.zeroCells271 k t a f s r0 path.length) path.length := ⟨_, rfl⟩
     have hsz2 : cs.size = 107 := by rw [hcs, coreJ_size]; exact hcz
     have hone : cs.all (·.oneCell') = true := by rw [hcs, Array.all_eq_true_iff_forall_mem]; exact coreJ_one path _ (Array.all_eq_true_iff_forall_mem.1 (coreA_one _ _ _ _ _ _ _)) _
     have hbx2 := HRW.out
     rw [← hcs] at hbx2
     have hr1 := (HBW.out.block (w.heap.size + 1) (by omega)).trans x1.out
     have hrg : wr.rangeAt b 0 cs.toList := fun j v hj => by rw [Nat.zero_add, row_at hbx2 j]; simpa using hj
     refine wp_seq_k (fun K3 hK3 => ?_)
     refine wp_region_lit ?_
     refine wpList_load_mid rfl 271 _ rfl b 0 rfl cs.toList _ hrg Tryz.underlying271 rfl (by rw [Array.length_toList, hsz2]; exact info116) ?_
     refine wpList_plain rfl (fun K hK => ?_)
     refine wp_store_row 271 _ _ rfl (w.heap.size + 1) cs rfl (by simp [Act.put, Act.eval]) 271 Tryz.zeroCells271 hr1 (by rw [hsz2]; exact info116) (by rw [hsz2]; exact zero_size) hone ?_
     refine hK _ _ ?_
     show K3 _ _
     apply hK3
     simp only [Act.put, sd, se, sf]
     have hrg2 : (wr.setRow (w.heap.size + 1) cs).rangeAt (w.heap.size + 1) 0 cs.toList := fun j v hj => by rw [Nat.zero_add, rowT hr1 j]; simpa using hj
     have hld := run_loadVar_mid (P := Tryz.prog) (wr.setRow (w.heap.size + 1) cs) (w.heap.size + 1) 0 271 cs.toList _ hrg2 Tryz.underlying271 rfl (by rw [Array.length_toList, hsz2]; exact info116)
     rw [Array.toArray_toList] at hld
     go_wp2
     refine bodyPost_ret (v := .agg cs) (by simp [results, Tryz.results164, asAddr, hld]) rfl ⟨by rw [hcs, ← HCF.out], ?_⟩
     exact brow (hB2.trans (HBW.out.mono (by omega))) (by omega) _
 refine wp_region_noPanic ?_
 refine wp_region_held (S := fun W => ∀ j, W.cell? ⟨w.heap.size, j, none⟩ = (#[.int .i64 k, .string t, .int .i64 a, .int .u64 f, .string s, .int .i64 r0, .int .i64 r1, .int .i64 r2, .int .i64 r3, .slice pp path.length pc, .slice ip il ic] : Array Value)[j]?) (by kernel_rfl) ?_
 obtain ⟨W4, hW4⟩ : ∃ W4, W4 = W2.drew := ⟨_, rfl⟩
 have e4 : ({ W2 with drawn := W2.drawn + 1 } : World) = W4 := hW4.symm
 rw [e4]
 have hB4 : Below W2.heap.size W2 W4 := by rw [hW4]; exact (Below.refl _ _).drew
 have hz4 : W4.heap.size = W2.heap.size := by rw [hW4]; rfl
 have hS := HK.out W4 hB4
 clear e4 hW4
 refine tk 0 (.agg #[.int .i64 k, .string t, .int .i64 a, .int .u64 f, .string s, .int .i64 r0, .int .i64 r1, .int .i64 r2, .int .i64 r3, .slice pp path.length pc, .slice ip il ic]) rfl (.inl ⟨by rfl, ?r⟩) hS ?_
 case r => intro W hW; simp [go_sem, execOp, Act.eval, hW]
 simp only [sa, sb, Act.put, sd, se, sf]
 refine tq 2 (.pointer (some ⟨w.heap.size, 2, none⟩)) rfl hS ?_
 simp only [sa, sb, sc, Act.put, sd, se, sf]
 refine tk 3 (.int .i64 a) rfl (.inl ⟨by rfl, ?r⟩) hS ?_
 case r => intro W hW; simp [go_sem, execOp, Act.eval, hW]
 simp only [sa, sb, sc, Act.put, sd, se, sf]
 refine tq 4 (.pointer (some ⟨w.heap.size, 3, none⟩)) rfl hS ?_
 simp only [sa, sb, sc, Act.put, sd, se, sf]
 refine tk 5 (.int .u64 f) rfl (.inl ⟨by rfl, ?r⟩) hS ?_
 case r => intro W hW; simp [go_sem, execOp, Act.eval, hW]
 simp only [sa, sb, sc, Act.put, sd, se, sf]
 refine tq 6 (.pointer (some ⟨w.heap.size, 4, none⟩)) rfl hS ?_
 simp only [sa, sb, sc, Act.put, sd, se, sf]
 refine tk 7 (.string s) rfl (.inl ⟨by rfl, ?r⟩) hS ?_
 case r => intro W hW; simp [go_sem, execOp, Act.eval, hW]
 simp only [sa, sb, sc, Act.put, sd, se, sf]
 refine tq 8 (.pointer (some ⟨w.heap.size, 5, none⟩)) rfl hS ?_
 simp only [sa, sb, sc, Act.put, sd, se, sf]
 refine tq 9 (.pointer (some ⟨w.heap.size, 5, none⟩)) rfl hS ?_
 simp only [sa, sb, sc, Act.put, sd, se, sf]
 refine tk 10 (.int .i64 r0) rfl (.inl ⟨by rfl, ?r⟩) hS ?_
 case r => intro W hW; simp [go_sem, execOp, Act.eval, hW]
 simp only [sa, sb, sc, Act.put, sd, se, sf]
 refine tq 11 (.pointer (some ⟨w.heap.size, 5, none⟩)) rfl hS ?_
 simp only [sa, sb, sc, Act.put, sd, se, sf]
 refine tq 12 (.pointer (some ⟨w.heap.size, 9, none⟩)) rfl hS ?_
 simp only [sa, sb, sc, Act.put, sd, se, sf]
 refine tk 13 (.slice pp path.length pc) rfl (.inl ⟨by rfl, ?r⟩) hS ?_
 case r => intro W hW; simp [go_sem, execOp, Act.eval, hW]
 simp only [sa, sb, sc, Act.put, sd, se, sf]
 refine tq 14 (.int .i64 path.length) rfl hS ?_
 simp only [sa, sb, sc, Act.put, sd, se, sf]
 refine wpAnyH_all (rs := [1, 16]) (by kernel_rfl) (by simp) (fun i1 hi1 => ?_)
 obtain rfl | rfl : i1 = 1 ∨ i1 = 16 := by simpa using hi1
 ·clear hi1
  refine wpOp_step rfl (fun K hK => ite_yes rfl ?_)
  simp only [sa, sb, sc]
  go_simp
  refine (HT.out _).mono ?_
  rintro e w5 ⟨rfl, b5⟩
  have hb5 : Below W2.heap.size W2 w5 := hB4.trans (b5.mono hB4.size)
  go_simp
  refine hK _ _ ⟨HK.out _ hb5, ?_⟩
  clear hK K hS
  have hS := HK.out _ hb5
  have hz5 : w.heap.size + 1 + 1 ≤ w5.heap.size := by have := hb5.size; omega
  refine tk 15 (.agg (coreA Tryz.zeroCells271 k t a f s r0 path.length)) rfl (.inl ⟨by rfl, ?r⟩) hS ?_
  case r => intro W hW; simp [go_sem, execOp, Act.eval, coreA]
  simp only [sa, sb, sc, Act.put, sd, se, sf]
  refine one 16 rfl (fun K hK => ?_)
  simp only [sa, sb, sc]
  go_simp
  have hSn : Below W2.heap.size W2 (w5.alloc (.cells Tryz.zeroCells271 271)) := hb5.alloc (by omega) _
  refine hK _ _ ⟨HK.out _ hSn, ?_⟩
  clear hK K
  refine one 17 rfl (fun K hK => ?_)
  simp only [sa, sb, sc]
  have hr3 : (w5.alloc (.cells Tryz.zeroCells271 271)).heap[w5.heap.size]? = some (.cells Tryz.zeroCells271 271 (0, 0)) := heap_alloc_new _ _
  refine wp_store_row 271 _ _ rfl w5.heap.size _ rfl rfl 271 Tryz.zeroCells271 hr3 (by rw [coreA_size]; exact info116) (by rw [coreA_size]; exact zero_size) (coreA_one _ _ _ _ _ _ _) ?_
  have hS2 : ∀ cs, Below W2.heap.size W2 ((w5.alloc (.cells Tryz.zeroCells271 271)).setRow w5.heap.size cs) := fun cs => brow hSn (by omega) _
  refine hK _ _ ⟨HK.out _ (hS2 _), ?_⟩
  clear hK K
  refine dn ?_
  try simp only [Act.put]
  exact tail w5.heap.size _ hz5 (setRow_heap _ _ Tryz.zeroCells271 _ 271 (0, 0) hr3) (hS2 _)
 ·clear hi1
  refine wpOp_step rfl (fun K hK => ite_yes rfl ?_)
  simp only [sa, sb, sc]
  go_simp
  have hSn : Below W2.heap.size W2 (W4.alloc (.cells Tryz.zeroCells271 271)) := hB4.alloc (by omega) _
  refine hK _ _ ⟨HK.out _ hSn, ?_⟩
  clear hK K hS
  have hz5 : w.heap.size + 1 + 1 ≤ W4.heap.size := by omega
  refine one 1 rfl (fun K hK => ?_)
  simp only [sa, sb, sc]
  go_simp
  refine (HT.out _).mono ?_
  rintro e w5 ⟨rfl, b5⟩
  have hb5 : Below W2.heap.size W2 w5 := hSn.trans (b5.mono (by simp; omega))
  go_simp
  refine hK _ _ ⟨HK.out _ hb5, ?_⟩
  clear hK K
  have hS := HK.out _ hb5
  refine tk 15 (.agg (coreA Tryz.zeroCells271 k t a f s r0 path.length)) rfl (.inl ⟨by rfl, ?r⟩) hS ?_
  case r => intro W hW; simp [go_sem, execOp, Act.eval, coreA]
  simp only [sa, sb, sc, Act.put, sd, se, sf]
  refine one 17 rfl (fun K hK => ?_)
  simp only [sa, sb, sc]
  have hr3 : w5.heap[w.heap.size + 2]? = some (.cells Tryz.zeroCells271 271 (0, 0)) := by rw [← hz2, ← hz4]; exact (b5.block W4.heap.size (by simp)).trans (heap_alloc_new _ _)
  refine wp_store_row 271 _ _ rfl (w.heap.size + 2) _ rfl rfl 271 Tryz.zeroCells271 hr3 (by rw [coreA_size]; exact info116) (by rw [coreA_size]; exact zero_size) (coreA_one _ _ _ _ _ _ _) ?_
  have hS2 : ∀ cs, Below W2.heap.size W2 (w5.setRow (w.heap.size + 2) cs) := fun cs => brow hb5 (by omega) _
  refine hK _ _ ⟨HK.out _ (hS2 _), ?_⟩
  clear hK K
  refine dn ?_
  try simp only [Act.put]
  exact tail (w.heap.size + 2) _ (by omega) (setRow_heap _ _ Tryz.zeroCells271 _ 271 (0, 0) hr3) (hS2 _)
end Go.Proofs.YtdbijkgnddcneaaGreatDoor
