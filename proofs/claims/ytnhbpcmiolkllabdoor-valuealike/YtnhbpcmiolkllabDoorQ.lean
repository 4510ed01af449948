/-
  coreOf, of data without Items and Path.
-/
import Derived.Test.YtnhbpcmiolkllabDoorI
import Derived.Deep.MidRow
namespace Go.Proofs.YtnhbpcmiolkllabDoor
open Go.RowKit

/-- A core's cells. -/
def coreA (z : Array Value) (k : Int) (t : ByteArray) (a f : Int) (s : ByteArray) (o m : Int) : Array Value :=
  ((((((z.setIfInBounds 0 (.int .i64 k)).setIfInBounds 1 (.string t)).setIfInBounds 2 (.int .i64 a)).setIfInBounds 3 (.int .u64 f)).setIfInBounds 4 (.string s)).setIfInBounds 5 (.int .i64 o)).setIfInBounds 6 (.int .i64 m)
theorem zero_size : Tryd.zeroCells116.size = 107 := by kernel_rfl
theorem coreA_size (k : Int) (t : ByteArray) (a f : Int) (s : ByteArray) (o m : Int) : (coreA Tryd.zeroCells116 k t a f s o m).size = 107 := by simp [coreA]
theorem coreA_one (k : Int) (t : ByteArray) (a f : Int) (s : ByteArray) (o m : Int) : (coreA Tryd.zeroCells116 k t a f s o m).all (·.oneCell') = true := by kernel_rfl
theorem coreA_bits (k : Int) (t : ByteArray) (a f : Int) (s : ByteArray) (o m : Int) : (coreA Tryd.zeroCells116 k t a f s o m)[3]? = some (.int .u64 f) := by kernel_rfl
theorem info116 : (Tryd.prog.info? 116).map (·.size) = some 107 := by kernel_rfl
attribute [local go_sem] refold2 cell3_0 cell3_1 b28_0 b28_01

set_option maxRecDepth 100000 in
set_option maxHeartbeats 8000000 in
theorem coreOf_flat (k : Int) (t : ByteArray) (a f : Int) (s : ByteArray) (r0 r1 r2 r3 : Int) (w : World) (hf : (f == 9223372036854775808) = false) :
    Calls Tryd.prog 44 #[D k t a f s r0 r1 r2 r3 (.slice none 0 0) (.slice none 0 0)] w fun r w' => r = .returned (.agg (coreA Tryd.zeroCells116 k t a f s r0 0)) ∧ Below w.heap.size w w' := by
  have HT : Hid (∀ W, Calls Tryd.prog 42 #[.agg #[.int .i64 k, .string t, .int .i64 a, .int .u64 f, .string s, .int .i64 r0, .int .i64 r1, .int .i64 r2, .int .i64 r3, .slice none 0 0, .slice none 0 0]] W fun r w' => r = .returned (.agg #[.int .i64 k, .string t]) ∧ Below W.heap.size W w') := fun W => typeOf_any k t a f s r0 r1 r2 r3 _ _ W
  simp only [D]
  obtain ⟨W2, hW2⟩ : ∃ W2, W2 = (w.alloc (.cells #[.int .i64 k, .string t, .int .i64 a, .int .u64 f, .string s, .int .i64 r0, .int .i64 r1, .int .i64 r2, .int .i64 r3, .slice none 0 0, .slice none 0 0] 32)).alloc (.cells Tryd.zeroCells116 116) := ⟨_, rfl⟩
  have hB2 : Below w.heap.size w W2 := by rw [hW2]; exact below2 _ _ _
  have hz2 : W2.heap.size = w.heap.size + 2 := by rw [hW2]; simp
  have x0 : Hid (W2.heap[w.heap.size]? = some (.cells #[.int .i64 k, .string t, .int .i64 a, .int .u64 f, .string s, .int .i64 r0, .int .i64 r1, .int .i64 r2, .int .i64 r3, .slice none 0 0, .slice none 0 0] 32 (0, 0))) := by rw [hW2, Below.heap_alloc _ _ _ (by simp)]; exact heap_alloc_new _ _
  have x1 : Hid (W2.heap[w.heap.size + 1]? = some (.cells Tryd.zeroCells116 116 (0, 0))) := by rw [hW2]; exact heap2_1 _ _ _
  have HK : Hid (∀ W, Below W2.heap.size W2 W → (∀ j, W.cell? ⟨w.heap.size, j, none⟩ = (#[.int .i64 k, .string t, .int .i64 a, .int .u64 f, .string s, .int .i64 r0, .int .i64 r1, .int .i64 r2, .int .i64 r3, .slice none 0 0, .slice none 0 0] : Array Value)[j]?)) := fun W hW j => row_at ((hW.block w.heap.size (by omega)).trans x0.out) j
  go_enter Tryd.func44, Tryd.ntmps44
  go_wp2_with fail
  rw [← hW2]
  clear hW2
  rename_i Q1 K1 hK1
  have tail : ∀ (b : Nat) (W : World), w.heap.size + 1 + 1 ≤ b → W.heap[b]? = some (.cells (coreA Tryd.zeroCells116 k t a f s r0 0) 116 (0, 0)) → Below W2.heap.size W2 W → K1 { tmps := #[.agg #[.int .i64 k, .string t, .int .i64 a, .int .u64 f, .string s, .int .i64 r0, .int .i64 r1, .int .i64 r2, .int .i64 r3, .slice none 0 0, .slice none 0 0], .pointer (some ⟨w.heap.size, 0, none⟩), .pointer (some ⟨w.heap.size + 1, 0, none⟩), .pointer (some ⟨b, 0, none⟩), undef, undef, .agg #[.int .i64 k, .string t, .int .i64 a, .int .u64 f, .string s, .int .i64 r0, .int .i64 r1, .int .i64 r2, .int .i64 r3, .slice none 0 0, .slice none 0 0], .agg #[.int .i64 k, .string t], .pointer (some ⟨w.heap.size, 2, none⟩), .int .i64 a, .pointer (some ⟨w.heap.size, 3, none⟩), .int .u64 f, .pointer (some ⟨w.heap.size, 4, none⟩), .string s, .pointer (some ⟨w.heap.size, 5, none⟩), .pointer (some ⟨w.heap.size, 5, none⟩), .int .i64 r0, .pointer (some ⟨w.heap.size, 5, none⟩), .pointer (some ⟨w.heap.size, 9, none⟩), .slice none 0 0, .int .i64 0, .agg (coreA Tryd.zeroCells116 k t a f s r0 0), undef, undef, undef, undef, undef, undef, undef, undef, undef, undef, undef, undef, undef, undef, undef, undef, undef, undef, undef, undef], defers := [] } W := by
    intro b W hbb hbx hBW
    have cb := row_at hbx 3
    rw [coreA_bits] at cb
    have ca := HK.out W hBW
    have hr1 := (hBW.block (w.heap.size + 1) (by omega)).trans x1.out
    have hzW : w.heap.size + 1 + 1 ≤ W.heap.size := by have := hBW.size; omega
    apply hK1
    go_wp2_with fail
    rename_i K2 hK2
    have HK2 : Hid _ := hK2
    clear hK2
    refine wp_loop_rounds 1 ?_
    rw [rounds_succ]
    go_wp2
    apply HK2.out
    obtain ⟨cs, hcs⟩ : ∃ cs, cs = (coreA Tryd.zeroCells116 k t a f s r0 0) := ⟨_, rfl⟩
    have hsz : cs.size = 107 := by rw [hcs]; exact coreA_size _ _ _ _ _ _ _
    have hone : cs.all (·.oneCell') = true := by rw [hcs]; exact coreA_one _ _ _ _ _ _ _
    rw [← hcs] at hbx ⊢
    have hrg : W.rangeAt b 0 cs.toList := fun j v hj => by rw [Nat.zero_add, row_at hbx j]; simpa using hj
    refine wp_seq_k (fun K3 hK3 => ?_)
    refine wp_region_lit ?_
    refine wpList_load_mid rfl 116 _ rfl b 0 rfl cs.toList _ hrg Tryd.underlying116 rfl (by rw [Array.length_toList, hsz]; exact info116) ?_
    refine wpList_plain rfl (fun K hK => ?_)
    refine wp_store_row 116 _ _ rfl (w.heap.size + 1) cs rfl (by simp [Act.put, Act.eval]) 116 Tryd.zeroCells116 hr1 (by rw [hsz]; exact info116) (by rw [hsz]; exact zero_size) hone ?_
    refine hK _ _ ?_
    show K3 _ _
    apply hK3
    simp only [Act.put, List.setIfInBounds_toArray, List.set_cons_succ, List.set_cons_zero]
    have hrg2 : (W.setRow (w.heap.size + 1) cs).rangeAt (w.heap.size + 1) 0 cs.toList := fun j v hj => by rw [Nat.zero_add, rowT hr1 j]; simpa using hj
    have hld := run_loadVar_mid (P := Tryd.prog) (W.setRow (w.heap.size + 1) cs) (w.heap.size + 1) 0 116 cs.toList _ hrg2 Tryd.underlying116 rfl (by rw [Array.length_toList, hsz]; exact info116)
    rw [Array.toArray_toList] at hld
    go_wp2
    refine bodyPost_ret (v := .agg cs) (by simp [results, Tryd.results44, asAddr, hld]) rfl ⟨by rw [hcs], ?_⟩
    exact brow (hB2.trans (hBW.mono (by omega))) (by omega) _
  refine wp_region_noPanic ?_
  refine wp_region_held (S := fun W => ∀ j, W.cell? ⟨w.heap.size, j, none⟩ = (#[.int .i64 k, .string t, .int .i64 a, .int .u64 f, .string s, .int .i64 r0, .int .i64 r1, .int .i64 r2, .int .i64 r3, .slice none 0 0, .slice none 0 0] : Array Value)[j]?) (by kernel_rfl) ?_
  obtain ⟨W4, hW4⟩ : ∃ W4, W4 = W2.drew := ⟨_, rfl⟩
  have e4 : ({ W2 with drawn := W2.drawn + 1 } : World) = W4 := hW4.symm
  rw [e4]
  have hB4 : Below W2.heap.size W2 W4 := by rw [hW4]; exact (Below.refl _ _).drew
  have hz4 : W4.heap.size = W2.heap.size := by rw [hW4]; rfl
  have hS := HK.out W4 hB4
  clear e4 hW4
  refine wpAnyH_take (i := 0) (v := .agg #[.int .i64 k, .string t, .int .i64 a, .int .u64 f, .string s, .int .i64 r0, .int .i64 r1, .int .i64 r2, .int .i64 r3, .slice none 0 0, .slice none 0 0]) rfl (by kernel_rfl) (by kernel_rfl) (by kernel_rfl) (fun _ _ _ h => h) (Or.inl ⟨by rfl, ?r⟩) hS ?_
  case r => intro W hW; simp [go_sem, execOp, Act.eval, hW]
  simp only [List.getElem_toArray, List.getElem_cons_zero, Act.put, List.setIfInBounds_toArray, List.set_cons_succ, List.set_cons_zero]
  refine wpAnyH_take (i := 2) (v := .pointer (some ⟨w.heap.size, 2, none⟩)) rfl (by kernel_rfl) (by kernel_rfl) (by kernel_rfl) (fun _ _ _ h => h) (Or.inl ⟨by rfl, ?r⟩) hS ?_
  case r => intro W hW; simp [go_sem, execOp, Act.eval]
  simp only [List.getElem_toArray, List.getElem_cons_zero, List.getElem_cons_succ, Act.put, List.setIfInBounds_toArray, List.set_cons_succ, List.set_cons_zero]
  refine wpAnyH_take (i := 3) (v := .int .i64 a) rfl (by kernel_rfl) (by kernel_rfl) (by kernel_rfl) (fun _ _ _ h => h) (Or.inl ⟨by rfl, ?r⟩) hS ?_
  case r => intro W hW; simp [go_sem, execOp, Act.eval, hW]
  simp only [List.getElem_toArray, List.getElem_cons_zero, List.getElem_cons_succ, Act.put, List.setIfInBounds_toArray, List.set_cons_succ, List.set_cons_zero]
  refine wpAnyH_take (i := 4) (v := .pointer (some ⟨w.heap.size, 3, none⟩)) rfl (by kernel_rfl) (by kernel_rfl) (by kernel_rfl) (fun _ _ _ h => h) (Or.inl ⟨by rfl, ?r⟩) hS ?_
  case r => intro W hW; simp [go_sem, execOp, Act.eval]
  simp only [List.getElem_toArray, List.getElem_cons_zero, List.getElem_cons_succ, Act.put, List.setIfInBounds_toArray, List.set_cons_succ, List.set_cons_zero]
  refine wpAnyH_take (i := 5) (v := .int .u64 f) rfl (by kernel_rfl) (by kernel_rfl) (by kernel_rfl) (fun _ _ _ h => h) (Or.inl ⟨by rfl, ?r⟩) hS ?_
  case r => intro W hW; simp [go_sem, execOp, Act.eval, hW]
  simp only [List.getElem_toArray, List.getElem_cons_zero, List.getElem_cons_succ, Act.put, List.setIfInBounds_toArray, List.set_cons_succ, List.set_cons_zero]
  refine wpAnyH_take (i := 6) (v := .pointer (some ⟨w.heap.size, 4, none⟩)) rfl (by kernel_rfl) (by kernel_rfl) (by kernel_rfl) (fun _ _ _ h => h) (Or.inl ⟨by rfl, ?r⟩) hS ?_
  case r => intro W hW; simp [go_sem, execOp, Act.eval]
  simp only [List.getElem_toArray, List.getElem_cons_zero, List.getElem_cons_succ, Act.put, List.setIfInBounds_toArray, List.set_cons_succ, List.set_cons_zero]
  refine wpAnyH_take (i := 7) (v := .string s) rfl (by kernel_rfl) (by kernel_rfl) (by kernel_rfl) (fun _ _ _ h => h) (Or.inl ⟨by rfl, ?r⟩) hS ?_
  case r => intro W hW; simp [go_sem, execOp, Act.eval, hW]
  simp only [List.getElem_toArray, List.getElem_cons_zero, List.getElem_cons_succ, Act.put, List.setIfInBounds_toArray, List.set_cons_succ, List.set_cons_zero]
  refine wpAnyH_take (i := 8) (v := .pointer (some ⟨w.heap.size, 5, none⟩)) rfl (by kernel_rfl) (by kernel_rfl) (by kernel_rfl) (fun _ _ _ h => h) (Or.inl ⟨by rfl, ?r⟩) hS ?_
  case r => intro W hW; simp [go_sem, execOp, Act.eval]
  simp only [List.getElem_toArray, List.getElem_cons_zero, List.getElem_cons_succ, Act.put, List.setIfInBounds_toArray, List.set_cons_succ, List.set_cons_zero]
  refine wpAnyH_take (i := 9) (v := .pointer (some ⟨w.heap.size, 5, none⟩)) rfl (by kernel_rfl) (by kernel_rfl) (by kernel_rfl) (fun _ _ _ h => h) (Or.inl ⟨by rfl, ?r⟩) hS ?_
  case r => intro W hW; simp [go_sem, execOp, Act.eval]
  simp only [List.getElem_toArray, List.getElem_cons_zero, List.getElem_cons_succ, Act.put, List.setIfInBounds_toArray, List.set_cons_succ, List.set_cons_zero]
  refine wpAnyH_take (i := 10) (v := .int .i64 r0) rfl (by kernel_rfl) (by kernel_rfl) (by kernel_rfl) (fun _ _ _ h => h) (Or.inl ⟨by rfl, ?r⟩) hS ?_
  case r => intro W hW; simp [go_sem, execOp, Act.eval, hW]
  simp only [List.getElem_toArray, List.getElem_cons_zero, List.getElem_cons_succ, Act.put, List.setIfInBounds_toArray, List.set_cons_succ, List.set_cons_zero]
  refine wpAnyH_take (i := 11) (v := .pointer (some ⟨w.heap.size, 5, none⟩)) rfl (by kernel_rfl) (by kernel_rfl) (by kernel_rfl) (fun _ _ _ h => h) (Or.inl ⟨by rfl, ?r⟩) hS ?_
  case r => intro W hW; simp [go_sem, execOp, Act.eval]
  simp only [List.getElem_toArray, List.getElem_cons_zero, List.getElem_cons_succ, Act.put, List.setIfInBounds_toArray, List.set_cons_succ, List.set_cons_zero]
  refine wpAnyH_take (i := 12) (v := .pointer (some ⟨w.heap.size, 9, none⟩)) rfl (by kernel_rfl) (by kernel_rfl) (by kernel_rfl) (fun _ _ _ h => h) (Or.inl ⟨by rfl, ?r⟩) hS ?_
  case r => intro W hW; simp [go_sem, execOp, Act.eval]
  simp only [List.getElem_toArray, List.getElem_cons_zero, List.getElem_cons_succ, Act.put, List.setIfInBounds_toArray, List.set_cons_succ, List.set_cons_zero]
  refine wpAnyH_take (i := 13) (v := .slice none 0 0) rfl (by kernel_rfl) (by kernel_rfl) (by kernel_rfl) (fun _ _ _ h => h) (Or.inl ⟨by rfl, ?r⟩) hS ?_
  case r => intro W hW; simp [go_sem, execOp, Act.eval, hW]
  simp only [List.getElem_toArray, List.getElem_cons_zero, List.getElem_cons_succ, Act.put, List.setIfInBounds_toArray, List.set_cons_succ, List.set_cons_zero]
  refine wpAnyH_take (i := 14) (v := .int .i64 0) rfl (by kernel_rfl) (by kernel_rfl) (by kernel_rfl) (fun _ _ _ h => h) (Or.inl ⟨by rfl, ?r⟩) hS ?_
  case r => intro W hW; simp [go_sem, execOp, Act.eval]
  simp only [List.getElem_toArray, List.getElem_cons_zero, List.getElem_cons_succ, Act.put, List.setIfInBounds_toArray, List.set_cons_succ, List.set_cons_zero]
  refine wpAnyH_all (rs := [1, 16]) (by kernel_rfl) (by simp) (fun i1 hi1 => ?_)
  obtain rfl | rfl : i1 = 1 ∨ i1 = 16 := by simpa using hi1
  · clear hi1
    refine wpOp_step rfl (fun K hK => ite_yes rfl ?_)
    simp only [List.getElem_toArray, List.getElem_cons_zero, List.getElem_cons_succ]
    go_simp
    refine (HT.out _).mono ?_
    rintro e w5 ⟨rfl, b5⟩
    have hb5 : Below W2.heap.size W2 w5 := hB4.trans (b5.mono hB4.size)
    go_simp
    refine hK _ _ ⟨HK.out _ hb5, ?_⟩
    clear hK K hS
    have hS := HK.out _ hb5
    have hz5 : w.heap.size + 1 + 1 ≤ w5.heap.size := by have := hb5.size; omega
    refine wpAnyH_take (i := 15) (v := .agg (coreA Tryd.zeroCells116 k t a f s r0 0)) rfl (by kernel_rfl) (by kernel_rfl) (by kernel_rfl) (fun _ _ _ h => h) (Or.inl ⟨by rfl, ?r⟩) hS ?_
    case r => intro W hW; simp [go_sem, execOp, Act.eval, coreA]
    simp only [List.getElem_toArray, List.getElem_cons_zero, List.getElem_cons_succ, Act.put, List.setIfInBounds_toArray, List.set_cons_succ, List.set_cons_zero]
    refine wpAnyH_all (rs := [16]) (by kernel_rfl) (by simp) (fun i2 hi2 => ?_)
    obtain rfl : i2 = 16 := by simpa using hi2
    clear hi2
    refine wpOp_step rfl (fun K hK => ite_yes rfl ?_)
    simp only [List.getElem_toArray, List.getElem_cons_zero, List.getElem_cons_succ]
    go_simp
    have hSn : Below W2.heap.size W2 (w5.alloc (.cells Tryd.zeroCells116 116)) := hb5.alloc (by omega) _
    refine hK _ _ ⟨HK.out _ hSn, ?_⟩
    clear hK K
    refine wpAnyH_all (rs := [17]) (by kernel_rfl) (by simp) (fun i2 hi2 => ?_)
    obtain rfl : i2 = 17 := by simpa using hi2
    clear hi2
    refine wpOp_step rfl (fun K hK => ite_yes rfl ?_)
    simp only [List.getElem_toArray, List.getElem_cons_zero, List.getElem_cons_succ]
    have hr3 : (w5.alloc (.cells Tryd.zeroCells116 116)).heap[w5.heap.size]? = some (.cells Tryd.zeroCells116 116 (0, 0)) := heap_alloc_new _ _
    refine wp_store_row 116 _ _ rfl w5.heap.size _ rfl rfl 116 Tryd.zeroCells116 hr3 (by rw [coreA_size]; exact info116) (by rw [coreA_size]; exact zero_size) (coreA_one _ _ _ _ _ _ _) ?_
    have hS2 : ∀ cs, Below W2.heap.size W2 ((w5.alloc (.cells Tryd.zeroCells116 116)).setRow w5.heap.size cs) := fun cs => brow hSn (by omega) _
    refine hK _ _ ⟨HK.out _ (hS2 _), ?_⟩
    clear hK K
    refine wpAnyH_done (by kernel_rfl) ?_ _
    refine NoPanic.normal ?_
    try simp only [Act.put]
    exact tail w5.heap.size _ hz5 (setRow_heap _ _ Tryd.zeroCells116 _ 116 (0, 0) hr3) (hS2 _)
  · clear hi1
    refine wpOp_step rfl (fun K hK => ite_yes rfl ?_)
    simp only [List.getElem_toArray, List.getElem_cons_zero, List.getElem_cons_succ]
    go_simp
    have hSn : Below W2.heap.size W2 (W4.alloc (.cells Tryd.zeroCells116 116)) := hB4.alloc (by omega) _
    refine hK _ _ ⟨HK.out _ hSn, ?_⟩
    clear hK K hS
    have hz5 : w.heap.size + 1 + 1 ≤ W4.heap.size := by omega
    refine wpAnyH_all (rs := [1]) (by kernel_rfl) (by simp) (fun i2 hi2 => ?_)
    obtain rfl : i2 = 1 := by simpa using hi2
    clear hi2
    refine wpOp_step rfl (fun K hK => ite_yes rfl ?_)
    simp only [List.getElem_toArray, List.getElem_cons_zero, List.getElem_cons_succ]
    go_simp
    refine (HT.out _).mono ?_
    rintro e w5 ⟨rfl, b5⟩
    have hb5 : Below W2.heap.size W2 w5 := hSn.trans (b5.mono (by simp; omega))
    go_simp
    refine hK _ _ ⟨HK.out _ hb5, ?_⟩
    clear hK K
    have hS := HK.out _ hb5
    refine wpAnyH_take (i := 15) (v := .agg (coreA Tryd.zeroCells116 k t a f s r0 0)) rfl (by kernel_rfl) (by kernel_rfl) (by kernel_rfl) (fun _ _ _ h => h) (Or.inl ⟨by rfl, ?r⟩) hS ?_
    case r => intro W hW; simp [go_sem, execOp, Act.eval, coreA]
    simp only [List.getElem_toArray, List.getElem_cons_zero, List.getElem_cons_succ, Act.put, List.setIfInBounds_toArray, List.set_cons_succ, List.set_cons_zero]
    refine wpAnyH_all (rs := [17]) (by kernel_rfl) (by simp) (fun i2 hi2 => ?_)
    obtain rfl : i2 = 17 := by simpa using hi2
    clear hi2
    refine wpOp_step rfl (fun K hK => ite_yes rfl ?_)
    simp only [List.getElem_toArray, List.getElem_cons_zero, List.getElem_cons_succ]
    have hr3 : w5.heap[w.heap.size + 2]? = some (.cells Tryd.zeroCells116 116 (0, 0)) := by rw [← hz2, ← hz4]; exact (b5.block W4.heap.size (by simp)).trans (heap_alloc_new _ _)
    refine wp_store_row 116 _ _ rfl (w.heap.size + 2) _ rfl rfl 116 Tryd.zeroCells116 hr3 (by rw [coreA_size]; exact info116) (by rw [coreA_size]; exact zero_size) (coreA_one _ _ _ _ _ _ _) ?_
    have hS2 : ∀ cs, Below W2.heap.size W2 (w5.setRow (w.heap.size + 2) cs) := fun cs => brow hb5 (by omega) _
    refine hK _ _ ⟨HK.out _ (hS2 _), ?_⟩
    clear hK K
    refine wpAnyH_done (by kernel_rfl) ?_ _
    refine NoPanic.normal ?_
    try simp only [Act.put]
    exact tail (w.heap.size + 2) _ (by omega) (setRow_heap _ _ Tryd.zeroCells116 _ 116 (0, 0) hr3) (hS2 _)
end Go.Proofs.YtnhbpcmiolkllabDoor
