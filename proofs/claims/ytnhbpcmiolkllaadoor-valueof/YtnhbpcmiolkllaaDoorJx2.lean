/-
  What the law's answers says, by what a value can do.
-/
import Derived.Test.YtnhbpcmiolkllaaDoorJv2
namespace Go.Proofs.YtnhbpcmiolkllaaDoor
open Go.RowKit
attribute [local go_sem] refold2 cell3_0 cell3_1 b28_0 b28_01

set_option maxRecDepth 100000 in
set_option maxHeartbeats 8000000 in
theorem answers_V5 (T : TypeId) (b : Nat) (x : MD) (w : World) (qa qb qc qd : Bool) (nmv : ByteArray)
    (h20 : ∀ W, Calls Tryd.prog 20 #[x.val] W fun r w' => r = .returned (.bool qa) ∧ Below W.heap.size W w') (h38 : ∀ W, Calls Tryd.prog 38 #[x.val] W fun r w' => r = .returned (.bool qb) ∧ Below W.heap.size W w')
    (h39 : ∀ W, Below w.heap.size w W → Calls Tryd.prog 39 #[x.val] W fun r w' => r = .returned (.bool qc) ∧ Below W.heap.size W w') (h40 : ∀ W, Calls Tryd.prog 40 #[x.val] W fun r w' => r = .returned (.bool qd) ∧ Below W.heap.size W w')
    (hTy : ∀ W, Below w.heap.size w W → Calls Tryd.prog 98 #[.agg #[.pointer (some ⟨b, 0, none⟩)]] W fun r w' => r = .returned (.string nmv) ∧ Below W.heap.size W w') (h42 : ∀ W, Calls Tryd.prog 42 #[x.val] W fun r w' => r = .returned (.string nmv) ∧ Below W.heap.size W w')
    (h41 : ∀ W, Calls Tryd.prog 41 #[.iface T (.agg #[.pointer (some ⟨b, 0, none⟩)])] W fun r w' => r = .returned (.agg #[.bool qa, .bool qb, .bool qc, .bool qd]) ∧ Below W.heap.size W w') (hNone : ∀ W, Below w.heap.size w W → Calls Tryd.prog 113 #[.agg #[.pointer (some ⟨b, 0, none⟩)]] W fun r w' => r = .returned (.bool (x.h.r0 == 0)) ∧ Below W.heap.size W w') (z : Int) (h26 : ∀ W, Below w.heap.size w W → Calls Tryd.prog 26 #[x.val] W fun r w' => r = .returned (.tuple #[.int .u64 z, .nilIface]) ∧ Below W.heap.size W w') (h99 : ∀ W, Below w.heap.size w W → Calls Tryd.prog 99 #[.agg #[.pointer (some ⟨b, 0, none⟩)]] W fun r w' => r = .returned (.int .u64 z) ∧ Below W.heap.size W w')
    (s87 : Says T 87 (.agg #[.pointer (some ⟨b, 0, none⟩)]) false) (s91 : Says T 91 (.agg #[.pointer (some ⟨b, 0, none⟩)]) true) (s94 : Says T 94 (.agg #[.pointer (some ⟨b, 0, none⟩)]) true) (mTy : Method T "Type" 98) (mNone : Method T "None" 113) (mHash : Method T "Hash" 99) :
    Calls Tryd.prog 19 #[.iface T (.agg #[.pointer (some ⟨b, 0, none⟩)]), x.val] w fun r w' => r = .returned (.bool true) ∧ Below w.heap.size w w' := by
  have H20 : Hid _ := h20
  have H38 : Hid _ := h38
  have H39 : Hid _ := h39
  have H40 : Hid _ := h40
  have HTy : Hid _ := hTy
  have H42 : Hid _ := h42
  have H41 : Hid _ := h41
  clear h20 h38 h39 h40 hTy h42 h41
  have HNone : Hid _ := hNone
  clear hNone
  have H26 : Hid _ := h26
  have H99 : Hid _ := h99
  clear h26 h99
  simp only [Says, if_true, if_false, Bool.false_eq_true] at s87 s91 s94
  have mT1 := mTy b
  have mN1 := mNone b
  have mH1 := mHash b
  clear mTy mNone mHash
  have HQ : ∀ W : World, (binOp .neq 84 (.agg #[.bool qa, .bool qb, .bool qc, .bool qd]) (.agg #[.bool qa, .bool qb, .bool qc, .bool qd])).run Tryd.prog W = .ok (.bool false) W := fun W => neq84 qa qb qc qd W
  obtain ⟨⟨k, t, a, f, s, r0, r1, r2, r3, pp, path, pc⟩, ip, ic, items⟩ := x
  simp only [MD.val, D] at *
  obtain ⟨W1, hW1⟩ : ∃ W1, W1 = w.alloc (.cells #[.int .i64 k, .string t, .int .i64 a, .int .u64 f, .string s, .int .i64 r0, .int .i64 r1, .int .i64 r2, .int .i64 r3, .slice pp path.length pc, .slice ip items.length ic] 28) := ⟨_, rfl⟩
  have HK : Hid (∀ W, Below W1.heap.size W1 W → Below w.heap.size w W ∧ ∀ j, W.cell? ⟨w.heap.size, j, none⟩ = (#[.int .i64 k, .string t, .int .i64 a, .int .u64 f, .string s, .int .i64 r0, .int .i64 r1, .int .i64 r2, .int .i64 r3, .slice pp path.length pc, .slice ip items.length ic] : Array Value)[j]?) := fun W hW => by
    rw [hW1] at hW
    exact ⟨(below1 _ _).trans (hW.mono (by simp)), fun j => row_at ((hW.block w.heap.size (by simp)).trans (heap_alloc_new _ _)) j⟩
  go_enter Tryd.func19, Tryd.ntmps19
  go_wp2_with fail
  rw [← hW1]
  clear hW1
  rename_i Q1 K1 hK1
  have tail : ∀ (g : Nat) (W : World), W1.heap.size ≤ g → W.heap[g]? = some (.cells #[.bool qa, .bool qb, .bool qc, .bool qd] 84 (0, 0)) → Below W1.heap.size W1 W → K1 { tmps := #[.iface T (.agg #[.pointer (some ⟨b, 0, none⟩)]), .agg #[.int .i64 k, .string t, .int .i64 a, .int .u64 f, .string s, .int .i64 r0, .int .i64 r1, .int .i64 r2, .int .i64 r3, .slice pp path.length pc, .slice ip items.length ic], undef, .pointer (some ⟨w.heap.size, 0, none⟩), .bool false, .pointer (some ⟨g, 0, none⟩), undef, undef, undef, undef, undef, undef, undef, undef, .agg #[.int .i64 k, .string t, .int .i64 a, .int .u64 f, .string s, .int .i64 r0, .int .i64 r1, .int .i64 r2, .int .i64 r3, .slice pp path.length pc, .slice ip items.length ic], .bool qa, .agg #[.int .i64 k, .string t, .int .i64 a, .int .u64 f, .string s, .int .i64 r0, .int .i64 r1, .int .i64 r2, .int .i64 r3, .slice pp path.length pc, .slice ip items.length ic], .bool qb, .agg #[.int .i64 k, .string t, .int .i64 a, .int .u64 f, .string s, .int .i64 r0, .int .i64 r1, .int .i64 r2, .int .i64 r3, .slice pp path.length pc, .slice ip items.length ic], .bool qc, .agg #[.int .i64 k, .string t, .int .i64 a, .int .u64 f, .string s, .int .i64 r0, .int .i64 r1, .int .i64 r2, .int .i64 r3, .slice pp path.length pc, .slice ip items.length ic], .bool qd, .agg #[.bool qa, .bool qb, .bool qc, .bool qd], undef, undef, undef, undef, undef, undef, undef, undef, undef, undef, undef, undef, undef, undef, undef, undef, undef, undef, undef, undef, undef, undef, undef, undef, undef, undef, undef, undef, undef, undef, undef, undef, undef, undef, undef, undef, undef, undef, undef, undef, undef, undef, undef, undef, undef, undef, undef, undef, undef, undef, undef, undef, undef, undef, undef, undef, undef, undef], defers := [] } W := by
    intro g v0 hg x0 y0
    have hc0 := (HK.out _ y0).2
    have hgc := row_at x0
    have hgl : g < v0.heap.size := (Array.getElem?_eq_some_iff.1 x0).1
    apply hK1
    go_wp2_with fail
    refine wp_region_noPanic ?_
    refine wp_region_held (S := fun W => (∀ q, W.cell? ⟨w.heap.size, q, none⟩ = (#[.int .i64 k, .string t, .int .i64 a, .int .u64 f, .string s, .int .i64 r0, .int .i64 r1, .int .i64 r2, .int .i64 r3, .slice pp path.length pc, .slice ip items.length ic] : Array Value)[q]?) ∧ ∀ q, W.cell? ⟨g, q, none⟩ = (#[.bool qa, .bool qb, .bool qc, .bool qd] : Array Value)[q]?) (by kernel_rfl) ?_
    obtain ⟨v1, hv1⟩ : ∃ v1, v1 = v0.drew := ⟨_, rfl⟩
    have e1 : ({ v0 with drawn := v0.drawn + 1 } : World) = v1 := hv1.symm
    rw [e1]
    have y1 : Below W1.heap.size W1 v1 := by rw [hv1]; exact y0.drew
    have x1 : v1.heap[g]? = some (.cells #[.bool qa, .bool qb, .bool qc, .bool qd] 84 (0, 0)) := by rw [hv1]; exact x0
    have hS : (∀ q, v1.cell? ⟨w.heap.size, q, none⟩ = (#[.int .i64 k, .string t, .int .i64 a, .int .u64 f, .string s, .int .i64 r0, .int .i64 r1, .int .i64 r2, .int .i64 r3, .slice pp path.length pc, .slice ip items.length ic] : Array Value)[q]?) ∧ ∀ q, v1.cell? ⟨g, q, none⟩ = (#[.bool qa, .bool qb, .bool qc, .bool qd] : Array Value)[q]? := ⟨(HK.out _ y1).2, row_at x1⟩
    clear e1 hv1
    refine wpAnyH_take (i := 0) (v := .iface T (.agg #[.pointer (some ⟨b, 0, none⟩)])) rfl (by kernel_rfl) (by kernel_rfl) (by kernel_rfl) (fun _ _ _ h => h) (Or.inl ⟨by rfl, ?r⟩) hS ?_
    case r => intro W hW; simp [go_sem, execOp, Act.eval]
    simp only [List.getElem_toArray, List.getElem_cons_zero, Act.put, List.setIfInBounds_toArray, List.set_cons_succ, List.set_cons_zero]
    refine wpAnyH_take (i := 2) (v := .agg #[.bool qa, .bool qb, .bool qc, .bool qd]) rfl (by kernel_rfl) (by kernel_rfl) (by kernel_rfl) (fun _ _ _ h => h) (Or.inl ⟨by rfl, ?r⟩) hS ?_
    case r => intro W hW; simp [go_sem, execOp, Act.eval, hW.2]
    simp only [List.getElem_toArray, List.getElem_cons_zero, List.getElem_cons_succ, Act.put, List.setIfInBounds_toArray, List.set_cons_succ, List.set_cons_zero]
    refine wpAnyH_all (rs := [1]) (by kernel_rfl) (by simp) (fun i1 hi1 => ?_)
    obtain rfl : i1 = 1 := by simpa using hi1
    clear hi1
    refine wpOp_step rfl (fun K hK => ite_yes rfl ?_)
    simp only [List.getElem_toArray, List.getElem_cons_zero, List.getElem_cons_succ]
    go_simp
    refine (H41.out _).mono ?_
    rintro e v2 ⟨rfl, b2⟩
    have y2 : Below W1.heap.size W1 v2 := y1.trans (b2.mono y1.size)
    have x2 : v2.heap[g]? = some (.cells #[.bool qa, .bool qb, .bool qc, .bool qd] 84 (0, 0)) := (b2.block g (Array.getElem?_eq_some_iff.1 x1).1).trans x1
    go_simp
    refine hK _ _ ⟨⟨(HK.out _ y2).2, row_at x2⟩, ?_⟩
    clear hK K hS
    have hS : (∀ q, v2.cell? ⟨w.heap.size, q, none⟩ = _) ∧ ∀ q, v2.cell? ⟨g, q, none⟩ = _ := ⟨(HK.out _ y2).2, row_at x2⟩
    refine wpAnyH_take (i := 3) (v := .bool false) rfl (by kernel_rfl) (by kernel_rfl) (by kernel_rfl) (fun _ _ _ h => h) (Or.inl ⟨by rfl, ?r⟩) hS ?_
    case r => intro W hW; simp [go_sem, execOp, Act.eval, HQ]
    simp only [List.getElem_toArray, List.getElem_cons_zero, List.getElem_cons_succ, Act.put, List.setIfInBounds_toArray, List.set_cons_succ, List.set_cons_zero]
    refine wpAnyH_take (i := 4) (v := .bool false) rfl (by kernel_rfl) (by kernel_rfl) (by kernel_rfl) (fun _ _ _ h => h) (Or.inl ⟨by rfl, ?r⟩) hS ?_
    case r => intro W hW; simp [go_sem, execOp, Act.eval]
    simp only [List.getElem_toArray, List.getElem_cons_zero, List.getElem_cons_succ, Act.put, List.setIfInBounds_toArray, List.set_cons_succ, List.set_cons_zero]
    refine wpAnyH_take (i := 5) (v := .iface T (.agg #[.pointer (some ⟨b, 0, none⟩)])) rfl (by kernel_rfl) (by kernel_rfl) (by kernel_rfl) (fun _ _ _ h => h) (Or.inl ⟨by rfl, ?r⟩) hS ?_
    case r => intro W hW; simp [go_sem, execOp, Act.eval]
    simp only [List.getElem_toArray, List.getElem_cons_zero, List.getElem_cons_succ, Act.put, List.setIfInBounds_toArray, List.set_cons_succ, List.set_cons_zero]
    refine wpAnyH_take (i := 7) (v := .agg #[.int .i64 k, .string t, .int .i64 a, .int .u64 f, .string s, .int .i64 r0, .int .i64 r1, .int .i64 r2, .int .i64 r3, .slice pp path.length pc, .slice ip items.length ic]) rfl (by kernel_rfl) (by kernel_rfl) (by kernel_rfl) (fun _ _ _ h => h) (Or.inl ⟨by rfl, ?r⟩) hS ?_
    case r => intro W hW; simp [go_sem, execOp, Act.eval, hW.1]
    simp only [List.getElem_toArray, List.getElem_cons_zero, List.getElem_cons_succ, Act.put, List.setIfInBounds_toArray, List.set_cons_succ, List.set_cons_zero]
    refine wpAnyH_all (rs := [6]) (by kernel_rfl) (by simp) (fun i1 hi1 => ?_)
    obtain rfl : i1 = 6 := by simpa using hi1
    clear hi1
    refine wpOp_step rfl (fun K hK => ite_yes rfl ?_)
    simp only [List.getElem_toArray, List.getElem_cons_zero, List.getElem_cons_succ]
    go_simp
    refine (HTy.out _ (HK.out _ y2).1).mono ?_
    rintro e v3 ⟨rfl, b3⟩
    have y3 : Below W1.heap.size W1 v3 := y2.trans (b3.mono y2.size)
    have x3 : v3.heap[g]? = some (.cells #[.bool qa, .bool qb, .bool qc, .bool qd] 84 (0, 0)) := (b3.block g (Array.getElem?_eq_some_iff.1 x2).1).trans x2
    go_simp
    refine hK _ _ ⟨⟨(HK.out _ y3).2, row_at x3⟩, ?_⟩
    clear hK K hS
    have hS : (∀ q, v3.cell? ⟨w.heap.size, q, none⟩ = _) ∧ ∀ q, v3.cell? ⟨g, q, none⟩ = _ := ⟨(HK.out _ y3).2, row_at x3⟩
    refine wpAnyH_all (rs := [8]) (by kernel_rfl) (by simp) (fun i1 hi1 => ?_)
    obtain rfl : i1 = 8 := by simpa using hi1
    clear hi1
    refine wpOp_step rfl (fun K hK => ite_yes rfl ?_)
    simp only [List.getElem_toArray, List.getElem_cons_zero, List.getElem_cons_succ]
    go_simp
    refine (H42.out _).mono ?_
    rintro e v4 ⟨rfl, b4⟩
    have y4 : Below W1.heap.size W1 v4 := y3.trans (b4.mono y3.size)
    have x4 : v4.heap[g]? = some (.cells #[.bool qa, .bool qb, .bool qc, .bool qd] 84 (0, 0)) := (b4.block g (Array.getElem?_eq_some_iff.1 x3).1).trans x3
    go_simp
    refine hK _ _ ⟨⟨(HK.out _ y4).2, row_at x4⟩, ?_⟩
    clear hK K hS
    have hS : (∀ q, v4.cell? ⟨w.heap.size, q, none⟩ = _) ∧ ∀ q, v4.cell? ⟨g, q, none⟩ = _ := ⟨(HK.out _ y4).2, row_at x4⟩
    refine wpAnyH_take (i := 9) (v := .bool false) rfl (by kernel_rfl) (by kernel_rfl) (by kernel_rfl) (fun _ _ _ h => h) (Or.inl ⟨by rfl, ?r⟩) hS ?_
    case r => intro W hW; simp [go_sem, execOp, Act.eval]
    simp only [List.getElem_toArray, List.getElem_cons_zero, List.getElem_cons_succ, Act.put, List.setIfInBounds_toArray, List.set_cons_succ, List.set_cons_zero]
    refine wpAnyH_take (i := 10) (v := .bool false) rfl (by kernel_rfl) (by kernel_rfl) (by kernel_rfl) (fun _ _ _ h => h) (Or.inl ⟨by rfl, ?r⟩) hS ?_
    case r => intro W hW; simp [go_sem, execOp, Act.eval]
    simp only [List.getElem_toArray, List.getElem_cons_zero, List.getElem_cons_succ, Act.put, List.setIfInBounds_toArray, List.set_cons_succ, List.set_cons_zero]
    refine wpAnyH_done (by kernel_rfl) ?_ _
    refine NoPanic.normal ?_
    try simp only [Act.put]
    have hc4 := (HK.out _ y4).2
    have hg4 := row_at x4
    clear hS
    go_wp2_with fail
    refine wp_region_noPanic ?_
    refine wp_region_held (S := fun W => (∀ q, W.cell? ⟨w.heap.size, q, none⟩ = (#[.int .i64 k, .string t, .int .i64 a, .int .u64 f, .string s, .int .i64 r0, .int .i64 r1, .int .i64 r2, .int .i64 r3, .slice pp path.length pc, .slice ip items.length ic] : Array Value)[q]?) ∧ ∀ q, W.cell? ⟨g, q, none⟩ = (#[.bool qa, .bool qb, .bool qc, .bool qd] : Array Value)[q]?) (by kernel_rfl) ?_
    obtain ⟨v5, hv5⟩ : ∃ v5, v5 = v4.drew := ⟨_, rfl⟩
    have e5 : ({ v4 with drawn := v4.drawn + 1 } : World) = v5 := hv5.symm
    rw [e5]
    have y5 : Below W1.heap.size W1 v5 := by rw [hv5]; exact y4.drew
    have x5 : v5.heap[g]? = some (.cells #[.bool qa, .bool qb, .bool qc, .bool qd] 84 (0, 0)) := by rw [hv5]; exact x4
    have hS : (∀ q, v5.cell? ⟨w.heap.size, q, none⟩ = (#[.int .i64 k, .string t, .int .i64 a, .int .u64 f, .string s, .int .i64 r0, .int .i64 r1, .int .i64 r2, .int .i64 r3, .slice pp path.length pc, .slice ip items.length ic] : Array Value)[q]?) ∧ ∀ q, v5.cell? ⟨g, q, none⟩ = (#[.bool qa, .bool qb, .bool qc, .bool qd] : Array Value)[q]? := ⟨(HK.out _ y5).2, row_at x5⟩
    clear e5 hv5
    refine wpAnyH_take (i := 0) (v := .bool false) rfl (by kernel_rfl) (by kernel_rfl) (by kernel_rfl) (fun _ _ _ h => h) (Or.inl ⟨by rfl, ?r⟩) hS ?_
    case r => intro W hW; simp [go_sem, execOp, Act.eval]
    simp only [List.getElem_toArray, List.getElem_cons_zero, Act.put, List.setIfInBounds_toArray, List.set_cons_succ, List.set_cons_zero]
    refine wpAnyH_take (i := 1) (v := .bool false) rfl (by kernel_rfl) (by kernel_rfl) (by kernel_rfl) (fun _ _ _ h => h) (Or.inl ⟨by rfl, ?r⟩) hS ?_
    case r => intro W hW; simp [go_sem, execOp, Act.eval]
    simp only [List.getElem_toArray, List.getElem_cons_zero, List.getElem_cons_succ, Act.put, List.setIfInBounds_toArray, List.set_cons_succ, List.set_cons_zero]
    refine wpAnyH_take (i := 2) (v := undef) rfl (by kernel_rfl) (by kernel_rfl) (by kernel_rfl) (fun _ _ _ h => h) (Or.inr ⟨by rfl, rfl⟩) hS ?_
    simp only [List.getElem_toArray, List.getElem_cons_zero, List.getElem_cons_succ, Act.put, List.setIfInBounds_toArray, List.set_cons_succ, List.set_cons_zero]
    refine wpAnyH_take (i := 3) (v := undef) rfl (by kernel_rfl) (by kernel_rfl) (by kernel_rfl) (fun _ _ _ h => h) (Or.inr ⟨by rfl, rfl⟩) hS ?_
    simp only [List.getElem_toArray, List.getElem_cons_zero, List.getElem_cons_succ, Act.put, List.setIfInBounds_toArray, List.set_cons_succ, List.set_cons_zero]
    refine wpAnyH_take (i := 4) (v := undef) rfl (by kernel_rfl) (by kernel_rfl) (by kernel_rfl) (fun _ _ _ h => h) (Or.inr ⟨by rfl, rfl⟩) hS ?_
    simp only [List.getElem_toArray, List.getElem_cons_zero, List.getElem_cons_succ, Act.put, List.setIfInBounds_toArray, List.set_cons_succ, List.set_cons_zero]
    refine wpAnyH_take (i := 5) (v := undef) rfl (by kernel_rfl) (by kernel_rfl) (by kernel_rfl) (fun _ _ _ h => h) (Or.inr ⟨by rfl, rfl⟩) hS ?_
    simp only [List.getElem_toArray, List.getElem_cons_zero, List.getElem_cons_succ, Act.put, List.setIfInBounds_toArray, List.set_cons_succ, List.set_cons_zero]
    refine wpAnyH_take (i := 6) (v := undef) rfl (by kernel_rfl) (by kernel_rfl) (by kernel_rfl) (fun _ _ _ h => h) (Or.inr ⟨by rfl, rfl⟩) hS ?_
    simp only [List.getElem_toArray, List.getElem_cons_zero, List.getElem_cons_succ, Act.put, List.setIfInBounds_toArray, List.set_cons_succ, List.set_cons_zero]
    refine wpAnyH_take (i := 7) (v := .bool false) rfl (by kernel_rfl) (by kernel_rfl) (by kernel_rfl) (fun _ _ _ h => h) (Or.inl ⟨by rfl, ?r⟩) hS ?_
    case r => intro W hW; simp [go_sem, execOp, Act.eval]
    simp only [List.getElem_toArray, List.getElem_cons_zero, List.getElem_cons_succ, Act.put, List.setIfInBounds_toArray, List.set_cons_succ, List.set_cons_zero]
    refine wpAnyH_done (by kernel_rfl) ?_ _
    refine NoPanic.normal ?_
    try simp only [Act.put]
    have hc8 := (HK.out _ y5).2
    clear hS
    go_wp2_with fail
    refine wp_region_noPanic ?_
    refine wp_region_held (S := fun W => (∀ q, W.cell? ⟨w.heap.size, q, none⟩ = (#[.int .i64 k, .string t, .int .i64 a, .int .u64 f, .string s, .int .i64 r0, .int .i64 r1, .int .i64 r2, .int .i64 r3, .slice pp path.length pc, .slice ip items.length ic] : Array Value)[q]?) ∧ ∀ q, W.cell? ⟨g, q, none⟩ = (#[.bool qa, .bool qb, .bool qc, .bool qd] : Array Value)[q]?) (by kernel_rfl) ?_
    obtain ⟨v8, hv8⟩ : ∃ v8, v8 = v5.drew := ⟨_, rfl⟩
    have e8 : ({ v5 with drawn := v5.drawn + 1 } : World) = v8 := hv8.symm
    rw [e8]
    have y8 : Below W1.heap.size W1 v8 := by rw [hv8]; exact y5.drew
    have x8 : v8.heap[g]? = some (.cells #[.bool qa, .bool qb, .bool qc, .bool qd] 84 (0, 0)) := by rw [hv8]; exact x5
    have hS : (∀ q, v8.cell? ⟨w.heap.size, q, none⟩ = (#[.int .i64 k, .string t, .int .i64 a, .int .u64 f, .string s, .int .i64 r0, .int .i64 r1, .int .i64 r2, .int .i64 r3, .slice pp path.length pc, .slice ip items.length ic] : Array Value)[q]?) ∧ ∀ q, v8.cell? ⟨g, q, none⟩ = (#[.bool qa, .bool qb, .bool qc, .bool qd] : Array Value)[q]? := ⟨(HK.out _ y8).2, row_at x8⟩
    clear e8 hv8
    refine wpAnyH_take (i := 0) (v := .bool true) rfl (by kernel_rfl) (by kernel_rfl) (by kernel_rfl) (fun _ _ _ h => h) (Or.inl ⟨by rfl, ?r⟩) hS ?_
    case r => intro W hW; simp [go_sem, execOp, Act.eval]
    simp only [List.getElem_toArray, List.getElem_cons_zero, Act.put, List.setIfInBounds_toArray, List.set_cons_succ, List.set_cons_zero]
    refine wpAnyH_take (i := 1) (v := .bool true) rfl (by kernel_rfl) (by kernel_rfl) (by kernel_rfl) (fun _ _ _ h => h) (Or.inl ⟨by rfl, ?r⟩) hS ?_
    case r => intro W hW; simp [go_sem, execOp, Act.eval]
    simp only [List.getElem_toArray, List.getElem_cons_zero, List.getElem_cons_succ, Act.put, List.setIfInBounds_toArray, List.set_cons_succ, List.set_cons_zero]
    refine wpAnyH_take (i := 2) (v := .iface T (.agg #[.pointer (some ⟨b, 0, none⟩)])) rfl (by kernel_rfl) (by kernel_rfl) (by kernel_rfl) (fun _ _ _ h => h) (Or.inl ⟨by rfl, ?r⟩) hS ?_
    case r => intro W hW; simp [go_sem, execOp, Act.eval]
    simp only [List.getElem_toArray, List.getElem_cons_zero, List.getElem_cons_succ, Act.put, List.setIfInBounds_toArray, List.set_cons_succ, List.set_cons_zero]
    refine wpAnyH_take (i := 4) (v := .pointer (some ⟨w.heap.size, 5, none⟩)) rfl (by kernel_rfl) (by kernel_rfl) (by kernel_rfl) (fun _ _ _ h => h) (Or.inl ⟨by rfl, ?r⟩) hS ?_
    case r => intro W hW; simp [go_sem, execOp, Act.eval]
    simp only [List.getElem_toArray, List.getElem_cons_zero, List.getElem_cons_succ, Act.put, List.setIfInBounds_toArray, List.set_cons_succ, List.set_cons_zero]
    refine wpAnyH_take (i := 5) (v := .pointer (some ⟨w.heap.size, 5, none⟩)) rfl (by kernel_rfl) (by kernel_rfl) (by kernel_rfl) (fun _ _ _ h => h) (Or.inl ⟨by rfl, ?r⟩) hS ?_
    case r => intro W hW; simp [go_sem, execOp, Act.eval]
    simp only [List.getElem_toArray, List.getElem_cons_zero, List.getElem_cons_succ, Act.put, List.setIfInBounds_toArray, List.set_cons_succ, List.set_cons_zero]
    refine wpAnyH_take (i := 6) (v := .int .i64 r0) rfl (by kernel_rfl) (by kernel_rfl) (by kernel_rfl) (fun _ _ _ h => h) (Or.inl ⟨by rfl, ?r⟩) hS ?_
    case r => intro W hW; simp [go_sem, execOp, Act.eval, hW.1]
    simp only [List.getElem_toArray, List.getElem_cons_zero, List.getElem_cons_succ, Act.put, List.setIfInBounds_toArray, List.set_cons_succ, List.set_cons_zero]
    refine wpAnyH_take (i := 7) (v := .bool (r0 == 0)) rfl (by kernel_rfl) (by kernel_rfl) (by kernel_rfl) (fun _ _ _ h => h) (Or.inl ⟨by rfl, ?r⟩) hS ?_
    case r => intro W hW; simp [go_sem, execOp, Act.eval]
    simp only [List.getElem_toArray, List.getElem_cons_zero, List.getElem_cons_succ, Act.put, List.setIfInBounds_toArray, List.set_cons_succ, List.set_cons_zero]
    refine wpAnyH_all (rs := [3]) (by kernel_rfl) (by simp) (fun i1 hi1 => ?_)
    obtain rfl : i1 = 3 := by simpa using hi1
    clear hi1
    refine wpOp_step rfl (fun K hK => ite_yes rfl ?_)
    simp only [List.getElem_toArray, List.getElem_cons_zero, List.getElem_cons_succ]
    go_simp
    refine (HNone.out _ (HK.out _ y8).1).mono ?_
    rintro e v9 ⟨rfl, b9⟩
    have y9 : Below W1.heap.size W1 v9 := y8.trans (b9.mono y8.size)
    have x9 : v9.heap[g]? = some (.cells #[.bool qa, .bool qb, .bool qc, .bool qd] 84 (0, 0)) := (b9.block g (Array.getElem?_eq_some_iff.1 x8).1).trans x8
    go_simp
    refine hK _ _ ⟨⟨(HK.out _ y9).2, row_at x9⟩, ?_⟩
    clear hK K hS
    have hS : (∀ q, v9.cell? ⟨w.heap.size, q, none⟩ = _) ∧ ∀ q, v9.cell? ⟨g, q, none⟩ = _ := ⟨(HK.out _ y9).2, row_at x9⟩
    refine wpAnyH_take (i := 8) (v := .bool false) rfl (by kernel_rfl) (by kernel_rfl) (by kernel_rfl) (fun _ _ _ h => h) (Or.inl ⟨by rfl, ?r⟩) hS ?_
    case r => intro W hW; simp [go_sem, execOp, Act.eval, neqB]
    simp only [List.getElem_toArray, List.getElem_cons_zero, List.getElem_cons_succ, Act.put, List.setIfInBounds_toArray, List.set_cons_succ, List.set_cons_zero]
    refine wpAnyH_take (i := 9) (v := .bool false) rfl (by kernel_rfl) (by kernel_rfl) (by kernel_rfl) (fun _ _ _ h => h) (Or.inl ⟨by rfl, ?r⟩) hS ?_
    case r => intro W hW; simp [go_sem, execOp, Act.eval]
    simp only [List.getElem_toArray, List.getElem_cons_zero, List.getElem_cons_succ, Act.put, List.setIfInBounds_toArray, List.set_cons_succ, List.set_cons_zero]
    refine wpAnyH_done (by kernel_rfl) ?_ _
    refine NoPanic.normal ?_
    try simp only [Act.put]
    have hc10 := (HK.out _ y9).2
    clear hS
    go_wp2_with fail
    refine (H26.out _ (HK.out _ y9).1).mono ?_
    rintro r v10 ⟨rfl, b10⟩
    have y10 : Below W1.heap.size W1 v10 := y9.trans (b10.mono y9.size)
    have hc11 := (HK.out _ y10).2
    clear b10
    go_wp2_with (go_at_call 99; refine (H99.out _ (HK.out _ y10).1).mono ?_; rintro r v11 ⟨rfl, b11⟩; have y11 : Below W1.heap.size W1 v11 := y10.trans (b11.mono y10.size); clear b11)
    go_ret
    exact ⟨rfl, (HK.out _ y11).1⟩
  refine wp_region_noPanic ?_
  refine wp_region_held (S := fun W => ∀ j, W.cell? ⟨w.heap.size, j, none⟩ = (#[.int .i64 k, .string t, .int .i64 a, .int .u64 f, .string s, .int .i64 r0, .int .i64 r1, .int .i64 r2, .int .i64 r3, .slice pp path.length pc, .slice ip items.length ic] : Array Value)[j]?) (by kernel_rfl) ?_
  obtain ⟨W4, hW4⟩ : ∃ W4, W4 = W1.drew := ⟨_, rfl⟩
  have e4 : ({ W1 with drawn := W1.drawn + 1 } : World) = W4 := hW4.symm
  rw [e4]
  have p0 : Below W1.heap.size W1 W4 := by rw [hW4]; exact (Below.refl _ _).drew
  have hS := (HK.out _ p0).2
  clear e4 hW4
  refine wpAnyH_take (i := 0) (v := .agg #[.int .i64 k, .string t, .int .i64 a, .int .u64 f, .string s, .int .i64 r0, .int .i64 r1, .int .i64 r2, .int .i64 r3, .slice pp path.length pc, .slice ip items.length ic]) rfl (by kernel_rfl) (by kernel_rfl) (by kernel_rfl) (fun _ _ _ h => h) (Or.inl ⟨by rfl, ?r⟩) hS ?_
  case r => intro W hW; simp [go_sem, execOp, Act.eval, hW]
  simp only [List.getElem_toArray, List.getElem_cons_zero, Act.put, List.setIfInBounds_toArray, List.set_cons_succ, List.set_cons_zero]
  refine wpAnyH_take (i := 2) (v := .agg #[.int .i64 k, .string t, .int .i64 a, .int .u64 f, .string s, .int .i64 r0, .int .i64 r1, .int .i64 r2, .int .i64 r3, .slice pp path.length pc, .slice ip items.length ic]) rfl (by kernel_rfl) (by kernel_rfl) (by kernel_rfl) (fun _ _ _ h => h) (Or.inl ⟨by rfl, ?r⟩) hS ?_
  case r => intro W hW; simp [go_sem, execOp, Act.eval, hW]
  simp only [List.getElem_toArray, List.getElem_cons_zero, List.getElem_cons_succ, Act.put, List.setIfInBounds_toArray, List.set_cons_succ, List.set_cons_zero]
  refine wpAnyH_take (i := 4) (v := .agg #[.int .i64 k, .string t, .int .i64 a, .int .u64 f, .string s, .int .i64 r0, .int .i64 r1, .int .i64 r2, .int .i64 r3, .slice pp path.length pc, .slice ip items.length ic]) rfl (by kernel_rfl) (by kernel_rfl) (by kernel_rfl) (fun _ _ _ h => h) (Or.inl ⟨by rfl, ?r⟩) hS ?_
  case r => intro W hW; simp [go_sem, execOp, Act.eval, hW]
  simp only [List.getElem_toArray, List.getElem_cons_zero, List.getElem_cons_succ, Act.put, List.setIfInBounds_toArray, List.set_cons_succ, List.set_cons_zero]
  refine wpAnyH_take (i := 6) (v := .agg #[.int .i64 k, .string t, .int .i64 a, .int .u64 f, .string s, .int .i64 r0, .int .i64 r1, .int .i64 r2, .int .i64 r3, .slice pp path.length pc, .slice ip items.length ic]) rfl (by kernel_rfl) (by kernel_rfl) (by kernel_rfl) (fun _ _ _ h => h) (Or.inl ⟨by rfl, ?r⟩) hS ?_
  case r => intro W hW; simp [go_sem, execOp, Act.eval, hW]
  simp only [List.getElem_toArray, List.getElem_cons_zero, List.getElem_cons_succ, Act.put, List.setIfInBounds_toArray, List.set_cons_succ, List.set_cons_zero]
  refine wpAnyH_all (rs := [1, 9]) (by kernel_rfl) (by simp) (fun i1 hi1 => ?_)
  obtain rfl | rfl : i1 = 1 ∨ i1 = 9 := by simpa using hi1
  · clear hi1
    refine wpOp_step rfl (fun K hK => ite_yes rfl ?_)
    simp only [List.getElem_toArray, List.getElem_cons_zero, List.getElem_cons_succ]
    go_simp
    refine (H20.out _).mono ?_
    rintro e u1 ⟨rfl, b1⟩
    have p1 : Below W1.heap.size W1 u1 := p0.trans (b1.mono p0.size)
    go_simp
    refine hK _ _ ⟨(HK.out _ p1).2, ?_⟩
    clear hK K hS
    have hS := (HK.out _ p1).2
    refine wpAnyH_all (rs := [3, 9]) (by kernel_rfl) (by simp) (fun i1 hi1 => ?_)
    obtain rfl | rfl : i1 = 3 ∨ i1 = 9 := by simpa using hi1
    · clear hi1
      refine wpOp_step rfl (fun K hK => ite_yes rfl ?_)
      simp only [List.getElem_toArray, List.getElem_cons_zero, List.getElem_cons_succ]
      go_simp
      refine (H38.out _).mono ?_
      rintro e u2 ⟨rfl, b2⟩
      have p2 : Below W1.heap.size W1 u2 := p1.trans (b2.mono p1.size)
      go_simp
      refine hK _ _ ⟨(HK.out _ p2).2, ?_⟩
      clear hK K hS
      have hS := (HK.out _ p2).2
      refine wpAnyH_all (rs := [5, 9]) (by kernel_rfl) (by simp) (fun i1 hi1 => ?_)
      obtain rfl | rfl : i1 = 5 ∨ i1 = 9 := by simpa using hi1
      · clear hi1
        refine wpOp_step rfl (fun K hK => ite_yes rfl ?_)
        simp only [List.getElem_toArray, List.getElem_cons_zero, List.getElem_cons_succ]
        go_simp
        refine (H39.out _ (HK.out _ p2).1).mono ?_
        rintro e u3 ⟨rfl, b3⟩
        have p3 : Below W1.heap.size W1 u3 := p2.trans (b3.mono p2.size)
        go_simp
        refine hK _ _ ⟨(HK.out _ p3).2, ?_⟩
        clear hK K hS
        have hS := (HK.out _ p3).2
        refine wpAnyH_all (rs := [7, 9]) (by kernel_rfl) (by simp) (fun i1 hi1 => ?_)
        obtain rfl | rfl : i1 = 7 ∨ i1 = 9 := by simpa using hi1
        · clear hi1
          refine wpOp_step rfl (fun K hK => ite_yes rfl ?_)
          simp only [List.getElem_toArray, List.getElem_cons_zero, List.getElem_cons_succ]
          go_simp
          refine (H40.out _).mono ?_
          rintro e u4 ⟨rfl, b4⟩
          have p4 : Below W1.heap.size W1 u4 := p3.trans (b4.mono p3.size)
          go_simp
          refine hK _ _ ⟨(HK.out _ p4).2, ?_⟩
          clear hK K hS
          have hS := (HK.out _ p4).2
          refine wpAnyH_take (i := 8) (v := .agg #[.bool qa, .bool qb, .bool qc, .bool qd]) rfl (by kernel_rfl) (by kernel_rfl) (by kernel_rfl) (fun _ _ _ h => h) (Or.inl ⟨by rfl, ?r⟩) hS ?_
          case r => intro W hW; simp [go_sem, execOp, Act.eval]
          simp only [List.getElem_toArray, List.getElem_cons_zero, List.getElem_cons_succ, Act.put, List.setIfInBounds_toArray, List.set_cons_succ, List.set_cons_zero]
          refine wpAnyH_all (rs := [9]) (by kernel_rfl) (by simp) (fun i1 hi1 => ?_)
          obtain rfl : i1 = 9 := by simpa using hi1
          clear hi1
          refine wpOp_step rfl (fun K hK => ite_yes rfl ?_)
          simp only [List.getElem_toArray, List.getElem_cons_zero, List.getElem_cons_succ]
          go_simp
          have p5 : Below W1.heap.size W1 (u4.alloc (.cells #[.bool false, .bool false, .bool false, .bool false] 84)) := p4.alloc p4.size _
          have g5 : (u4.alloc (.cells #[.bool false, .bool false, .bool false, .bool false] 84)).heap[u4.heap.size]? = some (.cells #[.bool false, .bool false, .bool false, .bool false] 84 (0, 0)) := heap_alloc_new _ _
          have l5 : W1.heap.size ≤ u4.heap.size := p4.size
          refine hK _ _ ⟨(HK.out _ p5).2, ?_⟩
          clear hK K hS
          have hS := (HK.out _ p5).2
          refine wpAnyH_all (rs := [10]) (by kernel_rfl) (by simp) (fun i1 hi1 => ?_)
          obtain rfl : i1 = 10 := by simpa using hi1
          clear hi1
          refine wpOp_step rfl (fun K hK => ite_yes rfl ?_)
          simp only [List.getElem_toArray, List.getElem_cons_zero, List.getElem_cons_succ]
          have cc6 := row_at g5
          have cf6 := fun j => fz _ _ _ _ j g5
          refine wp_store_row 84 _ _ rfl (u4.heap.size) #[.bool qa, .bool qb, .bool qc, .bool qd] rfl rfl 84 #[.bool false, .bool false, .bool false, .bool false] g5 (by kernel_rfl) (by kernel_rfl) (one84 _ _ _ _) ?_
          have p6 : Below W1.heap.size W1 ((u4.alloc (.cells #[.bool false, .bool false, .bool false, .bool false] 84)).setRow (u4.heap.size) #[.bool qa, .bool qb, .bool qc, .bool qd]) := brow p5 l5 _
          refine hK _ _ ⟨(HK.out _ p6).2, ?_⟩
          clear hK K
          refine wpAnyH_done (by kernel_rfl) ?_ _
          refine NoPanic.normal ?_
          try simp only [Act.put]
          exact tail _ _ l5 (setRow_heap _ _ #[.bool false, .bool false, .bool false, .bool false] _ 84 (0, 0) g5) p6
        · clear hi1
          refine wpOp_step rfl (fun K hK => ite_yes rfl ?_)
          simp only [List.getElem_toArray, List.getElem_cons_zero, List.getElem_cons_succ]
          go_simp
          have p7 : Below W1.heap.size W1 (u3.alloc (.cells #[.bool false, .bool false, .bool false, .bool false] 84)) := p3.alloc p3.size _
          have g7 : (u3.alloc (.cells #[.bool false, .bool false, .bool false, .bool false] 84)).heap[u3.heap.size]? = some (.cells #[.bool false, .bool false, .bool false, .bool false] 84 (0, 0)) := heap_alloc_new _ _
          have l7 : W1.heap.size ≤ u3.heap.size := p3.size
          refine hK _ _ ⟨(HK.out _ p7).2, ?_⟩
          clear hK K hS
          have hS := (HK.out _ p7).2
          refine wpAnyH_all (rs := [7]) (by kernel_rfl) (by simp) (fun i1 hi1 => ?_)
          obtain rfl : i1 = 7 := by simpa using hi1
          clear hi1
          refine wpOp_step rfl (fun K hK => ite_yes rfl ?_)
          simp only [List.getElem_toArray, List.getElem_cons_zero, List.getElem_cons_succ]
          go_simp
          refine (H40.out _).mono ?_
          rintro e u8 ⟨rfl, b8⟩
          have p8 : Below W1.heap.size W1 u8 := p7.trans (b8.mono p7.size)
          have g8 : u8.heap[u3.heap.size]? = some (.cells #[.bool false, .bool false, .bool false, .bool false] 84 (0, 0)) := (b8.block _ (Array.getElem?_eq_some_iff.1 g7).1).trans g7
          go_simp
          refine hK _ _ ⟨(HK.out _ p8).2, ?_⟩
          clear hK K hS
          have hS := (HK.out _ p8).2
          refine wpAnyH_take (i := 8) (v := .agg #[.bool qa, .bool qb, .bool qc, .bool qd]) rfl (by kernel_rfl) (by kernel_rfl) (by kernel_rfl) (fun _ _ _ h => h) (Or.inl ⟨by rfl, ?r⟩) hS ?_
          case r => intro W hW; simp [go_sem, execOp, Act.eval]
          simp only [List.getElem_toArray, List.getElem_cons_zero, List.getElem_cons_succ, Act.put, List.setIfInBounds_toArray, List.set_cons_succ, List.set_cons_zero]
          refine wpAnyH_all (rs := [10]) (by kernel_rfl) (by simp) (fun i1 hi1 => ?_)
          obtain rfl : i1 = 10 := by simpa using hi1
          clear hi1
          refine wpOp_step rfl (fun K hK => ite_yes rfl ?_)
          simp only [List.getElem_toArray, List.getElem_cons_zero, List.getElem_cons_succ]
          have cc9 := row_at g8
          have cf9 := fun j => fz _ _ _ _ j g8
          refine wp_store_row 84 _ _ rfl (u3.heap.size) #[.bool qa, .bool qb, .bool qc, .bool qd] rfl rfl 84 #[.bool false, .bool false, .bool false, .bool false] g8 (by kernel_rfl) (by kernel_rfl) (one84 _ _ _ _) ?_
          have p9 : Below W1.heap.size W1 (u8.setRow (u3.heap.size) #[.bool qa, .bool qb, .bool qc, .bool qd]) := brow p8 l7 _
          refine hK _ _ ⟨(HK.out _ p9).2, ?_⟩
          clear hK K
          refine wpAnyH_done (by kernel_rfl) ?_ _
          refine NoPanic.normal ?_
          try simp only [Act.put]
          exact tail _ _ l7 (setRow_heap _ _ #[.bool false, .bool false, .bool false, .bool false] _ 84 (0, 0) g8) p9
      · clear hi1
        refine wpOp_step rfl (fun K hK => ite_yes rfl ?_)
        simp only [List.getElem_toArray, List.getElem_cons_zero, List.getElem_cons_succ]
        go_simp
        have p10 : Below W1.heap.size W1 (u2.alloc (.cells #[.bool false, .bool false, .bool false, .bool false] 84)) := p2.alloc p2.size _
        have g10 : (u2.alloc (.cells #[.bool false, .bool false, .bool false, .bool false] 84)).heap[u2.heap.size]? = some (.cells #[.bool false, .bool false, .bool false, .bool false] 84 (0, 0)) := heap_alloc_new _ _
        have l10 : W1.heap.size ≤ u2.heap.size := p2.size
        refine hK _ _ ⟨(HK.out _ p10).2, ?_⟩
        clear hK K hS
        have hS := (HK.out _ p10).2
        refine wpAnyH_all (rs := [5]) (by kernel_rfl) (by simp) (fun i1 hi1 => ?_)
        obtain rfl : i1 = 5 := by simpa using hi1
        clear hi1
        refine wpOp_step rfl (fun K hK => ite_yes rfl ?_)
        simp only [List.getElem_toArray, List.getElem_cons_zero, List.getElem_cons_succ]
        go_simp
        refine (H39.out _ (HK.out _ p10).1).mono ?_
        rintro e u11 ⟨rfl, b11⟩
        have p11 : Below W1.heap.size W1 u11 := p10.trans (b11.mono p10.size)
        have g11 : u11.heap[u2.heap.size]? = some (.cells #[.bool false, .bool false, .bool false, .bool false] 84 (0, 0)) := (b11.block _ (Array.getElem?_eq_some_iff.1 g10).1).trans g10
        go_simp
        refine hK _ _ ⟨(HK.out _ p11).2, ?_⟩
        clear hK K hS
        have hS := (HK.out _ p11).2
        refine wpAnyH_all (rs := [7]) (by kernel_rfl) (by simp) (fun i1 hi1 => ?_)
        obtain rfl : i1 = 7 := by simpa using hi1
        clear hi1
        refine wpOp_step rfl (fun K hK => ite_yes rfl ?_)
        simp only [List.getElem_toArray, List.getElem_cons_zero, List.getElem_cons_succ]
        go_simp
        refine (H40.out _).mono ?_
        rintro e u12 ⟨rfl, b12⟩
        have p12 : Below W1.heap.size W1 u12 := p11.trans (b12.mono p11.size)
        have g12 : u12.heap[u2.heap.size]? = some (.cells #[.bool false, .bool false, .bool false, .bool false] 84 (0, 0)) := (b12.block _ (Array.getElem?_eq_some_iff.1 g11).1).trans g11
        go_simp
        refine hK _ _ ⟨(HK.out _ p12).2, ?_⟩
        clear hK K hS
        have hS := (HK.out _ p12).2
        refine wpAnyH_take (i := 8) (v := .agg #[.bool qa, .bool qb, .bool qc, .bool qd]) rfl (by kernel_rfl) (by kernel_rfl) (by kernel_rfl) (fun _ _ _ h => h) (Or.inl ⟨by rfl, ?r⟩) hS ?_
        case r => intro W hW; simp [go_sem, execOp, Act.eval]
        simp only [List.getElem_toArray, List.getElem_cons_zero, List.getElem_cons_succ, Act.put, List.setIfInBounds_toArray, List.set_cons_succ, List.set_cons_zero]
        refine wpAnyH_all (rs := [10]) (by kernel_rfl) (by simp) (fun i1 hi1 => ?_)
        obtain rfl : i1 = 10 := by simpa using hi1
        clear hi1
        refine wpOp_step rfl (fun K hK => ite_yes rfl ?_)
        simp only [List.getElem_toArray, List.getElem_cons_zero, List.getElem_cons_succ]
        have cc13 := row_at g12
        have cf13 := fun j => fz _ _ _ _ j g12
        refine wp_store_row 84 _ _ rfl (u2.heap.size) #[.bool qa, .bool qb, .bool qc, .bool qd] rfl rfl 84 #[.bool false, .bool false, .bool false, .bool false] g12 (by kernel_rfl) (by kernel_rfl) (one84 _ _ _ _) ?_
        have p13 : Below W1.heap.size W1 (u12.setRow (u2.heap.size) #[.bool qa, .bool qb, .bool qc, .bool qd]) := brow p12 l10 _
        refine hK _ _ ⟨(HK.out _ p13).2, ?_⟩
        clear hK K
        refine wpAnyH_done (by kernel_rfl) ?_ _
        refine NoPanic.normal ?_
        try simp only [Act.put]
        exact tail _ _ l10 (setRow_heap _ _ #[.bool false, .bool false, .bool false, .bool false] _ 84 (0, 0) g12) p13
    · clear hi1
      refine wpOp_step rfl (fun K hK => ite_yes rfl ?_)
      simp only [List.getElem_toArray, List.getElem_cons_zero, List.getElem_cons_succ]
      go_simp
      have p14 : Below W1.heap.size W1 (u1.alloc (.cells #[.bool false, .bool false, .bool false, .bool false] 84)) := p1.alloc p1.size _
      have g14 : (u1.alloc (.cells #[.bool false, .bool false, .bool false, .bool false] 84)).heap[u1.heap.size]? = some (.cells #[.bool false, .bool false, .bool false, .bool false] 84 (0, 0)) := heap_alloc_new _ _
      have l14 : W1.heap.size ≤ u1.heap.size := p1.size
      refine hK _ _ ⟨(HK.out _ p14).2, ?_⟩
      clear hK K hS
      have hS := (HK.out _ p14).2
      refine wpAnyH_all (rs := [3]) (by kernel_rfl) (by simp) (fun i1 hi1 => ?_)
      obtain rfl : i1 = 3 := by simpa using hi1
      clear hi1
      refine wpOp_step rfl (fun K hK => ite_yes rfl ?_)
      simp only [List.getElem_toArray, List.getElem_cons_zero, List.getElem_cons_succ]
      go_simp
      refine (H38.out _).mono ?_
      rintro e u15 ⟨rfl, b15⟩
      have p15 : Below W1.heap.size W1 u15 := p14.trans (b15.mono p14.size)
      have g15 : u15.heap[u1.heap.size]? = some (.cells #[.bool false, .bool false, .bool false, .bool false] 84 (0, 0)) := (b15.block _ (Array.getElem?_eq_some_iff.1 g14).1).trans g14
      go_simp
      refine hK _ _ ⟨(HK.out _ p15).2, ?_⟩
      clear hK K hS
      have hS := (HK.out _ p15).2
      refine wpAnyH_all (rs := [5]) (by kernel_rfl) (by simp) (fun i1 hi1 => ?_)
      obtain rfl : i1 = 5 := by simpa using hi1
      clear hi1
      refine wpOp_step rfl (fun K hK => ite_yes rfl ?_)
      simp only [List.getElem_toArray, List.getElem_cons_zero, List.getElem_cons_succ]
      go_simp
      refine (H39.out _ (HK.out _ p15).1).mono ?_
      rintro e u16 ⟨rfl, b16⟩
      have p16 : Below W1.heap.size W1 u16 := p15.trans (b16.mono p15.size)
      have g16 : u16.heap[u1.heap.size]? = some (.cells #[.bool false, .bool false, .bool false, .bool false] 84 (0, 0)) := (b16.block _ (Array.getElem?_eq_some_iff.1 g15).1).trans g15
      go_simp
      refine hK _ _ ⟨(HK.out _ p16).2, ?_⟩
      clear hK K hS
      have hS := (HK.out _ p16).2
      refine wpAnyH_all (rs := [7]) (by kernel_rfl) (by simp) (fun i1 hi1 => ?_)
      obtain rfl : i1 = 7 := by simpa using hi1
      clear hi1
      refine wpOp_step rfl (fun K hK => ite_yes rfl ?_)
      simp only [List.getElem_toArray, List.getElem_cons_zero, List.getElem_cons_succ]
      go_simp
      refine (H40.out _).mono ?_
      rintro e u17 ⟨rfl, b17⟩
      have p17 : Below W1.heap.size W1 u17 := p16.trans (b17.mono p16.size)
      have g17 : u17.heap[u1.heap.size]? = some (.cells #[.bool false, .bool false, .bool false, .bool false] 84 (0, 0)) := (b17.block _ (Array.getElem?_eq_some_iff.1 g16).1).trans g16
      go_simp
      refine hK _ _ ⟨(HK.out _ p17).2, ?_⟩
      clear hK K hS
      have hS := (HK.out _ p17).2
      refine wpAnyH_take (i := 8) (v := .agg #[.bool qa, .bool qb, .bool qc, .bool qd]) rfl (by kernel_rfl) (by kernel_rfl) (by kernel_rfl) (fun _ _ _ h => h) (Or.inl ⟨by rfl, ?r⟩) hS ?_
      case r => intro W hW; simp [go_sem, execOp, Act.eval]
      simp only [List.getElem_toArray, List.getElem_cons_zero, List.getElem_cons_succ, Act.put, List.setIfInBounds_toArray, List.set_cons_succ, List.set_cons_zero]
      refine wpAnyH_all (rs := [10]) (by kernel_rfl) (by simp) (fun i1 hi1 => ?_)
      obtain rfl : i1 = 10 := by simpa using hi1
      clear hi1
      refine wpOp_step rfl (fun K hK => ite_yes rfl ?_)
      simp only [List.getElem_toArray, List.getElem_cons_zero, List.getElem_cons_succ]
      have cc18 := row_at g17
      have cf18 := fun j => fz _ _ _ _ j g17
      refine wp_store_row 84 _ _ rfl (u1.heap.size) #[.bool qa, .bool qb, .bool qc, .bool qd] rfl rfl 84 #[.bool false, .bool false, .bool false, .bool false] g17 (by kernel_rfl) (by kernel_rfl) (one84 _ _ _ _) ?_
      have p18 : Below W1.heap.size W1 (u17.setRow (u1.heap.size) #[.bool qa, .bool qb, .bool qc, .bool qd]) := brow p17 l14 _
      refine hK _ _ ⟨(HK.out _ p18).2, ?_⟩
      clear hK K
      refine wpAnyH_done (by kernel_rfl) ?_ _
      refine NoPanic.normal ?_
      try simp only [Act.put]
      exact tail _ _ l14 (setRow_heap _ _ #[.bool false, .bool false, .bool false, .bool false] _ 84 (0, 0) g17) p18
  · clear hi1
    refine wpOp_step rfl (fun K hK => ite_yes rfl ?_)
    simp only [List.getElem_toArray, List.getElem_cons_zero, List.getElem_cons_succ]
    go_simp
    have p19 : Below W1.heap.size W1 (W4.alloc (.cells #[.bool false, .bool false, .bool false, .bool false] 84)) := p0.alloc p0.size _
    have g19 : (W4.alloc (.cells #[.bool false, .bool false, .bool false, .bool false] 84)).heap[W4.heap.size]? = some (.cells #[.bool false, .bool false, .bool false, .bool false] 84 (0, 0)) := heap_alloc_new _ _
    have l19 : W1.heap.size ≤ W4.heap.size := p0.size
    refine hK _ _ ⟨(HK.out _ p19).2, ?_⟩
    clear hK K hS
    have hS := (HK.out _ p19).2
    refine wpAnyH_all (rs := [1]) (by kernel_rfl) (by simp) (fun i1 hi1 => ?_)
    obtain rfl : i1 = 1 := by simpa using hi1
    clear hi1
    refine wpOp_step rfl (fun K hK => ite_yes rfl ?_)
    simp only [List.getElem_toArray, List.getElem_cons_zero, List.getElem_cons_succ]
    go_simp
    refine (H20.out _).mono ?_
    rintro e u20 ⟨rfl, b20⟩
    have p20 : Below W1.heap.size W1 u20 := p19.trans (b20.mono p19.size)
    have g20 : u20.heap[W4.heap.size]? = some (.cells #[.bool false, .bool false, .bool false, .bool false] 84 (0, 0)) := (b20.block _ (Array.getElem?_eq_some_iff.1 g19).1).trans g19
    go_simp
    refine hK _ _ ⟨(HK.out _ p20).2, ?_⟩
    clear hK K hS
    have hS := (HK.out _ p20).2
    refine wpAnyH_all (rs := [3]) (by kernel_rfl) (by simp) (fun i1 hi1 => ?_)
    obtain rfl : i1 = 3 := by simpa using hi1
    clear hi1
    refine wpOp_step rfl (fun K hK => ite_yes rfl ?_)
    simp only [List.getElem_toArray, List.getElem_cons_zero, List.getElem_cons_succ]
    go_simp
    refine (H38.out _).mono ?_
    rintro e u21 ⟨rfl, b21⟩
    have p21 : Below W1.heap.size W1 u21 := p20.trans (b21.mono p20.size)
    have g21 : u21.heap[W4.heap.size]? = some (.cells #[.bool false, .bool false, .bool false, .bool false] 84 (0, 0)) := (b21.block _ (Array.getElem?_eq_some_iff.1 g20).1).trans g20
    go_simp
    refine hK _ _ ⟨(HK.out _ p21).2, ?_⟩
    clear hK K hS
    have hS := (HK.out _ p21).2
    refine wpAnyH_all (rs := [5]) (by kernel_rfl) (by simp) (fun i1 hi1 => ?_)
    obtain rfl : i1 = 5 := by simpa using hi1
    clear hi1
    refine wpOp_step rfl (fun K hK => ite_yes rfl ?_)
    simp only [List.getElem_toArray, List.getElem_cons_zero, List.getElem_cons_succ]
    go_simp
    refine (H39.out _ (HK.out _ p21).1).mono ?_
    rintro e u22 ⟨rfl, b22⟩
    have p22 : Below W1.heap.size W1 u22 := p21.trans (b22.mono p21.size)
    have g22 : u22.heap[W4.heap.size]? = some (.cells #[.bool false, .bool false, .bool false, .bool false] 84 (0, 0)) := (b22.block _ (Array.getElem?_eq_some_iff.1 g21).1).trans g21
    go_simp
    refine hK _ _ ⟨(HK.out _ p22).2, ?_⟩
    clear hK K hS
    have hS := (HK.out _ p22).2
    refine wpAnyH_all (rs := [7]) (by kernel_rfl) (by simp) (fun i1 hi1 => ?_)
    obtain rfl : i1 = 7 := by simpa using hi1
    clear hi1
    refine wpOp_step rfl (fun K hK => ite_yes rfl ?_)
    simp only [List.getElem_toArray, List.getElem_cons_zero, List.getElem_cons_succ]
    go_simp
    refine (H40.out _).mono ?_
    rintro e u23 ⟨rfl, b23⟩
    have p23 : Below W1.heap.size W1 u23 := p22.trans (b23.mono p22.size)
    have g23 : u23.heap[W4.heap.size]? = some (.cells #[.bool false, .bool false, .bool false, .bool false] 84 (0, 0)) := (b23.block _ (Array.getElem?_eq_some_iff.1 g22).1).trans g22
    go_simp
    refine hK _ _ ⟨(HK.out _ p23).2, ?_⟩
    clear hK K hS
    have hS := (HK.out _ p23).2
    refine wpAnyH_take (i := 8) (v := .agg #[.bool qa, .bool qb, .bool qc, .bool qd]) rfl (by kernel_rfl) (by kernel_rfl) (by kernel_rfl) (fun _ _ _ h => h) (Or.inl ⟨by rfl, ?r⟩) hS ?_
    case r => intro W hW; simp [go_sem, execOp, Act.eval]
    simp only [List.getElem_toArray, List.getElem_cons_zero, List.getElem_cons_succ, Act.put, List.setIfInBounds_toArray, List.set_cons_succ, List.set_cons_zero]
    refine wpAnyH_all (rs := [10]) (by kernel_rfl) (by simp) (fun i1 hi1 => ?_)
    obtain rfl : i1 = 10 := by simpa using hi1
    clear hi1
    refine wpOp_step rfl (fun K hK => ite_yes rfl ?_)
    simp only [List.getElem_toArray, List.getElem_cons_zero, List.getElem_cons_succ]
    have cc24 := row_at g23
    have cf24 := fun j => fz _ _ _ _ j g23
    refine wp_store_row 84 _ _ rfl (W4.heap.size) #[.bool qa, .bool qb, .bool qc, .bool qd] rfl rfl 84 #[.bool false, .bool false, .bool false, .bool false] g23 (by kernel_rfl) (by kernel_rfl) (one84 _ _ _ _) ?_
    have p24 : Below W1.heap.size W1 (u23.setRow (W4.heap.size) #[.bool qa, .bool qb, .bool qc, .bool qd]) := brow p23 l19 _
    refine hK _ _ ⟨(HK.out _ p24).2, ?_⟩
    clear hK K
    refine wpAnyH_done (by kernel_rfl) ?_ _
    refine NoPanic.normal ?_
    try simp only [Act.put]
    exact tail _ _ l19 (setRow_heap _ _ #[.bool false, .bool false, .bool false, .bool false] _ 84 (0, 0) g23) p24
set_option maxRecDepth 100000 in
set_option maxHeartbeats 8000000 in
theorem answers_V6 (T : TypeId) (b : Nat) (x : MD) (w : World) (qa qb qc qd : Bool) (nmv : ByteArray)
    (h20 : ∀ W, Calls Tryd.prog 20 #[x.val] W fun r w' => r = .returned (.bool qa) ∧ Below W.heap.size W w') (h38 : ∀ W, Calls Tryd.prog 38 #[x.val] W fun r w' => r = .returned (.bool qb) ∧ Below W.heap.size W w')
    (h39 : ∀ W, Below w.heap.size w W → Calls Tryd.prog 39 #[x.val] W fun r w' => r = .returned (.bool qc) ∧ Below W.heap.size W w') (h40 : ∀ W, Calls Tryd.prog 40 #[x.val] W fun r w' => r = .returned (.bool qd) ∧ Below W.heap.size W w')
    (hTy : ∀ W, Below w.heap.size w W → Calls Tryd.prog 98 #[.agg #[.pointer (some ⟨b, 0, none⟩)]] W fun r w' => r = .returned (.string nmv) ∧ Below W.heap.size W w') (h42 : ∀ W, Calls Tryd.prog 42 #[x.val] W fun r w' => r = .returned (.string nmv) ∧ Below W.heap.size W w')
    (h41 : ∀ W, Calls Tryd.prog 41 #[.iface T (.agg #[.pointer (some ⟨b, 0, none⟩)])] W fun r w' => r = .returned (.agg #[.bool qa, .bool qb, .bool qc, .bool qd]) ∧ Below W.heap.size W w')
    (s87 : Says T 87 (.agg #[.pointer (some ⟨b, 0, none⟩)]) false) (s91 : Says T 91 (.agg #[.pointer (some ⟨b, 0, none⟩)]) false) (s94 : Says T 94 (.agg #[.pointer (some ⟨b, 0, none⟩)]) false) (mTy : Method T "Type" 98) :
    Calls Tryd.prog 19 #[.iface T (.agg #[.pointer (some ⟨b, 0, none⟩)]), x.val] w fun r w' => r = .returned (.bool true) ∧ Below w.heap.size w w' := by
  have H20 : Hid _ := h20
  have H38 : Hid _ := h38
  have H39 : Hid _ := h39
  have H40 : Hid _ := h40
  have HTy : Hid _ := hTy
  have H42 : Hid _ := h42
  have H41 : Hid _ := h41
  clear h20 h38 h39 h40 hTy h42 h41
  simp only [Says, if_false, Bool.false_eq_true] at s87 s91 s94
  have mT1 := mTy b
  clear mTy
  have HQ : ∀ W : World, (binOp .neq 84 (.agg #[.bool qa, .bool qb, .bool qc, .bool qd]) (.agg #[.bool qa, .bool qb, .bool qc, .bool qd])).run Tryd.prog W = .ok (.bool false) W := fun W => neq84 qa qb qc qd W
  obtain ⟨⟨k, t, a, f, s, r0, r1, r2, r3, pp, path, pc⟩, ip, ic, items⟩ := x
  simp only [MD.val, D] at *
  obtain ⟨W1, hW1⟩ : ∃ W1, W1 = w.alloc (.cells #[.int .i64 k, .string t, .int .i64 a, .int .u64 f, .string s, .int .i64 r0, .int .i64 r1, .int .i64 r2, .int .i64 r3, .slice pp path.length pc, .slice ip items.length ic] 28) := ⟨_, rfl⟩
  have HK : Hid (∀ W, Below W1.heap.size W1 W → Below w.heap.size w W ∧ ∀ j, W.cell? ⟨w.heap.size, j, none⟩ = (#[.int .i64 k, .string t, .int .i64 a, .int .u64 f, .string s, .int .i64 r0, .int .i64 r1, .int .i64 r2, .int .i64 r3, .slice pp path.length pc, .slice ip items.length ic] : Array Value)[j]?) := fun W hW => by
    rw [hW1] at hW
    exact ⟨(below1 _ _).trans (hW.mono (by simp)), fun j => row_at ((hW.block w.heap.size (by simp)).trans (heap_alloc_new _ _)) j⟩
  go_enter Tryd.func19, Tryd.ntmps19
  go_wp2_with fail
  rw [← hW1]
  clear hW1
  rename_i Q1 K1 hK1
  have tail : ∀ (g : Nat) (W : World), W1.heap.size ≤ g → W.heap[g]? = some (.cells #[.bool qa, .bool qb, .bool qc, .bool qd] 84 (0, 0)) → Below W1.heap.size W1 W → K1 { tmps := #[.iface T (.agg #[.pointer (some ⟨b, 0, none⟩)]), .agg #[.int .i64 k, .string t, .int .i64 a, .int .u64 f, .string s, .int .i64 r0, .int .i64 r1, .int .i64 r2, .int .i64 r3, .slice pp path.length pc, .slice ip items.length ic], undef, .pointer (some ⟨w.heap.size, 0, none⟩), .bool false, .pointer (some ⟨g, 0, none⟩), undef, undef, undef, undef, undef, undef, undef, undef, .agg #[.int .i64 k, .string t, .int .i64 a, .int .u64 f, .string s, .int .i64 r0, .int .i64 r1, .int .i64 r2, .int .i64 r3, .slice pp path.length pc, .slice ip items.length ic], .bool qa, .agg #[.int .i64 k, .string t, .int .i64 a, .int .u64 f, .string s, .int .i64 r0, .int .i64 r1, .int .i64 r2, .int .i64 r3, .slice pp path.length pc, .slice ip items.length ic], .bool qb, .agg #[.int .i64 k, .string t, .int .i64 a, .int .u64 f, .string s, .int .i64 r0, .int .i64 r1, .int .i64 r2, .int .i64 r3, .slice pp path.length pc, .slice ip items.length ic], .bool qc, .agg #[.int .i64 k, .string t, .int .i64 a, .int .u64 f, .string s, .int .i64 r0, .int .i64 r1, .int .i64 r2, .int .i64 r3, .slice pp path.length pc, .slice ip items.length ic], .bool qd, .agg #[.bool qa, .bool qb, .bool qc, .bool qd], undef, undef, undef, undef, undef, undef, undef, undef, undef, undef, undef, undef, undef, undef, undef, undef, undef, undef, undef, undef, undef, undef, undef, undef, undef, undef, undef, undef, undef, undef, undef, undef, undef, undef, undef, undef, undef, undef, undef, undef, undef, undef, undef, undef, undef, undef, undef, undef, undef, undef, undef, undef, undef, undef, undef, undef, undef, undef], defers := [] } W := by
    intro g v0 hg x0 y0
    have hc0 := (HK.out _ y0).2
    have hgc := row_at x0
    have hgl : g < v0.heap.size := (Array.getElem?_eq_some_iff.1 x0).1
    apply hK1
    go_wp2_with fail
    refine wp_region_noPanic ?_
    refine wp_region_held (S := fun W => (∀ q, W.cell? ⟨w.heap.size, q, none⟩ = (#[.int .i64 k, .string t, .int .i64 a, .int .u64 f, .string s, .int .i64 r0, .int .i64 r1, .int .i64 r2, .int .i64 r3, .slice pp path.length pc, .slice ip items.length ic] : Array Value)[q]?) ∧ ∀ q, W.cell? ⟨g, q, none⟩ = (#[.bool qa, .bool qb, .bool qc, .bool qd] : Array Value)[q]?) (by kernel_rfl) ?_
    obtain ⟨v1, hv1⟩ : ∃ v1, v1 = v0.drew := ⟨_, rfl⟩
    have e1 : ({ v0 with drawn := v0.drawn + 1 } : World) = v1 := hv1.symm
    rw [e1]
    have y1 : Below W1.heap.size W1 v1 := by rw [hv1]; exact y0.drew
    have x1 : v1.heap[g]? = some (.cells #[.bool qa, .bool qb, .bool qc, .bool qd] 84 (0, 0)) := by rw [hv1]; exact x0
    have hS : (∀ q, v1.cell? ⟨w.heap.size, q, none⟩ = (#[.int .i64 k, .string t, .int .i64 a, .int .u64 f, .string s, .int .i64 r0, .int .i64 r1, .int .i64 r2, .int .i64 r3, .slice pp path.length pc, .slice ip items.length ic] : Array Value)[q]?) ∧ ∀ q, v1.cell? ⟨g, q, none⟩ = (#[.bool qa, .bool qb, .bool qc, .bool qd] : Array Value)[q]? := ⟨(HK.out _ y1).2, row_at x1⟩
    clear e1 hv1
    refine wpAnyH_take (i := 0) (v := .iface T (.agg #[.pointer (some ⟨b, 0, none⟩)])) rfl (by kernel_rfl) (by kernel_rfl) (by kernel_rfl) (fun _ _ _ h => h) (Or.inl ⟨by rfl, ?r⟩) hS ?_
    case r => intro W hW; simp [go_sem, execOp, Act.eval]
    simp only [List.getElem_toArray, List.getElem_cons_zero, Act.put, List.setIfInBounds_toArray, List.set_cons_succ, List.set_cons_zero]
    refine wpAnyH_take (i := 2) (v := .agg #[.bool qa, .bool qb, .bool qc, .bool qd]) rfl (by kernel_rfl) (by kernel_rfl) (by kernel_rfl) (fun _ _ _ h => h) (Or.inl ⟨by rfl, ?r⟩) hS ?_
    case r => intro W hW; simp [go_sem, execOp, Act.eval, hW.2]
    simp only [List.getElem_toArray, List.getElem_cons_zero, List.getElem_cons_succ, Act.put, List.setIfInBounds_toArray, List.set_cons_succ, List.set_cons_zero]
    refine wpAnyH_all (rs := [1]) (by kernel_rfl) (by simp) (fun i1 hi1 => ?_)
    obtain rfl : i1 = 1 := by simpa using hi1
    clear hi1
    refine wpOp_step rfl (fun K hK => ite_yes rfl ?_)
    simp only [List.getElem_toArray, List.getElem_cons_zero, List.getElem_cons_succ]
    go_simp
    refine (H41.out _).mono ?_
    rintro e v2 ⟨rfl, b2⟩
    have y2 : Below W1.heap.size W1 v2 := y1.trans (b2.mono y1.size)
    have x2 : v2.heap[g]? = some (.cells #[.bool qa, .bool qb, .bool qc, .bool qd] 84 (0, 0)) := (b2.block g (Array.getElem?_eq_some_iff.1 x1).1).trans x1
    go_simp
    refine hK _ _ ⟨⟨(HK.out _ y2).2, row_at x2⟩, ?_⟩
    clear hK K hS
    have hS : (∀ q, v2.cell? ⟨w.heap.size, q, none⟩ = _) ∧ ∀ q, v2.cell? ⟨g, q, none⟩ = _ := ⟨(HK.out _ y2).2, row_at x2⟩
    refine wpAnyH_take (i := 3) (v := .bool false) rfl (by kernel_rfl) (by kernel_rfl) (by kernel_rfl) (fun _ _ _ h => h) (Or.inl ⟨by rfl, ?r⟩) hS ?_
    case r => intro W hW; simp [go_sem, execOp, Act.eval, HQ]
    simp only [List.getElem_toArray, List.getElem_cons_zero, List.getElem_cons_succ, Act.put, List.setIfInBounds_toArray, List.set_cons_succ, List.set_cons_zero]
    refine wpAnyH_take (i := 4) (v := .bool false) rfl (by kernel_rfl) (by kernel_rfl) (by kernel_rfl) (fun _ _ _ h => h) (Or.inl ⟨by rfl, ?r⟩) hS ?_
    case r => intro W hW; simp [go_sem, execOp, Act.eval]
    simp only [List.getElem_toArray, List.getElem_cons_zero, List.getElem_cons_succ, Act.put, List.setIfInBounds_toArray, List.set_cons_succ, List.set_cons_zero]
    refine wpAnyH_take (i := 5) (v := .iface T (.agg #[.pointer (some ⟨b, 0, none⟩)])) rfl (by kernel_rfl) (by kernel_rfl) (by kernel_rfl) (fun _ _ _ h => h) (Or.inl ⟨by rfl, ?r⟩) hS ?_
    case r => intro W hW; simp [go_sem, execOp, Act.eval]
    simp only [List.getElem_toArray, List.getElem_cons_zero, List.getElem_cons_succ, Act.put, List.setIfInBounds_toArray, List.set_cons_succ, List.set_cons_zero]
    refine wpAnyH_take (i := 7) (v := .agg #[.int .i64 k, .string t, .int .i64 a, .int .u64 f, .string s, .int .i64 r0, .int .i64 r1, .int .i64 r2, .int .i64 r3, .slice pp path.length pc, .slice ip items.length ic]) rfl (by kernel_rfl) (by kernel_rfl) (by kernel_rfl) (fun _ _ _ h => h) (Or.inl ⟨by rfl, ?r⟩) hS ?_
    case r => intro W hW; simp [go_sem, execOp, Act.eval, hW.1]
    simp only [List.getElem_toArray, List.getElem_cons_zero, List.getElem_cons_succ, Act.put, List.setIfInBounds_toArray, List.set_cons_succ, List.set_cons_zero]
    refine wpAnyH_all (rs := [6]) (by kernel_rfl) (by simp) (fun i1 hi1 => ?_)
    obtain rfl : i1 = 6 := by simpa using hi1
    clear hi1
    refine wpOp_step rfl (fun K hK => ite_yes rfl ?_)
    simp only [List.getElem_toArray, List.getElem_cons_zero, List.getElem_cons_succ]
    go_simp
    refine (HTy.out _ (HK.out _ y2).1).mono ?_
    rintro e v3 ⟨rfl, b3⟩
    have y3 : Below W1.heap.size W1 v3 := y2.trans (b3.mono y2.size)
    have x3 : v3.heap[g]? = some (.cells #[.bool qa, .bool qb, .bool qc, .bool qd] 84 (0, 0)) := (b3.block g (Array.getElem?_eq_some_iff.1 x2).1).trans x2
    go_simp
    refine hK _ _ ⟨⟨(HK.out _ y3).2, row_at x3⟩, ?_⟩
    clear hK K hS
    have hS : (∀ q, v3.cell? ⟨w.heap.size, q, none⟩ = _) ∧ ∀ q, v3.cell? ⟨g, q, none⟩ = _ := ⟨(HK.out _ y3).2, row_at x3⟩
    refine wpAnyH_all (rs := [8]) (by kernel_rfl) (by simp) (fun i1 hi1 => ?_)
    obtain rfl : i1 = 8 := by simpa using hi1
    clear hi1
    refine wpOp_step rfl (fun K hK => ite_yes rfl ?_)
    simp only [List.getElem_toArray, List.getElem_cons_zero, List.getElem_cons_succ]
    go_simp
    refine (H42.out _).mono ?_
    rintro e v4 ⟨rfl, b4⟩
    have y4 : Below W1.heap.size W1 v4 := y3.trans (b4.mono y3.size)
    have x4 : v4.heap[g]? = some (.cells #[.bool qa, .bool qb, .bool qc, .bool qd] 84 (0, 0)) := (b4.block g (Array.getElem?_eq_some_iff.1 x3).1).trans x3
    go_simp
    refine hK _ _ ⟨⟨(HK.out _ y4).2, row_at x4⟩, ?_⟩
    clear hK K hS
    have hS : (∀ q, v4.cell? ⟨w.heap.size, q, none⟩ = _) ∧ ∀ q, v4.cell? ⟨g, q, none⟩ = _ := ⟨(HK.out _ y4).2, row_at x4⟩
    refine wpAnyH_take (i := 9) (v := .bool false) rfl (by kernel_rfl) (by kernel_rfl) (by kernel_rfl) (fun _ _ _ h => h) (Or.inl ⟨by rfl, ?r⟩) hS ?_
    case r => intro W hW; simp [go_sem, execOp, Act.eval]
    simp only [List.getElem_toArray, List.getElem_cons_zero, List.getElem_cons_succ, Act.put, List.setIfInBounds_toArray, List.set_cons_succ, List.set_cons_zero]
    refine wpAnyH_take (i := 10) (v := .bool false) rfl (by kernel_rfl) (by kernel_rfl) (by kernel_rfl) (fun _ _ _ h => h) (Or.inl ⟨by rfl, ?r⟩) hS ?_
    case r => intro W hW; simp [go_sem, execOp, Act.eval]
    simp only [List.getElem_toArray, List.getElem_cons_zero, List.getElem_cons_succ, Act.put, List.setIfInBounds_toArray, List.set_cons_succ, List.set_cons_zero]
    refine wpAnyH_done (by kernel_rfl) ?_ _
    refine NoPanic.normal ?_
    try simp only [Act.put]
    have hc4 := (HK.out _ y4).2
    have hg4 := row_at x4
    clear hS
    go_wp2_with fail
    refine wp_region_noPanic ?_
    refine wp_region_held (S := fun W => (∀ q, W.cell? ⟨w.heap.size, q, none⟩ = (#[.int .i64 k, .string t, .int .i64 a, .int .u64 f, .string s, .int .i64 r0, .int .i64 r1, .int .i64 r2, .int .i64 r3, .slice pp path.length pc, .slice ip items.length ic] : Array Value)[q]?) ∧ ∀ q, W.cell? ⟨g, q, none⟩ = (#[.bool qa, .bool qb, .bool qc, .bool qd] : Array Value)[q]?) (by kernel_rfl) ?_
    obtain ⟨v5, hv5⟩ : ∃ v5, v5 = v4.drew := ⟨_, rfl⟩
    have e5 : ({ v4 with drawn := v4.drawn + 1 } : World) = v5 := hv5.symm
    rw [e5]
    have y5 : Below W1.heap.size W1 v5 := by rw [hv5]; exact y4.drew
    have x5 : v5.heap[g]? = some (.cells #[.bool qa, .bool qb, .bool qc, .bool qd] 84 (0, 0)) := by rw [hv5]; exact x4
    have hS : (∀ q, v5.cell? ⟨w.heap.size, q, none⟩ = (#[.int .i64 k, .string t, .int .i64 a, .int .u64 f, .string s, .int .i64 r0, .int .i64 r1, .int .i64 r2, .int .i64 r3, .slice pp path.length pc, .slice ip items.length ic] : Array Value)[q]?) ∧ ∀ q, v5.cell? ⟨g, q, none⟩ = (#[.bool qa, .bool qb, .bool qc, .bool qd] : Array Value)[q]? := ⟨(HK.out _ y5).2, row_at x5⟩
    clear e5 hv5
    refine wpAnyH_take (i := 0) (v := .bool false) rfl (by kernel_rfl) (by kernel_rfl) (by kernel_rfl) (fun _ _ _ h => h) (Or.inl ⟨by rfl, ?r⟩) hS ?_
    case r => intro W hW; simp [go_sem, execOp, Act.eval]
    simp only [List.getElem_toArray, List.getElem_cons_zero, Act.put, List.setIfInBounds_toArray, List.set_cons_succ, List.set_cons_zero]
    refine wpAnyH_take (i := 1) (v := .bool false) rfl (by kernel_rfl) (by kernel_rfl) (by kernel_rfl) (fun _ _ _ h => h) (Or.inl ⟨by rfl, ?r⟩) hS ?_
    case r => intro W hW; simp [go_sem, execOp, Act.eval]
    simp only [List.getElem_toArray, List.getElem_cons_zero, List.getElem_cons_succ, Act.put, List.setIfInBounds_toArray, List.set_cons_succ, List.set_cons_zero]
    refine wpAnyH_take (i := 2) (v := undef) rfl (by kernel_rfl) (by kernel_rfl) (by kernel_rfl) (fun _ _ _ h => h) (Or.inr ⟨by rfl, rfl⟩) hS ?_
    simp only [List.getElem_toArray, List.getElem_cons_zero, List.getElem_cons_succ, Act.put, List.setIfInBounds_toArray, List.set_cons_succ, List.set_cons_zero]
    refine wpAnyH_take (i := 3) (v := undef) rfl (by kernel_rfl) (by kernel_rfl) (by kernel_rfl) (fun _ _ _ h => h) (Or.inr ⟨by rfl, rfl⟩) hS ?_
    simp only [List.getElem_toArray, List.getElem_cons_zero, List.getElem_cons_succ, Act.put, List.setIfInBounds_toArray, List.set_cons_succ, List.set_cons_zero]
    refine wpAnyH_take (i := 4) (v := undef) rfl (by kernel_rfl) (by kernel_rfl) (by kernel_rfl) (fun _ _ _ h => h) (Or.inr ⟨by rfl, rfl⟩) hS ?_
    simp only [List.getElem_toArray, List.getElem_cons_zero, List.getElem_cons_succ, Act.put, List.setIfInBounds_toArray, List.set_cons_succ, List.set_cons_zero]
    refine wpAnyH_take (i := 5) (v := undef) rfl (by kernel_rfl) (by kernel_rfl) (by kernel_rfl) (fun _ _ _ h => h) (Or.inr ⟨by rfl, rfl⟩) hS ?_
    simp only [List.getElem_toArray, List.getElem_cons_zero, List.getElem_cons_succ, Act.put, List.setIfInBounds_toArray, List.set_cons_succ, List.set_cons_zero]
    refine wpAnyH_take (i := 6) (v := undef) rfl (by kernel_rfl) (by kernel_rfl) (by kernel_rfl) (fun _ _ _ h => h) (Or.inr ⟨by rfl, rfl⟩) hS ?_
    simp only [List.getElem_toArray, List.getElem_cons_zero, List.getElem_cons_succ, Act.put, List.setIfInBounds_toArray, List.set_cons_succ, List.set_cons_zero]
    refine wpAnyH_take (i := 7) (v := .bool false) rfl (by kernel_rfl) (by kernel_rfl) (by kernel_rfl) (fun _ _ _ h => h) (Or.inl ⟨by rfl, ?r⟩) hS ?_
    case r => intro W hW; simp [go_sem, execOp, Act.eval]
    simp only [List.getElem_toArray, List.getElem_cons_zero, List.getElem_cons_succ, Act.put, List.setIfInBounds_toArray, List.set_cons_succ, List.set_cons_zero]
    refine wpAnyH_done (by kernel_rfl) ?_ _
    refine NoPanic.normal ?_
    try simp only [Act.put]
    have hc8 := (HK.out _ y5).2
    clear hS
    go_wp2_with fail
    refine wp_region_noPanic ?_
    refine wp_region_held (S := fun W => (∀ q, W.cell? ⟨w.heap.size, q, none⟩ = (#[.int .i64 k, .string t, .int .i64 a, .int .u64 f, .string s, .int .i64 r0, .int .i64 r1, .int .i64 r2, .int .i64 r3, .slice pp path.length pc, .slice ip items.length ic] : Array Value)[q]?) ∧ ∀ q, W.cell? ⟨g, q, none⟩ = (#[.bool qa, .bool qb, .bool qc, .bool qd] : Array Value)[q]?) (by kernel_rfl) ?_
    obtain ⟨v8, hv8⟩ : ∃ v8, v8 = v5.drew := ⟨_, rfl⟩
    have e8 : ({ v5 with drawn := v5.drawn + 1 } : World) = v8 := hv8.symm
    rw [e8]
    have y8 : Below W1.heap.size W1 v8 := by rw [hv8]; exact y5.drew
    have x8 : v8.heap[g]? = some (.cells #[.bool qa, .bool qb, .bool qc, .bool qd] 84 (0, 0)) := by rw [hv8]; exact x5
    have hS : (∀ q, v8.cell? ⟨w.heap.size, q, none⟩ = (#[.int .i64 k, .string t, .int .i64 a, .int .u64 f, .string s, .int .i64 r0, .int .i64 r1, .int .i64 r2, .int .i64 r3, .slice pp path.length pc, .slice ip items.length ic] : Array Value)[q]?) ∧ ∀ q, v8.cell? ⟨g, q, none⟩ = (#[.bool qa, .bool qb, .bool qc, .bool qd] : Array Value)[q]? := ⟨(HK.out _ y8).2, row_at x8⟩
    clear e8 hv8
    refine wpAnyH_take (i := 0) (v := .bool false) rfl (by kernel_rfl) (by kernel_rfl) (by kernel_rfl) (fun _ _ _ h => h) (Or.inl ⟨by rfl, ?r⟩) hS ?_
    case r => intro W hW; simp [go_sem, execOp, Act.eval]
    simp only [List.getElem_toArray, List.getElem_cons_zero, Act.put, List.setIfInBounds_toArray, List.set_cons_succ, List.set_cons_zero]
    refine wpAnyH_take (i := 1) (v := .bool false) rfl (by kernel_rfl) (by kernel_rfl) (by kernel_rfl) (fun _ _ _ h => h) (Or.inl ⟨by rfl, ?r⟩) hS ?_
    case r => intro W hW; simp [go_sem, execOp, Act.eval]
    simp only [List.getElem_toArray, List.getElem_cons_zero, List.getElem_cons_succ, Act.put, List.setIfInBounds_toArray, List.set_cons_succ, List.set_cons_zero]
    refine wpAnyH_take (i := 2) (v := undef) rfl (by kernel_rfl) (by kernel_rfl) (by kernel_rfl) (fun _ _ _ h => h) (Or.inr ⟨by rfl, rfl⟩) hS ?_
    simp only [List.getElem_toArray, List.getElem_cons_zero, List.getElem_cons_succ, Act.put, List.setIfInBounds_toArray, List.set_cons_succ, List.set_cons_zero]
    refine wpAnyH_take (i := 3) (v := undef) rfl (by kernel_rfl) (by kernel_rfl) (by kernel_rfl) (fun _ _ _ h => h) (Or.inr ⟨by rfl, rfl⟩) hS ?_
    simp only [List.getElem_toArray, List.getElem_cons_zero, List.getElem_cons_succ, Act.put, List.setIfInBounds_toArray, List.set_cons_succ, List.set_cons_zero]
    refine wpAnyH_take (i := 4) (v := undef) rfl (by kernel_rfl) (by kernel_rfl) (by kernel_rfl) (fun _ _ _ h => h) (Or.inr ⟨by rfl, rfl⟩) hS ?_
    simp only [List.getElem_toArray, List.getElem_cons_zero, List.getElem_cons_succ, Act.put, List.setIfInBounds_toArray, List.set_cons_succ, List.set_cons_zero]
    refine wpAnyH_take (i := 5) (v := undef) rfl (by kernel_rfl) (by kernel_rfl) (by kernel_rfl) (fun _ _ _ h => h) (Or.inr ⟨by rfl, rfl⟩) hS ?_
    simp only [List.getElem_toArray, List.getElem_cons_zero, List.getElem_cons_succ, Act.put, List.setIfInBounds_toArray, List.set_cons_succ, List.set_cons_zero]
    refine wpAnyH_take (i := 6) (v := undef) rfl (by kernel_rfl) (by kernel_rfl) (by kernel_rfl) (fun _ _ _ h => h) (Or.inr ⟨by rfl, rfl⟩) hS ?_
    simp only [List.getElem_toArray, List.getElem_cons_zero, List.getElem_cons_succ, Act.put, List.setIfInBounds_toArray, List.set_cons_succ, List.set_cons_zero]
    refine wpAnyH_take (i := 7) (v := undef) rfl (by kernel_rfl) (by kernel_rfl) (by kernel_rfl) (fun _ _ _ h => h) (Or.inr ⟨by rfl, rfl⟩) hS ?_
    simp only [List.getElem_toArray, List.getElem_cons_zero, List.getElem_cons_succ, Act.put, List.setIfInBounds_toArray, List.set_cons_succ, List.set_cons_zero]
    refine wpAnyH_take (i := 8) (v := undef) rfl (by kernel_rfl) (by kernel_rfl) (by kernel_rfl) (fun _ _ _ h => h) (Or.inr ⟨by rfl, rfl⟩) hS ?_
    simp only [List.getElem_toArray, List.getElem_cons_zero, List.getElem_cons_succ, Act.put, List.setIfInBounds_toArray, List.set_cons_succ, List.set_cons_zero]
    refine wpAnyH_take (i := 9) (v := .bool false) rfl (by kernel_rfl) (by kernel_rfl) (by kernel_rfl) (fun _ _ _ h => h) (Or.inl ⟨by rfl, ?r⟩) hS ?_
    case r => intro W hW; simp [go_sem, execOp, Act.eval]
    simp only [List.getElem_toArray, List.getElem_cons_zero, List.getElem_cons_succ, Act.put, List.setIfInBounds_toArray, List.set_cons_succ, List.set_cons_zero]
    refine wpAnyH_done (by kernel_rfl) ?_ _
    refine NoPanic.normal ?_
    try simp only [Act.put]
    have hc10 := (HK.out _ y8).2
    clear hS
    go_wp2_with fail
    go_ret
    exact ⟨rfl, (HK.out _ y8).1⟩
  refine wp_region_noPanic ?_
  refine wp_region_held (S := fun W => ∀ j, W.cell? ⟨w.heap.size, j, none⟩ = (#[.int .i64 k, .string t, .int .i64 a, .int .u64 f, .string s, .int .i64 r0, .int .i64 r1, .int .i64 r2, .int .i64 r3, .slice pp path.length pc, .slice ip items.length ic] : Array Value)[j]?) (by kernel_rfl) ?_
  obtain ⟨W4, hW4⟩ : ∃ W4, W4 = W1.drew := ⟨_, rfl⟩
  have e4 : ({ W1 with drawn := W1.drawn + 1 } : World) = W4 := hW4.symm
  rw [e4]
  have p0 : Below W1.heap.size W1 W4 := by rw [hW4]; exact (Below.refl _ _).drew
  have hS := (HK.out _ p0).2
  clear e4 hW4
  refine wpAnyH_take (i := 0) (v := .agg #[.int .i64 k, .string t, .int .i64 a, .int .u64 f, .string s, .int .i64 r0, .int .i64 r1, .int .i64 r2, .int .i64 r3, .slice pp path.length pc, .slice ip items.length ic]) rfl (by kernel_rfl) (by kernel_rfl) (by kernel_rfl) (fun _ _ _ h => h) (Or.inl ⟨by rfl, ?r⟩) hS ?_
  case r => intro W hW; simp [go_sem, execOp, Act.eval, hW]
  simp only [List.getElem_toArray, List.getElem_cons_zero, Act.put, List.setIfInBounds_toArray, List.set_cons_succ, List.set_cons_zero]
  refine wpAnyH_take (i := 2) (v := .agg #[.int .i64 k, .string t, .int .i64 a, .int .u64 f, .string s, .int .i64 r0, .int .i64 r1, .int .i64 r2, .int .i64 r3, .slice pp path.length pc, .slice ip items.length ic]) rfl (by kernel_rfl) (by kernel_rfl) (by kernel_rfl) (fun _ _ _ h => h) (Or.inl ⟨by rfl, ?r⟩) hS ?_
  case r => intro W hW; simp [go_sem, execOp, Act.eval, hW]
  simp only [List.getElem_toArray, List.getElem_cons_zero, List.getElem_cons_succ, Act.put, List.setIfInBounds_toArray, List.set_cons_succ, List.set_cons_zero]
  refine wpAnyH_take (i := 4) (v := .agg #[.int .i64 k, .string t, .int .i64 a, .int .u64 f, .string s, .int .i64 r0, .int .i64 r1, .int .i64 r2, .int .i64 r3, .slice pp path.length pc, .slice ip items.length ic]) rfl (by kernel_rfl) (by kernel_rfl) (by kernel_rfl) (fun _ _ _ h => h) (Or.inl ⟨by rfl, ?r⟩) hS ?_
  case r => intro W hW; simp [go_sem, execOp, Act.eval, hW]
  simp only [List.getElem_toArray, List.getElem_cons_zero, List.getElem_cons_succ, Act.put, List.setIfInBounds_toArray, List.set_cons_succ, List.set_cons_zero]
  refine wpAnyH_take (i := 6) (v := .agg #[.int .i64 k, .string t, .int .i64 a, .int .u64 f, .string s, .int .i64 r0, .int .i64 r1, .int .i64 r2, .int .i64 r3, .slice pp path.length pc, .slice ip items.length ic]) rfl (by kernel_rfl) (by kernel_rfl) (by kernel_rfl) (fun _ _ _ h => h) (Or.inl ⟨by rfl, ?r⟩) hS ?_
  case r => intro W hW; simp [go_sem, execOp, Act.eval, hW]
  simp only [List.getElem_toArray, List.getElem_cons_zero, List.getElem_cons_succ, Act.put, List.setIfInBounds_toArray, List.set_cons_succ, List.set_cons_zero]
  refine wpAnyH_all (rs := [1, 9]) (by kernel_rfl) (by simp) (fun i1 hi1 => ?_)
  obtain rfl | rfl : i1 = 1 ∨ i1 = 9 := by simpa using hi1
  · clear hi1
    refine wpOp_step rfl (fun K hK => ite_yes rfl ?_)
    simp only [List.getElem_toArray, List.getElem_cons_zero, List.getElem_cons_succ]
    go_simp
    refine (H20.out _).mono ?_
    rintro e u1 ⟨rfl, b1⟩
    have p1 : Below W1.heap.size W1 u1 := p0.trans (b1.mono p0.size)
    go_simp
    refine hK _ _ ⟨(HK.out _ p1).2, ?_⟩
    clear hK K hS
    have hS := (HK.out _ p1).2
    refine wpAnyH_all (rs := [3, 9]) (by kernel_rfl) (by simp) (fun i1 hi1 => ?_)
    obtain rfl | rfl : i1 = 3 ∨ i1 = 9 := by simpa using hi1
    · clear hi1
      refine wpOp_step rfl (fun K hK => ite_yes rfl ?_)
      simp only [List.getElem_toArray, List.getElem_cons_zero, List.getElem_cons_succ]
      go_simp
      refine (H38.out _).mono ?_
      rintro e u2 ⟨rfl, b2⟩
      have p2 : Below W1.heap.size W1 u2 := p1.trans (b2.mono p1.size)
      go_simp
      refine hK _ _ ⟨(HK.out _ p2).2, ?_⟩
      clear hK K hS
      have hS := (HK.out _ p2).2
      refine wpAnyH_all (rs := [5, 9]) (by kernel_rfl) (by simp) (fun i1 hi1 => ?_)
      obtain rfl | rfl : i1 = 5 ∨ i1 = 9 := by simpa using hi1
      · clear hi1
        refine wpOp_step rfl (fun K hK => ite_yes rfl ?_)
        simp only [List.getElem_toArray, List.getElem_cons_zero, List.getElem_cons_succ]
        go_simp
        refine (H39.out _ (HK.out _ p2).1).mono ?_
        rintro e u3 ⟨rfl, b3⟩
        have p3 : Below W1.heap.size W1 u3 := p2.trans (b3.mono p2.size)
        go_simp
        refine hK _ _ ⟨(HK.out _ p3).2, ?_⟩
        clear hK K hS
        have hS := (HK.out _ p3).2
        refine wpAnyH_all (rs := [7, 9]) (by kernel_rfl) (by simp) (fun i1 hi1 => ?_)
        obtain rfl | rfl : i1 = 7 ∨ i1 = 9 := by simpa using hi1
        · clear hi1
          refine wpOp_step rfl (fun K hK => ite_yes rfl ?_)
          simp only [List.getElem_toArray, List.getElem_cons_zero, List.getElem_cons_succ]
          go_simp
          refine (H40.out _).mono ?_
          rintro e u4 ⟨rfl, b4⟩
          have p4 : Below W1.heap.size W1 u4 := p3.trans (b4.mono p3.size)
          go_simp
          refine hK _ _ ⟨(HK.out _ p4).2, ?_⟩
          clear hK K hS
          have hS := (HK.out _ p4).2
          refine wpAnyH_take (i := 8) (v := .agg #[.bool qa, .bool qb, .bool qc, .bool qd]) rfl (by kernel_rfl) (by kernel_rfl) (by kernel_rfl) (fun _ _ _ h => h) (Or.inl ⟨by rfl, ?r⟩) hS ?_
          case r => intro W hW; simp [go_sem, execOp, Act.eval]
          simp only [List.getElem_toArray, List.getElem_cons_zero, List.getElem_cons_succ, Act.put, List.setIfInBounds_toArray, List.set_cons_succ, List.set_cons_zero]
          refine wpAnyH_all (rs := [9]) (by kernel_rfl) (by simp) (fun i1 hi1 => ?_)
          obtain rfl : i1 = 9 := by simpa using hi1
          clear hi1
          refine wpOp_step rfl (fun K hK => ite_yes rfl ?_)
          simp only [List.getElem_toArray, List.getElem_cons_zero, List.getElem_cons_succ]
          go_simp
          have p5 : Below W1.heap.size W1 (u4.alloc (.cells #[.bool false, .bool false, .bool false, .bool false] 84)) := p4.alloc p4.size _
          have g5 : (u4.alloc (.cells #[.bool false, .bool false, .bool false, .bool false] 84)).heap[u4.heap.size]? = some (.cells #[.bool false, .bool false, .bool false, .bool false] 84 (0, 0)) := heap_alloc_new _ _
          have l5 : W1.heap.size ≤ u4.heap.size := p4.size
          refine hK _ _ ⟨(HK.out _ p5).2, ?_⟩
          clear hK K hS
          have hS := (HK.out _ p5).2
          refine wpAnyH_all (rs := [10]) (by kernel_rfl) (by simp) (fun i1 hi1 => ?_)
          obtain rfl : i1 = 10 := by simpa using hi1
          clear hi1
          refine wpOp_step rfl (fun K hK => ite_yes rfl ?_)
          simp only [List.getElem_toArray, List.getElem_cons_zero, List.getElem_cons_succ]
          have cc6 := row_at g5
          have cf6 := fun j => fz _ _ _ _ j g5
          refine wp_store_row 84 _ _ rfl (u4.heap.size) #[.bool qa, .bool qb, .bool qc, .bool qd] rfl rfl 84 #[.bool false, .bool false, .bool false, .bool false] g5 (by kernel_rfl) (by kernel_rfl) (one84 _ _ _ _) ?_
          have p6 : Below W1.heap.size W1 ((u4.alloc (.cells #[.bool false, .bool false, .bool false, .bool false] 84)).setRow (u4.heap.size) #[.bool qa, .bool qb, .bool qc, .bool qd]) := brow p5 l5 _
          refine hK _ _ ⟨(HK.out _ p6).2, ?_⟩
          clear hK K
          refine wpAnyH_done (by kernel_rfl) ?_ _
          refine NoPanic.normal ?_
          try simp only [Act.put]
          exact tail _ _ l5 (setRow_heap _ _ #[.bool false, .bool false, .bool false, .bool false] _ 84 (0, 0) g5) p6
        · clear hi1
          refine wpOp_step rfl (fun K hK => ite_yes rfl ?_)
          simp only [List.getElem_toArray, List.getElem_cons_zero, List.getElem_cons_succ]
          go_simp
          have p7 : Below W1.heap.size W1 (u3.alloc (.cells #[.bool false, .bool false, .bool false, .bool false] 84)) := p3.alloc p3.size _
          have g7 : (u3.alloc (.cells #[.bool false, .bool false, .bool false, .bool false] 84)).heap[u3.heap.size]? = some (.cells #[.bool false, .bool false, .bool false, .bool false] 84 (0, 0)) := heap_alloc_new _ _
          have l7 : W1.heap.size ≤ u3.heap.size := p3.size
          refine hK _ _ ⟨(HK.out _ p7).2, ?_⟩
          clear hK K hS
          have hS := (HK.out _ p7).2
          refine wpAnyH_all (rs := [7]) (by kernel_rfl) (by simp) (fun i1 hi1 => ?_)
          obtain rfl : i1 = 7 := by simpa using hi1
          clear hi1
          refine wpOp_step rfl (fun K hK => ite_yes rfl ?_)
          simp only [List.getElem_toArray, List.getElem_cons_zero, List.getElem_cons_succ]
          go_simp
          refine (H40.out _).mono ?_
          rintro e u8 ⟨rfl, b8⟩
          have p8 : Below W1.heap.size W1 u8 := p7.trans (b8.mono p7.size)
          have g8 : u8.heap[u3.heap.size]? = some (.cells #[.bool false, .bool false, .bool false, .bool false] 84 (0, 0)) := (b8.block _ (Array.getElem?_eq_some_iff.1 g7).1).trans g7
          go_simp
          refine hK _ _ ⟨(HK.out _ p8).2, ?_⟩
          clear hK K hS
          have hS := (HK.out _ p8).2
          refine wpAnyH_take (i := 8) (v := .agg #[.bool qa, .bool qb, .bool qc, .bool qd]) rfl (by kernel_rfl) (by kernel_rfl) (by kernel_rfl) (fun _ _ _ h => h) (Or.inl ⟨by rfl, ?r⟩) hS ?_
          case r => intro W hW; simp [go_sem, execOp, Act.eval]
          simp only [List.getElem_toArray, List.getElem_cons_zero, List.getElem_cons_succ, Act.put, List.setIfInBounds_toArray, List.set_cons_succ, List.set_cons_zero]
          refine wpAnyH_all (rs := [10]) (by kernel_rfl) (by simp) (fun i1 hi1 => ?_)
          obtain rfl : i1 = 10 := by simpa using hi1
          clear hi1
          refine wpOp_step rfl (fun K hK => ite_yes rfl ?_)
          simp only [List.getElem_toArray, List.getElem_cons_zero, List.getElem_cons_succ]
          have cc9 := row_at g8
          have cf9 := fun j => fz _ _ _ _ j g8
          refine wp_store_row 84 _ _ rfl (u3.heap.size) #[.bool qa, .bool qb, .bool qc, .bool qd] rfl rfl 84 #[.bool false, .bool false, .bool false, .bool false] g8 (by kernel_rfl) (by kernel_rfl) (one84 _ _ _ _) ?_
          have p9 : Below W1.heap.size W1 (u8.setRow (u3.heap.size) #[.bool qa, .bool qb, .bool qc, .bool qd]) := brow p8 l7 _
          refine hK _ _ ⟨(HK.out _ p9).2, ?_⟩
          clear hK K
          refine wpAnyH_done (by kernel_rfl) ?_ _
          refine NoPanic.normal ?_
          try simp only [Act.put]
          exact tail _ _ l7 (setRow_heap _ _ #[.bool false, .bool false, .bool false, .bool false] _ 84 (0, 0) g8) p9
      · clear hi1
        refine wpOp_step rfl (fun K hK => ite_yes rfl ?_)
        simp only [List.getElem_toArray, List.getElem_cons_zero, List.getElem_cons_succ]
        go_simp
        have p10 : Below W1.heap.size W1 (u2.alloc (.cells #[.bool false, .bool false, .bool false, .bool false] 84)) := p2.alloc p2.size _
        have g10 : (u2.alloc (.cells #[.bool false, .bool false, .bool false, .bool false] 84)).heap[u2.heap.size]? = some (.cells #[.bool false, .bool false, .bool false, .bool false] 84 (0, 0)) := heap_alloc_new _ _
        have l10 : W1.heap.size ≤ u2.heap.size := p2.size
        refine hK _ _ ⟨(HK.out _ p10).2, ?_⟩
        clear hK K hS
        have hS := (HK.out _ p10).2
        refine wpAnyH_all (rs := [5]) (by kernel_rfl) (by simp) (fun i1 hi1 => ?_)
        obtain rfl : i1 = 5 := by simpa using hi1
        clear hi1
        refine wpOp_step rfl (fun K hK => ite_yes rfl ?_)
        simp only [List.getElem_toArray, List.getElem_cons_zero, List.getElem_cons_succ]
        go_simp
        refine (H39.out _ (HK.out _ p10).1).mono ?_
        rintro e u11 ⟨rfl, b11⟩
        have p11 : Below W1.heap.size W1 u11 := p10.trans (b11.mono p10.size)
        have g11 : u11.heap[u2.heap.size]? = some (.cells #[.bool false, .bool false, .bool false, .bool false] 84 (0, 0)) := (b11.block _ (Array.getElem?_eq_some_iff.1 g10).1).trans g10
        go_simp
        refine hK _ _ ⟨(HK.out _ p11).2, ?_⟩
        clear hK K hS
        have hS := (HK.out _ p11).2
        refine wpAnyH_all (rs := [7]) (by kernel_rfl) (by simp) (fun i1 hi1 => ?_)
        obtain rfl : i1 = 7 := by simpa using hi1
        clear hi1
        refine wpOp_step rfl (fun K hK => ite_yes rfl ?_)
        simp only [List.getElem_toArray, List.getElem_cons_zero, List.getElem_cons_succ]
        go_simp
        refine (H40.out _).mono ?_
        rintro e u12 ⟨rfl, b12⟩
        have p12 : Below W1.heap.size W1 u12 := p11.trans (b12.mono p11.size)
        have g12 : u12.heap[u2.heap.size]? = some (.cells #[.bool false, .bool false, .bool false, .bool false] 84 (0, 0)) := (b12.block _ (Array.getElem?_eq_some_iff.1 g11).1).trans g11
        go_simp
        refine hK _ _ ⟨(HK.out _ p12).2, ?_⟩
        clear hK K hS
        have hS := (HK.out _ p12).2
        refine wpAnyH_take (i := 8) (v := .agg #[.bool qa, .bool qb, .bool qc, .bool qd]) rfl (by kernel_rfl) (by kernel_rfl) (by kernel_rfl) (fun _ _ _ h => h) (Or.inl ⟨by rfl, ?r⟩) hS ?_
        case r => intro W hW; simp [go_sem, execOp, Act.eval]
        simp only [List.getElem_toArray, List.getElem_cons_zero, List.getElem_cons_succ, Act.put, List.setIfInBounds_toArray, List.set_cons_succ, List.set_cons_zero]
        refine wpAnyH_all (rs := [10]) (by kernel_rfl) (by simp) (fun i1 hi1 => ?_)
        obtain rfl : i1 = 10 := by simpa using hi1
        clear hi1
        refine wpOp_step rfl (fun K hK => ite_yes rfl ?_)
        simp only [List.getElem_toArray, List.getElem_cons_zero, List.getElem_cons_succ]
        have cc13 := row_at g12
        have cf13 := fun j => fz _ _ _ _ j g12
        refine wp_store_row 84 _ _ rfl (u2.heap.size) #[.bool qa, .bool qb, .bool qc, .bool qd] rfl rfl 84 #[.bool false, .bool false, .bool false, .bool false] g12 (by kernel_rfl) (by kernel_rfl) (one84 _ _ _ _) ?_
        have p13 : Below W1.heap.size W1 (u12.setRow (u2.heap.size) #[.bool qa, .bool qb, .bool qc, .bool qd]) := brow p12 l10 _
        refine hK _ _ ⟨(HK.out _ p13).2, ?_⟩
        clear hK K
        refine wpAnyH_done (by kernel_rfl) ?_ _
        refine NoPanic.normal ?_
        try simp only [Act.put]
        exact tail _ _ l10 (setRow_heap _ _ #[.bool false, .bool false, .bool false, .bool false] _ 84 (0, 0) g12) p13
    · clear hi1
      refine wpOp_step rfl (fun K hK => ite_yes rfl ?_)
      simp only [List.getElem_toArray, List.getElem_cons_zero, List.getElem_cons_succ]
      go_simp
      have p14 : Below W1.heap.size W1 (u1.alloc (.cells #[.bool false, .bool false, .bool false, .bool false] 84)) := p1.alloc p1.size _
      have g14 : (u1.alloc (.cells #[.bool false, .bool false, .bool false, .bool false] 84)).heap[u1.heap.size]? = some (.cells #[.bool false, .bool false, .bool false, .bool false] 84 (0, 0)) := heap_alloc_new _ _
      have l14 : W1.heap.size ≤ u1.heap.size := p1.size
      refine hK _ _ ⟨(HK.out _ p14).2, ?_⟩
      clear hK K hS
      have hS := (HK.out _ p14).2
      refine wpAnyH_all (rs := [3]) (by kernel_rfl) (by simp) (fun i1 hi1 => ?_)
      obtain rfl : i1 = 3 := by simpa using hi1
      clear hi1
      refine wpOp_step rfl (fun K hK => ite_yes rfl ?_)
      simp only [List.getElem_toArray, List.getElem_cons_zero, List.getElem_cons_succ]
      go_simp
      refine (H38.out _).mono ?_
      rintro e u15 ⟨rfl, b15⟩
      have p15 : Below W1.heap.size W1 u15 := p14.trans (b15.mono p14.size)
      have g15 : u15.heap[u1.heap.size]? = some (.cells #[.bool false, .bool false, .bool false, .bool false] 84 (0, 0)) := (b15.block _ (Array.getElem?_eq_some_iff.1 g14).1).trans g14
      go_simp
      refine hK _ _ ⟨(HK.out _ p15).2, ?_⟩
      clear hK K hS
      have hS := (HK.out _ p15).2
      refine wpAnyH_all (rs := [5]) (by kernel_rfl) (by simp) (fun i1 hi1 => ?_)
      obtain rfl : i1 = 5 := by simpa using hi1
      clear hi1
      refine wpOp_step rfl (fun K hK => ite_yes rfl ?_)
      simp only [List.getElem_toArray, List.getElem_cons_zero, List.getElem_cons_succ]
      go_simp
      refine (H39.out _ (HK.out _ p15).1).mono ?_
      rintro e u16 ⟨rfl, b16⟩
      have p16 : Below W1.heap.size W1 u16 := p15.trans (b16.mono p15.size)
      have g16 : u16.heap[u1.heap.size]? = some (.cells #[.bool false, .bool false, .bool false, .bool false] 84 (0, 0)) := (b16.block _ (Array.getElem?_eq_some_iff.1 g15).1).trans g15
      go_simp
      refine hK _ _ ⟨(HK.out _ p16).2, ?_⟩
      clear hK K hS
      have hS := (HK.out _ p16).2
      refine wpAnyH_all (rs := [7]) (by kernel_rfl) (by simp) (fun i1 hi1 => ?_)
      obtain rfl : i1 = 7 := by simpa using hi1
      clear hi1
      refine wpOp_step rfl (fun K hK => ite_yes rfl ?_)
      simp only [List.getElem_toArray, List.getElem_cons_zero, List.getElem_cons_succ]
      go_simp
      refine (H40.out _).mono ?_
      rintro e u17 ⟨rfl, b17⟩
      have p17 : Below W1.heap.size W1 u17 := p16.trans (b17.mono p16.size)
      have g17 : u17.heap[u1.heap.size]? = some (.cells #[.bool false, .bool false, .bool false, .bool false] 84 (0, 0)) := (b17.block _ (Array.getElem?_eq_some_iff.1 g16).1).trans g16
      go_simp
      refine hK _ _ ⟨(HK.out _ p17).2, ?_⟩
      clear hK K hS
      have hS := (HK.out _ p17).2
      refine wpAnyH_take (i := 8) (v := .agg #[.bool qa, .bool qb, .bool qc, .bool qd]) rfl (by kernel_rfl) (by kernel_rfl) (by kernel_rfl) (fun _ _ _ h => h) (Or.inl ⟨by rfl, ?r⟩) hS ?_
      case r => intro W hW; simp [go_sem, execOp, Act.eval]
      simp only [List.getElem_toArray, List.getElem_cons_zero, List.getElem_cons_succ, Act.put, List.setIfInBounds_toArray, List.set_cons_succ, List.set_cons_zero]
      refine wpAnyH_all (rs := [10]) (by kernel_rfl) (by simp) (fun i1 hi1 => ?_)
      obtain rfl : i1 = 10 := by simpa using hi1
      clear hi1
      refine wpOp_step rfl (fun K hK => ite_yes rfl ?_)
      simp only [List.getElem_toArray, List.getElem_cons_zero, List.getElem_cons_succ]
      have cc18 := row_at g17
      have cf18 := fun j => fz _ _ _ _ j g17
      refine wp_store_row 84 _ _ rfl (u1.heap.size) #[.bool qa, .bool qb, .bool qc, .bool qd] rfl rfl 84 #[.bool false, .bool false, .bool false, .bool false] g17 (by kernel_rfl) (by kernel_rfl) (one84 _ _ _ _) ?_
      have p18 : Below W1.heap.size W1 (u17.setRow (u1.heap.size) #[.bool qa, .bool qb, .bool qc, .bool qd]) := brow p17 l14 _
      refine hK _ _ ⟨(HK.out _ p18).2, ?_⟩
      clear hK K
      refine wpAnyH_done (by kernel_rfl) ?_ _
      refine NoPanic.normal ?_
      try simp only [Act.put]
      exact tail _ _ l14 (setRow_heap _ _ #[.bool false, .bool false, .bool false, .bool false] _ 84 (0, 0) g17) p18
  · clear hi1
    refine wpOp_step rfl (fun K hK => ite_yes rfl ?_)
    simp only [List.getElem_toArray, List.getElem_cons_zero, List.getElem_cons_succ]
    go_simp
    have p19 : Below W1.heap.size W1 (W4.alloc (.cells #[.bool false, .bool false, .bool false, .bool false] 84)) := p0.alloc p0.size _
    have g19 : (W4.alloc (.cells #[.bool false, .bool false, .bool false, .bool false] 84)).heap[W4.heap.size]? = some (.cells #[.bool false, .bool false, .bool false, .bool false] 84 (0, 0)) := heap_alloc_new _ _
    have l19 : W1.heap.size ≤ W4.heap.size := p0.size
    refine hK _ _ ⟨(HK.out _ p19).2, ?_⟩
    clear hK K hS
    have hS := (HK.out _ p19).2
    refine wpAnyH_all (rs := [1]) (by kernel_rfl) (by simp) (fun i1 hi1 => ?_)
    obtain rfl : i1 = 1 := by simpa using hi1
    clear hi1
    refine wpOp_step rfl (fun K hK => ite_yes rfl ?_)
    simp only [List.getElem_toArray, List.getElem_cons_zero, List.getElem_cons_succ]
    go_simp
    refine (H20.out _).mono ?_
    rintro e u20 ⟨rfl, b20⟩
    have p20 : Below W1.heap.size W1 u20 := p19.trans (b20.mono p19.size)
    have g20 : u20.heap[W4.heap.size]? = some (.cells #[.bool false, .bool false, .bool false, .bool false] 84 (0, 0)) := (b20.block _ (Array.getElem?_eq_some_iff.1 g19).1).trans g19
    go_simp
    refine hK _ _ ⟨(HK.out _ p20).2, ?_⟩
    clear hK K hS
    have hS := (HK.out _ p20).2
    refine wpAnyH_all (rs := [3]) (by kernel_rfl) (by simp) (fun i1 hi1 => ?_)
    obtain rfl : i1 = 3 := by simpa using hi1
    clear hi1
    refine wpOp_step rfl (fun K hK => ite_yes rfl ?_)
    simp only [List.getElem_toArray, List.getElem_cons_zero, List.getElem_cons_succ]
    go_simp
    refine (H38.out _).mono ?_
    rintro e u21 ⟨rfl, b21⟩
    have p21 : Below W1.heap.size W1 u21 := p20.trans (b21.mono p20.size)
    have g21 : u21.heap[W4.heap.size]? = some (.cells #[.bool false, .bool false, .bool false, .bool false] 84 (0, 0)) := (b21.block _ (Array.getElem?_eq_some_iff.1 g20).1).trans g20
    go_simp
    refine hK _ _ ⟨(HK.out _ p21).2, ?_⟩
    clear hK K hS
    have hS := (HK.out _ p21).2
    refine wpAnyH_all (rs := [5]) (by kernel_rfl) (by simp) (fun i1 hi1 => ?_)
    obtain rfl : i1 = 5 := by simpa using hi1
    clear hi1
    refine wpOp_step rfl (fun K hK => ite_yes rfl ?_)
    simp only [List.getElem_toArray, List.getElem_cons_zero, List.getElem_cons_succ]
    go_simp
    refine (H39.out _ (HK.out _ p21).1).mono ?_
    rintro e u22 ⟨rfl, b22⟩
    have p22 : Below W1.heap.size W1 u22 := p21.trans (b22.mono p21.size)
    have g22 : u22.heap[W4.heap.size]? = some (.cells #[.bool false, .bool false, .bool false, .bool false] 84 (0, 0)) := (b22.block _ (Array.getElem?_eq_some_iff.1 g21).1).trans g21
    go_simp
    refine hK _ _ ⟨(HK.out _ p22).2, ?_⟩
    clear hK K hS
    have hS := (HK.out _ p22).2
    refine wpAnyH_all (rs := [7]) (by kernel_rfl) (by simp) (fun i1 hi1 => ?_)
    obtain rfl : i1 = 7 := by simpa using hi1
    clear hi1
    refine wpOp_step rfl (fun K hK => ite_yes rfl ?_)
    simp only [List.getElem_toArray, List.getElem_cons_zero, List.getElem_cons_succ]
    go_simp
    refine (H40.out _).mono ?_
    rintro e u23 ⟨rfl, b23⟩
    have p23 : Below W1.heap.size W1 u23 := p22.trans (b23.mono p22.size)
    have g23 : u23.heap[W4.heap.size]? = some (.cells #[.bool false, .bool false, .bool false, .bool false] 84 (0, 0)) := (b23.block _ (Array.getElem?_eq_some_iff.1 g22).1).trans g22
    go_simp
    refine hK _ _ ⟨(HK.out _ p23).2, ?_⟩
    clear hK K hS
    have hS := (HK.out _ p23).2
    refine wpAnyH_take (i := 8) (v := .agg #[.bool qa, .bool qb, .bool qc, .bool qd]) rfl (by kernel_rfl) (by kernel_rfl) (by kernel_rfl) (fun _ _ _ h => h) (Or.inl ⟨by rfl, ?r⟩) hS ?_
    case r => intro W hW; simp [go_sem, execOp, Act.eval]
    simp only [List.getElem_toArray, List.getElem_cons_zero, List.getElem_cons_succ, Act.put, List.setIfInBounds_toArray, List.set_cons_succ, List.set_cons_zero]
    refine wpAnyH_all (rs := [10]) (by kernel_rfl) (by simp) (fun i1 hi1 => ?_)
    obtain rfl : i1 = 10 := by simpa using hi1
    clear hi1
    refine wpOp_step rfl (fun K hK => ite_yes rfl ?_)
    simp only [List.getElem_toArray, List.getElem_cons_zero, List.getElem_cons_succ]
    have cc24 := row_at g23
    have cf24 := fun j => fz _ _ _ _ j g23
    refine wp_store_row 84 _ _ rfl (W4.heap.size) #[.bool qa, .bool qb, .bool qc, .bool qd] rfl rfl 84 #[.bool false, .bool false, .bool false, .bool false] g23 (by kernel_rfl) (by kernel_rfl) (one84 _ _ _ _) ?_
    have p24 : Below W1.heap.size W1 (u23.setRow (W4.heap.size) #[.bool qa, .bool qb, .bool qc, .bool qd]) := brow p23 l19 _
    refine hK _ _ ⟨(HK.out _ p24).2, ?_⟩
    clear hK K
    refine wpAnyH_done (by kernel_rfl) ?_ _
    refine NoPanic.normal ?_
    try simp only [Act.put]
    exact tail _ _ l19 (setRow_heap _ _ #[.bool false, .bool false, .bool false, .bool false] _ 84 (0, 0) g23) p24
end Go.Proofs.YtnhbpcmiolkllaaDoor
