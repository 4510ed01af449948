/-
  What may stand beside a value, at any two data.
-/
import Derived.Test.YtnhbpcmiolkllabDoorIc2J
namespace Go.Proofs.YtnhbpcmiolkllabDoor
open Go.RowKit
attribute [local go_sem] refold2 cell3_0 cell3_1 b28_0 b28_01

theorem typed_eql (k : Int) (t : ByteArray) (k' : Int) (t' : ByteArray) (w : World) : (binOp .eql 77 (.agg #[.int .i64 k, .string t]) (.agg #[.int .i64 k', .string t'])).run Tryd.prog w = .ok (.bool (k == k' && t.toList == t'.toList)) w := by
  by_cases h0 : k = k'
  · by_cases h1 : t.toList = t'.toList
    · simp [go_sem, h0, h1]
    · simp [go_sem, h0, h1]
  · simp [go_sem, h0]
set_option maxRecDepth 100000 in
set_option maxHeartbeats 4000000 in
theorem beside_like (n b : Nat) (k : Int) (t : ByteArray) (a f : Int) (s : ByteArray) (r0 r1 r2 r3 : Int) (pp : Option Addr) (path : List Int) (pc : Nat) (ip : Option Addr) (ic : Nat) (items : List MD) (k' : Int) (t' : ByteArray) (a' f' : Int) (s' : ByteArray) (r0' r1' r2' r3' : Int) (pp' : Option Addr) (path' : List Int) (pc' : Nat) (ip' : Option Addr) (ic' : Nat) (items' : List MD) (w : World) (hN : NamesAt w)
    (hr : w.heap[b]? = some (.cells #[.int .i64 k, .string t, .int .i64 a, .int .u64 f, .string s, .int .i64 r0, .int .i64 r1, .int .i64 r2, .int .i64 r3, .slice pp path.length pc, .slice ip items.length ic] 32 (0, 0))) (hy : MD.In w.heap.size w n ⟨⟨k', t', a', f', s', r0', r1', r2', r3', pp', path', pc'⟩, ip', ic', items'⟩) (he : k = k' ∧ t = t') :
    Calls Tryd.prog 77 #[.agg #[.pointer (some ⟨b, 0, none⟩)], .agg #[.int .i64 k', .string t', .int .i64 a', .int .u64 f', .string s', .int .i64 r0', .int .i64 r1', .int .i64 r2', .int .i64 r3', .slice pp' path'.length pc', .slice ip' items'.length ic']] w fun r w' => r = .returned (.bool (MD.right n ⟨⟨k', t', a', f', s', r0', r1', r2', r3', pp', path', pc'⟩, ip', ic', items'⟩)) ∧ Below w.heap.size w w' := by
  have hb : b < w.heap.size := (Array.getElem?_eq_some_iff.1 hr).1
  obtain ⟨W2, hW2⟩ : ∃ W2, W2 = (w.alloc (.cells #[.pointer (some ⟨b, 0, none⟩)] 90)).alloc (.cells #[.int .i64 k', .string t', .int .i64 a', .int .u64 f', .string s', .int .i64 r0', .int .i64 r1', .int .i64 r2', .int .i64 r3', .slice pp' path'.length pc', .slice ip' items'.length ic'] 32) := ⟨_, rfl⟩
  have hB2 : Below w.heap.size w W2 := by rw [hW2]; exact below2 _ _ _
  have hz2 : W2.heap.size = w.heap.size + 2 := by rw [hW2]; simp
  have R0 : Hid (W2.heap[w.heap.size]? = some (.cells #[.pointer (some ⟨b, 0, none⟩)] 90 (0, 0))) := by rw [hW2, Below.heap_alloc _ _ _ (by simp)]; exact heap_alloc_new _ _
  have R1 : Hid (W2.heap[w.heap.size + 1]? = some (.cells #[.int .i64 k', .string t', .int .i64 a', .int .u64 f', .string s', .int .i64 r0', .int .i64 r1', .int .i64 r2', .int .i64 r3', .slice pp' path'.length pc', .slice ip' items'.length ic'] 32 (0, 0))) := by rw [hW2]; exact heap2_1 _ _ _
  have HK : Hid (∀ W, Below W2.heap.size W2 W → (W.cell? ⟨w.heap.size, 0, none⟩ = some (.pointer (some ⟨b, 0, none⟩)) ∧ (∀ j, W.cell? ⟨b, j, none⟩ = (#[.int .i64 k, .string t, .int .i64 a, .int .u64 f, .string s, .int .i64 r0, .int .i64 r1, .int .i64 r2, .int .i64 r3, .slice pp path.length pc, .slice ip items.length ic] : Array Value)[j]?) ∧ (∀ j, W.cell? ⟨w.heap.size + 1, j, none⟩ = (#[.int .i64 k', .string t', .int .i64 a', .int .u64 f', .string s', .int .i64 r0', .int .i64 r1', .int .i64 r2', .int .i64 r3', .slice pp' path'.length pc', .slice ip' items'.length ic'] : Array Value)[j]?))) := fun W hW => ⟨row_at ((hW.block w.heap.size (by omega)).trans R0.out) 0, fun j => row_at ((hW.block b (by omega)).trans ((hB2.block b hb).trans hr)) j, fun j => row_at ((hW.block (w.heap.size + 1) (by omega)).trans R1.out) j⟩
  have HTA : Hid (∀ W, Calls Tryd.prog 42 #[.agg #[.int .i64 k, .string t, .int .i64 a, .int .u64 f, .string s, .int .i64 r0, .int .i64 r1, .int .i64 r2, .int .i64 r3, .slice pp path.length pc, .slice ip items.length ic]] W fun r w' => r = .returned (.agg #[.int .i64 k, .string t]) ∧ Below W.heap.size W w') := fun W => typeOf_any k t a f s r0 r1 r2 r3 _ _ W
  have HTB : Hid (∀ W, Calls Tryd.prog 42 #[.agg #[.int .i64 k', .string t', .int .i64 a', .int .u64 f', .string s', .int .i64 r0', .int .i64 r1', .int .i64 r2', .int .i64 r3', .slice pp' path'.length pc', .slice ip' items'.length ic']] W fun r w' => r = .returned (.agg #[.int .i64 k', .string t']) ∧ Below W.heap.size W w') := fun W => typeOf_any k' t' a' f' s' r0' r1' r2' r3' _ _ W
  have HR : Hid (∀ W, Below W2.heap.size W2 W → Calls Tryd.prog 8 #[.agg #[.int .i64 k', .string t', .int .i64 a', .int .u64 f', .string s', .int .i64 r0', .int .i64 r1', .int .i64 r2', .int .i64 r3', .slice pp' path'.length pc', .slice ip' items'.length ic']] W fun r w' => r = .returned (.bool (MD.right n ⟨⟨k', t', a', f', s', r0', r1', r2', r3', pp', path', pc'⟩, ip', ic', items'⟩)) ∧ Below W.heap.size W w') := fun W hW => Right_any n ⟨⟨k', t', a', f', s', r0', r1', r2', r3', pp', path', pc'⟩, ip', ic', items'⟩ W (hN.kept (hB2.trans (hW.mono hB2.size))) (hy.later (Nat.le_refl _) (hB2.trans (hW.mono hB2.size)))
  obtain ⟨rfl, rfl⟩ := he
  generalize MD.right n ⟨⟨k, t, a', f', s', r0', r1', r2', r3', pp', path', pc'⟩, ip', ic', items'⟩ = q at HR ⊢
  have HQ : ∀ W, (binOp .eql 77 (.agg #[.int .i64 k, .string t]) (.agg #[.int .i64 k, .string t])).run Tryd.prog W = .ok (.bool true) W := fun W => by rw [typed_eql]; simp
  clear hN hr hy
  go_enter Tryd.func77, Tryd.ntmps77
  go_wp2_with fail
  rw [← hW2]
  clear hW2
  refine wp_region_noPanic ?_
  refine wp_region_held (S := fun W => W.cell? ⟨w.heap.size, 0, none⟩ = some (.pointer (some ⟨b, 0, none⟩)) ∧ (∀ j, W.cell? ⟨b, j, none⟩ = (#[.int .i64 k, .string t, .int .i64 a, .int .u64 f, .string s, .int .i64 r0, .int .i64 r1, .int .i64 r2, .int .i64 r3, .slice pp path.length pc, .slice ip items.length ic] : Array Value)[j]?) ∧ (∀ j, W.cell? ⟨w.heap.size + 1, j, none⟩ = (#[.int .i64 k, .string t, .int .i64 a', .int .u64 f', .string s', .int .i64 r0', .int .i64 r1', .int .i64 r2', .int .i64 r3', .slice pp' path'.length pc', .slice ip' items'.length ic'] : Array Value)[j]?)) (by kernel_rfl) ?_
  obtain ⟨W4, hW4⟩ : ∃ W4, W4 = W2.drew := ⟨_, rfl⟩
  have e4 : ({ W2 with drawn := W2.drawn + 1 } : World) = W4 := hW4.symm
  rw [e4]
  have hW4' : Below W2.heap.size W2 W4 := by rw [hW4]; exact (Below.refl _ _).drew
  have hS := HK.out W4 hW4'
  clear e4 hW4
  have hW4 := hW4'
  clear hW4'
  refine wpAnyH_take (i := 0) (v := .pointer (some ⟨w.heap.size, 0, none⟩)) rfl (by kernel_rfl) (by kernel_rfl) (by kernel_rfl) (fun _ _ _ h => h) (Or.inl ⟨by rfl, ?r⟩) hS ?_
  case r => intro W hW; simp [go_sem, execOp, Act.eval]
  simp only [List.getElem_toArray, List.getElem_cons_zero, Act.put, List.setIfInBounds_toArray, List.set_cons_succ, List.set_cons_zero]
  refine wpAnyH_take (i := 1) (v := .pointer (some ⟨b, 0, none⟩)) rfl (by kernel_rfl) (by kernel_rfl) (by kernel_rfl) (fun _ _ _ h => h) (Or.inl ⟨by rfl, ?r⟩) hS ?_
  case r => intro W hW; simp [go_sem, execOp, Act.eval, hW.1]
  simp only [List.getElem_toArray, List.getElem_cons_zero, List.getElem_cons_succ, Act.put, List.setIfInBounds_toArray, List.set_cons_succ, List.set_cons_zero]
  refine wpAnyH_take (i := 2) (v := .pointer (some ⟨b, 0, none⟩)) rfl (by kernel_rfl) (by kernel_rfl) (by kernel_rfl) (fun _ _ _ h => h) (Or.inl ⟨by rfl, ?r⟩) hS ?_
  case r => intro W hW; simp [go_sem, execOp, Act.eval]
  simp only [List.getElem_toArray, List.getElem_cons_zero, List.getElem_cons_succ, Act.put, List.setIfInBounds_toArray, List.set_cons_succ, List.set_cons_zero]
  refine wpAnyH_take (i := 3) (v := .agg #[.int .i64 k, .string t, .int .i64 a, .int .u64 f, .string s, .int .i64 r0, .int .i64 r1, .int .i64 r2, .int .i64 r3, .slice pp path.length pc, .slice ip items.length ic]) rfl (by kernel_rfl) (by kernel_rfl) (by kernel_rfl) (fun _ _ _ h => h) (Or.inl ⟨by rfl, ?r⟩) hS ?_
  case r => intro W hW; simp [go_sem, execOp, Act.eval, hW.2.1]
  simp only [List.getElem_toArray, List.getElem_cons_zero, List.getElem_cons_succ, Act.put, List.setIfInBounds_toArray, List.set_cons_succ, List.set_cons_zero]
  refine wpAnyH_take (i := 5) (v := .agg #[.int .i64 k, .string t, .int .i64 a', .int .u64 f', .string s', .int .i64 r0', .int .i64 r1', .int .i64 r2', .int .i64 r3', .slice pp' path'.length pc', .slice ip' items'.length ic']) rfl (by kernel_rfl) (by kernel_rfl) (by kernel_rfl) (fun _ _ _ h => h) (Or.inl ⟨by rfl, ?r⟩) hS ?_
  case r => intro W hW; simp [go_sem, execOp, Act.eval, hW.2.2]
  simp only [List.getElem_toArray, List.getElem_cons_zero, List.getElem_cons_succ, Act.put, List.setIfInBounds_toArray, List.set_cons_succ, List.set_cons_zero]
  refine wpAnyH_all (rs := [4]) (by kernel_rfl) (by simp) (fun i2 hi2 => ?_)
  obtain rfl : i2 = 4 := by simpa using hi2
  clear hi2
  refine wpOp_step rfl (fun K hK => ite_yes rfl ?_)
  simp only [List.getElem_toArray, List.getElem_cons_zero, List.getElem_cons_succ]
  go_simp
  refine (HTA.out _).mono ?_
  rintro e w5 ⟨rfl, bw5⟩
  have hw5 : Below W2.heap.size W2 w5 := hW4.trans (bw5.mono hW4.size)
  go_simp
  refine hK _ _ ⟨HK.out _ hw5, ?_⟩
  clear hK K hS
  have hS := HK.out _ hw5
  refine wpAnyH_all (rs := [6]) (by kernel_rfl) (by simp) (fun i2 hi2 => ?_)
  obtain rfl : i2 = 6 := by simpa using hi2
  clear hi2
  refine wpOp_step rfl (fun K hK => ite_yes rfl ?_)
  simp only [List.getElem_toArray, List.getElem_cons_zero, List.getElem_cons_succ]
  go_simp
  refine (HTB.out _).mono ?_
  rintro e w6 ⟨rfl, bw6⟩
  have hw6 : Below W2.heap.size W2 w6 := hw5.trans (bw6.mono hw5.size)
  go_simp
  refine hK _ _ ⟨HK.out _ hw6, ?_⟩
  clear hK K hS
  have hS := HK.out _ hw6
  refine wpAnyH_take (i := 7) (v := .bool true) rfl (by kernel_rfl) (by kernel_rfl) (by kernel_rfl) (fun _ _ _ h => h) (Or.inl ⟨by rfl, ?r⟩) hS ?_
  case r => intro W hW; simp [go_sem, execOp, Act.eval, HQ]
  simp only [List.getElem_toArray, List.getElem_cons_zero, List.getElem_cons_succ, Act.put, List.setIfInBounds_toArray, List.set_cons_succ, List.set_cons_zero]
  refine wpAnyH_take (i := 8) (v := .bool true) rfl (by kernel_rfl) (by kernel_rfl) (by kernel_rfl) (fun _ _ _ h => h) (Or.inl ⟨by rfl, ?r⟩) hS ?_
  case r => intro W hW; simp [go_sem, execOp, Act.eval]
  simp only [List.getElem_toArray, List.getElem_cons_zero, List.getElem_cons_succ, Act.put, List.setIfInBounds_toArray, List.set_cons_succ, List.set_cons_zero]
  refine wpAnyH_take (i := 9) (v := .agg #[.int .i64 k, .string t, .int .i64 a', .int .u64 f', .string s', .int .i64 r0', .int .i64 r1', .int .i64 r2', .int .i64 r3', .slice pp' path'.length pc', .slice ip' items'.length ic']) rfl (by kernel_rfl) (by kernel_rfl) (by kernel_rfl) (fun _ _ _ h => h) (Or.inl ⟨by rfl, ?r⟩) hS ?_
  case r => intro W hW; simp [go_sem, execOp, Act.eval, hW.2.2]
  simp only [List.getElem_toArray, List.getElem_cons_zero, List.getElem_cons_succ, Act.put, List.setIfInBounds_toArray, List.set_cons_succ, List.set_cons_zero]
  refine wpAnyH_all (rs := [10]) (by kernel_rfl) (by simp) (fun i2 hi2 => ?_)
  obtain rfl : i2 = 10 := by simpa using hi2
  clear hi2
  refine wpOp_step rfl (fun K hK => ite_yes rfl ?_)
  simp only [List.getElem_toArray, List.getElem_cons_zero, List.getElem_cons_succ]
  go_simp
  refine (HR.out _ hw6).mono ?_
  rintro e w7 ⟨rfl, bw7⟩
  have hw7 : Below W2.heap.size W2 w7 := hw6.trans (bw7.mono hw6.size)
  go_simp
  refine hK _ _ ⟨HK.out _ hw7, ?_⟩
  clear hK K hS
  have hS := HK.out _ hw7
  refine wpAnyH_take (i := 11) (v := .bool q) rfl (by kernel_rfl) (by kernel_rfl) (by kernel_rfl) (fun _ _ _ h => h) (Or.inl ⟨by rfl, ?r⟩) hS ?_
  case r => intro W hW; simp [go_sem, execOp, Act.eval]
  simp only [List.getElem_toArray, List.getElem_cons_zero, List.getElem_cons_succ, Act.put, List.setIfInBounds_toArray, List.set_cons_succ, List.set_cons_zero]
  refine wpAnyH_take (i := 12) (v := .bool q) rfl (by kernel_rfl) (by kernel_rfl) (by kernel_rfl) (fun _ _ _ h => h) (Or.inl ⟨by rfl, ?r⟩) hS ?_
  case r => intro W hW; simp [go_sem, execOp, Act.eval]
  simp only [List.getElem_toArray, List.getElem_cons_zero, List.getElem_cons_succ, Act.put, List.setIfInBounds_toArray, List.set_cons_succ, List.set_cons_zero]
  refine wpAnyH_done (by kernel_rfl) ?_ _
  refine NoPanic.normal ?_
  try simp only [Act.put]
  go_wp2_with fail
  go_ret
  exact ⟨rfl, hB2.trans (hw7.mono (by omega))⟩
end Go.Proofs.YtnhbpcmiolkllabDoor
