/-
  Same, at any two data.
-/
import Derived.Test.YtnhbpcmiolkllabDoorSe
import Derived.Test.YtnhbpcmiolkllabDoorG
namespace Go.Proofs.YtnhbpcmiolkllabDoor
open Go.RowKit
attribute [local go_sem] refold2 cell3_0 cell3_1 b28_0 b28_01

theorem kept1' {w W : World} {c : Array Value} {t : TypeId} (b : Below (w.alloc (.cells c t)).heap.size (w.alloc (.cells c t)) W) : Below w.heap.size w W ∧ ∀ j, W.cell? ⟨w.heap.size, j, none⟩ = c[j]? :=
  ⟨(below1 w _).trans (b.mono (by simp)), fun j => by rw [b.cell (p := ⟨w.heap.size, j, none⟩) (by simp)]; exact row_at (heap_alloc_new _ _) j⟩
def SameC (n : Nat) : Prop := ∀ (a b : MD) (w : World), MD.In w.heap.size w n a → MD.In w.heap.size w n b → Calls Tryd.prog 12 #[a.val, b.val] w fun r w' => r = .returned (.bool (MD.same n a b)) ∧ Below w.heap.size w w'

set_option maxRecDepth 100000 in
set_option maxHeartbeats 4000000 in
theorem same_no (x y : MD) (w : World) (hne : sameH x.h y.h x.items.length y.items.length = false) :
    Calls Tryd.prog 12 #[x.val, y.val] w fun r w' => r = .returned (.bool false) ∧ Below w.heap.size w w' := by
  obtain ⟨⟨k, t, a, f, s, r0, r1, r2, r3, pp, path, pc⟩, ip, ic, items⟩ := x
  obtain ⟨⟨k', t', a', f', s', r0', r1', r2', r3', pp', path', pc'⟩, ip', ic', items'⟩ := y
  have HQ : ∀ W, (binOp .neq 79 (.agg #[.int .i64 k, .string t, .int .i64 a, .int .u64 f, .string s, .int .i64 r0, .int .i64 r1, .int .i64 r2, .int .i64 r3, .int .i64 path.length, .int .i64 items.length]) (.agg #[.int .i64 k', .string t', .int .i64 a', .int .u64 f', .string s', .int .i64 r0', .int .i64 r1', .int .i64 r2', .int .i64 r3', .int .i64 path'.length, .int .i64 items'.length])).run Tryd.prog W = .ok (.bool true) W := fun W => by
    rw [head_neq2, ← sameH_eq ⟨k, t, a, f, s, r0, r1, r2, r3, pp, path, pc⟩ ⟨k', t', a', f', s', r0', r1', r2', r3', pp', path', pc'⟩ items.length items'.length, hne]; rfl
  clear hne
  simp only [MD.val, D]
  obtain ⟨W2, hW2⟩ : ∃ W2, W2 = (w.alloc (.cells #[.int .i64 k, .string t, .int .i64 a, .int .u64 f, .string s, .int .i64 r0, .int .i64 r1, .int .i64 r2, .int .i64 r3, .slice pp path.length pc, .slice ip items.length ic] 32)).alloc (.cells #[.int .i64 k', .string t', .int .i64 a', .int .u64 f', .string s', .int .i64 r0', .int .i64 r1', .int .i64 r2', .int .i64 r3', .slice pp' path'.length pc', .slice ip' items'.length ic'] 32) := ⟨_, rfl⟩
  have HK : Hid (∀ W, Below W2.heap.size W2 W → Below w.heap.size w W ∧ (∀ i, W.cell? ⟨w.heap.size, i, none⟩ = (#[.int .i64 k, .string t, .int .i64 a, .int .u64 f, .string s, .int .i64 r0, .int .i64 r1, .int .i64 r2, .int .i64 r3, .slice pp path.length pc, .slice ip items.length ic] : Array Value)[i]?) ∧ (∀ i, W.cell? ⟨w.heap.size + 1, i, none⟩ = (#[.int .i64 k', .string t', .int .i64 a', .int .u64 f', .string s', .int .i64 r0', .int .i64 r1', .int .i64 r2', .int .i64 r3', .slice pp' path'.length pc', .slice ip' items'.length ic'] : Array Value)[i]?)) := fun W hW => by rw [hW2] at hW; exact kept2 hW
  have hz2 : W2.heap.size = w.heap.size + 2 := by rw [hW2]; simp
  have HH : Hid (∀ W, Calls Tryd.prog 27 #[.agg #[.int .i64 k, .string t, .int .i64 a, .int .u64 f, .string s, .int .i64 r0, .int .i64 r1, .int .i64 r2, .int .i64 r3, .slice pp path.length pc, .slice ip items.length ic]] W fun r w' => r = .returned (.agg #[.int .i64 k, .string t, .int .i64 a, .int .u64 f, .string s, .int .i64 r0, .int .i64 r1, .int .i64 r2, .int .i64 r3, .int .i64 path.length, .int .i64 items.length]) ∧ Below W.heap.size W w') := fun W => headOf_any _ _ _ _ _ _ _ _ _ _ _ _ _ _ _ W
  have HH2 : Hid (∀ W, Calls Tryd.prog 27 #[.agg #[.int .i64 k', .string t', .int .i64 a', .int .u64 f', .string s', .int .i64 r0', .int .i64 r1', .int .i64 r2', .int .i64 r3', .slice pp' path'.length pc', .slice ip' items'.length ic']] W fun r w' => r = .returned (.agg #[.int .i64 k', .string t', .int .i64 a', .int .u64 f', .string s', .int .i64 r0', .int .i64 r1', .int .i64 r2', .int .i64 r3', .int .i64 path'.length, .int .i64 items'.length]) ∧ Below W.heap.size W w') := fun W => headOf_any _ _ _ _ _ _ _ _ _ _ _ _ _ _ _ W
  go_enter Tryd.func12, Tryd.ntmps12
  go_wp2_with fail
  rw [← hW2]
  clear hW2
  refine wp_region_noPanic ?_
  refine wp_region_held (S := fun W => (∀ i, W.cell? ⟨w.heap.size, i, none⟩ = (#[.int .i64 k, .string t, .int .i64 a, .int .u64 f, .string s, .int .i64 r0, .int .i64 r1, .int .i64 r2, .int .i64 r3, .slice pp path.length pc, .slice ip items.length ic] : Array Value)[i]?) ∧ (∀ i, W.cell? ⟨w.heap.size + 1, i, none⟩ = (#[.int .i64 k', .string t', .int .i64 a', .int .u64 f', .string s', .int .i64 r0', .int .i64 r1', .int .i64 r2', .int .i64 r3', .slice pp' path'.length pc', .slice ip' items'.length ic'] : Array Value)[i]?)) (by kernel_rfl) ?_
  obtain ⟨W4, hW4⟩ : ∃ W4, W4 = W2.drew := ⟨_, rfl⟩
  have e4 : ({ W2 with drawn := W2.drawn + 1 } : World) = W4 := hW4.symm
  rw [e4]
  have hB4 : Below W2.heap.size W2 W4 := by rw [hW4]; exact (Below.refl _ _).drew
  have hS := (HK.out W4 hB4).2
  clear e4 hW4
  refine wpAnyH_take (i := 0) (v := .agg #[.int .i64 k, .string t, .int .i64 a, .int .u64 f, .string s, .int .i64 r0, .int .i64 r1, .int .i64 r2, .int .i64 r3, .slice pp path.length pc, .slice ip items.length ic]) rfl (by kernel_rfl) (by kernel_rfl) (by kernel_rfl) (fun _ _ _ h => h) (Or.inl ⟨by rfl, ?r⟩) hS ?_
  case r => intro W hW; simp [go_sem, execOp, Act.eval, hW.1]
  simp only [List.getElem_toArray, List.getElem_cons_zero, Act.put, List.setIfInBounds_toArray, List.set_cons_succ, List.set_cons_zero]
  refine wpAnyH_take (i := 2) (v := .agg #[.int .i64 k', .string t', .int .i64 a', .int .u64 f', .string s', .int .i64 r0', .int .i64 r1', .int .i64 r2', .int .i64 r3', .slice pp' path'.length pc', .slice ip' items'.length ic']) rfl (by kernel_rfl) (by kernel_rfl) (by kernel_rfl) (fun _ _ _ h => h) (Or.inl ⟨by rfl, ?r⟩) hS ?_
  case r => intro W hW; simp [go_sem, execOp, Act.eval, hW.2]
  simp only [List.getElem_toArray, List.getElem_cons_zero, List.getElem_cons_succ, Act.put, List.setIfInBounds_toArray, List.set_cons_succ, List.set_cons_zero]
  refine wpAnyH_all (rs := [1]) (by kernel_rfl) (by simp) (fun i2 hi2 => ?_)
  obtain rfl : i2 = 1 := by simpa using hi2
  clear hi2
  refine wpOp_step rfl (fun K hK => ite_yes rfl ?_)
  simp only [List.getElem_toArray, List.getElem_cons_zero, List.getElem_cons_succ]
  go_simp
  refine (HH.out _).mono ?_
  rintro e w5 ⟨rfl, b5⟩
  have hb5 : Below W2.heap.size W2 w5 := hB4.trans (b5.mono hB4.size)
  go_simp
  refine hK _ _ ⟨(HK.out _ hb5).2, ?_⟩
  clear hK K
  refine wpAnyH_all (rs := [3]) (by kernel_rfl) (by simp) (fun i2 hi2 => ?_)
  obtain rfl : i2 = 3 := by simpa using hi2
  clear hi2
  refine wpOp_step rfl (fun K hK => ite_yes rfl ?_)
  simp only [List.getElem_toArray, List.getElem_cons_zero, List.getElem_cons_succ]
  go_simp
  refine (HH2.out _).mono ?_
  rintro e w6 ⟨rfl, b6⟩
  have hb6 : Below W2.heap.size W2 w6 := hb5.trans (b6.mono hb5.size)
  go_simp
  refine hK _ _ ⟨(HK.out _ hb6).2, ?_⟩
  clear hK K
  clear hS
  have hS := (HK.out _ hb6).2
  refine wpAnyH_take (i := 4) (v := .bool true) rfl (by kernel_rfl) (by kernel_rfl) (by kernel_rfl) (fun _ _ _ h => h) (Or.inl ⟨by rfl, ?r⟩) hS ?_
  case r => intro W hW; simp [go_sem, execOp, Act.eval, HQ]
  simp only [List.getElem_toArray, List.getElem_cons_zero, List.getElem_cons_succ, Act.put, List.setIfInBounds_toArray, List.set_cons_succ, List.set_cons_zero]
  refine wpAnyH_take (i := 5) (v := .bool true) rfl (by kernel_rfl) (by kernel_rfl) (by kernel_rfl) (fun _ _ _ h => h) (Or.inl ⟨by rfl, ?r⟩) hS ?_
  case r => intro W hW; simp [go_sem, execOp, Act.eval]
  simp only [List.getElem_toArray, List.getElem_cons_zero, List.getElem_cons_succ, Act.put, List.setIfInBounds_toArray, List.set_cons_succ, List.set_cons_zero]
  refine wpAnyH_take (i := 6) (v := undef) rfl (by kernel_rfl) (by kernel_rfl) (by kernel_rfl) (fun _ _ _ h => h) (Or.inr ⟨by rfl, rfl⟩) hS ?_
  simp only [List.getElem_toArray, List.getElem_cons_zero, List.getElem_cons_succ, Act.put, List.setIfInBounds_toArray, List.set_cons_succ, List.set_cons_zero]
  refine wpAnyH_take (i := 7) (v := undef) rfl (by kernel_rfl) (by kernel_rfl) (by kernel_rfl) (fun _ _ _ h => h) (Or.inr ⟨by rfl, rfl⟩) hS ?_
  simp only [List.getElem_toArray, List.getElem_cons_zero, List.getElem_cons_succ, Act.put, List.setIfInBounds_toArray, List.set_cons_succ, List.set_cons_zero]
  refine wpAnyH_take (i := 8) (v := undef) rfl (by kernel_rfl) (by kernel_rfl) (by kernel_rfl) (fun _ _ _ h => h) (Or.inr ⟨by rfl, rfl⟩) hS ?_
  simp only [List.getElem_toArray, List.getElem_cons_zero, List.getElem_cons_succ, Act.put, List.setIfInBounds_toArray, List.set_cons_succ, List.set_cons_zero]
  refine wpAnyH_take (i := 9) (v := undef) rfl (by kernel_rfl) (by kernel_rfl) (by kernel_rfl) (fun _ _ _ h => h) (Or.inr ⟨by rfl, rfl⟩) hS ?_
  simp only [List.getElem_toArray, List.getElem_cons_zero, List.getElem_cons_succ, Act.put, List.setIfInBounds_toArray, List.set_cons_succ, List.set_cons_zero]
  refine wpAnyH_take (i := 10) (v := undef) rfl (by kernel_rfl) (by kernel_rfl) (by kernel_rfl) (fun _ _ _ h => h) (Or.inr ⟨by rfl, rfl⟩) hS ?_
  simp only [List.getElem_toArray, List.getElem_cons_zero, List.getElem_cons_succ, Act.put, List.setIfInBounds_toArray, List.set_cons_succ, List.set_cons_zero]
  refine wpAnyH_take (i := 11) (v := undef) rfl (by kernel_rfl) (by kernel_rfl) (by kernel_rfl) (fun _ _ _ h => h) (Or.inr ⟨by rfl, rfl⟩) hS ?_
  simp only [List.getElem_toArray, List.getElem_cons_zero, List.getElem_cons_succ, Act.put, List.setIfInBounds_toArray, List.set_cons_succ, List.set_cons_zero]
  refine wpAnyH_all (rs := [12]) (by kernel_rfl) (by simp) (fun i2 hi2 => ?_)
  obtain rfl : i2 = 12 := by simpa using hi2
  clear hi2
  refine wpOp_step rfl (fun K hK => ite_no rfl ?_)
  simp only [List.getElem_toArray, List.getElem_cons_zero, List.getElem_cons_succ]
  refine hK _ _ ⟨(HK.out _ hb6).2, ?_⟩
  clear hK K
  refine wpAnyH_take (i := 13) (v := undef) rfl (by kernel_rfl) (by kernel_rfl) (by kernel_rfl) (fun _ _ _ h => h) (Or.inr ⟨by rfl, rfl⟩) hS ?_
  simp only [List.getElem_toArray, List.getElem_cons_zero, List.getElem_cons_succ, Act.put, List.setIfInBounds_toArray, List.set_cons_succ, List.set_cons_zero]
  refine wpAnyH_take (i := 14) (v := .bool true) rfl (by kernel_rfl) (by kernel_rfl) (by kernel_rfl) (fun _ _ _ h => h) (Or.inl ⟨by rfl, ?r⟩) hS ?_
  case r => intro W hW; simp [go_sem, execOp, Act.eval]
  simp only [List.getElem_toArray, List.getElem_cons_zero, List.getElem_cons_succ, Act.put, List.setIfInBounds_toArray, List.set_cons_succ, List.set_cons_zero]
  refine wpAnyH_done (by kernel_rfl) ?_ _
  refine NoPanic.normal ?_
  try simp only [Act.put]
  have HW := (HK.out _ hb6).1
  go_wp2_with fail
  go_ret
  exact ⟨rfl, HW⟩

set_option maxRecDepth 100000 in
set_option maxHeartbeats 8000000 in
theorem same_step (n : Nat) (hI : SameC n) : SameC (n + 1) := by
  intro x y w hx hy
  by_cases hh : sameH x.h y.h x.items.length y.items.length = true
  · have hxi := hx.items
    have hyi := hy.items
    have hxp := hx.path
    have hyp := hy.path
    have hxl := hx.len
    have hxf := hx.fine
    obtain ⟨⟨k, t, a, f, s, r0, r1, r2, r3, pp, path, pc⟩, ip, ic, items⟩ := x
    obtain ⟨⟨k', t', a', f', s', r0', r1', r2', r3', pp', path', pc'⟩, ip', ic', items'⟩ := y
    have hh2 := of_decide_eq_true hh
    simp only at hh2
    obtain ⟨rfl, rfl, rfl, rfl, rfl, rfl, rfl, rfl, rfl, hpl, hil⟩ := hh2
    obtain ⟨fin, hfin⟩ : ∃ fin, fin = MD.same (n + 1) ⟨⟨k, t, a, f, s, r0, r1, r2, r3, pp, path, pc⟩, ip, ic, items⟩ ⟨⟨k, t, a, f, s, r0, r1, r2, r3, pp', path', pc'⟩, ip', ic', items'⟩ := ⟨_, rfl⟩
    rw [← hfin]
    obtain ⟨pv, hpv⟩ : ∃ pv, pv = decide (path = path') := ⟨_, rfl⟩
    have HF : Hid (fin = (pv && all2 (MD.same n) items items')) := by
      show _ = _
      rw [hfin, hpv]
      show (sameH _ _ _ _ && _ && _) = _
      rw [hh, Bool.true_and]
    have HL : Hid (path.length = path'.length ∧ items.length = items'.length) := ⟨hpl, hil⟩
    have HI : Hid (SameC n) := hI
    have HXI : Hid (MD.ItemsIn w.heap.size w n ⟨⟨k, t, a, f, s, r0, r1, r2, r3, pp, path, pc⟩, ip, ic, items⟩) := hxi
    have HYI : Hid (MD.ItemsIn w.heap.size w n ⟨⟨k, t, a, f, s, r0, r1, r2, r3, pp', path', pc'⟩, ip', ic', items'⟩) := hyi
    have HPE : Hid (∀ W, Below w.heap.size w W → Calls Tryd.prog 28 #[.slice pp path.length pc, .slice pp' path.length pc'] W fun r w' => r = .returned (.bool pv) ∧ Below W.heap.size W w') := fun W hW => by
      have h := slicesEqual_any pp path pc pp' path' pc' W (Nat.le_trans hxf.pl hxf.pm) (hxp.later (Nat.le_refl _) hW).2 (hyp.later (Nat.le_refl _) hW).2
      rw [← hpv, ← hpl] at h
      exact h
    have hl1 : items.length ≤ 9223372036854775807 := by have := hxl.1; have := hxl.2; unfold maxLen at *; simp at *; omega
    have HQ : ∀ W, (binOp .neq 79 (.agg #[.int .i64 k, .string t, .int .i64 a, .int .u64 f, .string s, .int .i64 r0, .int .i64 r1, .int .i64 r2, .int .i64 r3, .int .i64 path.length, .int .i64 items.length]) (.agg #[.int .i64 k, .string t, .int .i64 a, .int .u64 f, .string s, .int .i64 r0, .int .i64 r1, .int .i64 r2, .int .i64 r3, .int .i64 path.length, .int .i64 items.length])).run Tryd.prog W = .ok (.bool false) W := fun W => by
      rw [head_neq2]; simp
    simp only [MD.val, D]
    rw [← hpl, ← hil]
    clear hh hfin hI hxi hyi hxp hyp hxl hxf hx hy hpl hil hpv
    obtain ⟨W2, hW2⟩ : ∃ W2, W2 = (w.alloc (.cells #[.int .i64 k, .string t, .int .i64 a, .int .u64 f, .string s, .int .i64 r0, .int .i64 r1, .int .i64 r2, .int .i64 r3, .slice pp path.length pc, .slice ip items.length ic] 32)).alloc (.cells #[.int .i64 k, .string t, .int .i64 a, .int .u64 f, .string s, .int .i64 r0, .int .i64 r1, .int .i64 r2, .int .i64 r3, .slice pp' path.length pc', .slice ip' items.length ic'] 32) := ⟨_, rfl⟩
    have HK : Hid (∀ W, Below W2.heap.size W2 W → Below w.heap.size w W ∧ (∀ i, W.cell? ⟨w.heap.size, i, none⟩ = (#[.int .i64 k, .string t, .int .i64 a, .int .u64 f, .string s, .int .i64 r0, .int .i64 r1, .int .i64 r2, .int .i64 r3, .slice pp path.length pc, .slice ip items.length ic] : Array Value)[i]?) ∧ (∀ i, W.cell? ⟨w.heap.size + 1, i, none⟩ = (#[.int .i64 k, .string t, .int .i64 a, .int .u64 f, .string s, .int .i64 r0, .int .i64 r1, .int .i64 r2, .int .i64 r3, .slice pp' path.length pc', .slice ip' items.length ic'] : Array Value)[i]?)) := fun W hW => by rw [hW2] at hW; exact kept2 hW
    have hz2 : W2.heap.size = w.heap.size + 2 := by rw [hW2]; simp
    have HH : Hid (∀ W, Calls Tryd.prog 27 #[.agg #[.int .i64 k, .string t, .int .i64 a, .int .u64 f, .string s, .int .i64 r0, .int .i64 r1, .int .i64 r2, .int .i64 r3, .slice pp path.length pc, .slice ip items.length ic]] W fun r w' => r = .returned (.agg #[.int .i64 k, .string t, .int .i64 a, .int .u64 f, .string s, .int .i64 r0, .int .i64 r1, .int .i64 r2, .int .i64 r3, .int .i64 path.length, .int .i64 items.length]) ∧ Below W.heap.size W w') := fun W => headOf_any _ _ _ _ _ _ _ _ _ _ _ _ _ _ _ W
    have HH2 : Hid (∀ W, Calls Tryd.prog 27 #[.agg #[.int .i64 k, .string t, .int .i64 a, .int .u64 f, .string s, .int .i64 r0, .int .i64 r1, .int .i64 r2, .int .i64 r3, .slice pp' path.length pc', .slice ip' items.length ic']] W fun r w' => r = .returned (.agg #[.int .i64 k, .string t, .int .i64 a, .int .u64 f, .string s, .int .i64 r0, .int .i64 r1, .int .i64 r2, .int .i64 r3, .int .i64 path.length, .int .i64 items.length]) ∧ Below W.heap.size W w') := fun W => headOf_any _ _ _ _ _ _ _ _ _ _ _ _ _ _ _ W
    go_enter Tryd.func12, Tryd.ntmps12
    go_wp2_with fail
    rw [← hW2]
    clear hW2
    refine wp_region_noPanic ?_
    refine wp_region_held (S := fun W => (∀ i, W.cell? ⟨w.heap.size, i, none⟩ = (#[.int .i64 k, .string t, .int .i64 a, .int .u64 f, .string s, .int .i64 r0, .int .i64 r1, .int .i64 r2, .int .i64 r3, .slice pp path.length pc, .slice ip items.length ic] : Array Value)[i]?) ∧ (∀ i, W.cell? ⟨w.heap.size + 1, i, none⟩ = (#[.int .i64 k, .string t, .int .i64 a, .int .u64 f, .string s, .int .i64 r0, .int .i64 r1, .int .i64 r2, .int .i64 r3, .slice pp' path.length pc', .slice ip' items.length ic'] : Array Value)[i]?)) (by kernel_rfl) ?_
    obtain ⟨W4, hW4⟩ : ∃ W4, W4 = W2.drew := ⟨_, rfl⟩
    have e4 : ({ W2 with drawn := W2.drawn + 1 } : World) = W4 := hW4.symm
    rw [e4]
    have hB4 : Below W2.heap.size W2 W4 := by rw [hW4]; exact (Below.refl _ _).drew
    have hS := (HK.out W4 hB4).2
    clear e4 hW4
    refine wpAnyH_take (i := 0) (v := .agg #[.int .i64 k, .string t, .int .i64 a, .int .u64 f, .string s, .int .i64 r0, .int .i64 r1, .int .i64 r2, .int .i64 r3, .slice pp path.length pc, .slice ip items.length ic]) rfl (by kernel_rfl) (by kernel_rfl) (by kernel_rfl) (fun _ _ _ h => h) (Or.inl ⟨by rfl, ?r⟩) hS ?_
    case r => intro W hW; simp [go_sem, execOp, Act.eval, hW.1]
    simp only [List.getElem_toArray, List.getElem_cons_zero, Act.put, List.setIfInBounds_toArray, List.set_cons_succ, List.set_cons_zero]
    refine wpAnyH_take (i := 2) (v := .agg #[.int .i64 k, .string t, .int .i64 a, .int .u64 f, .string s, .int .i64 r0, .int .i64 r1, .int .i64 r2, .int .i64 r3, .slice pp' path.length pc', .slice ip' items.length ic']) rfl (by kernel_rfl) (by kernel_rfl) (by kernel_rfl) (fun _ _ _ h => h) (Or.inl ⟨by rfl, ?r⟩) hS ?_
    case r => intro W hW; simp [go_sem, execOp, Act.eval, hW.2]
    simp only [List.getElem_toArray, List.getElem_cons_zero, List.getElem_cons_succ, Act.put, List.setIfInBounds_toArray, List.set_cons_succ, List.set_cons_zero]
    refine wpAnyH_all (rs := [1]) (by kernel_rfl) (by simp) (fun i2 hi2 => ?_)
    obtain rfl : i2 = 1 := by simpa using hi2
    clear hi2
    refine wpOp_step rfl (fun K hK => ite_yes rfl ?_)
    simp only [List.getElem_toArray, List.getElem_cons_zero, List.getElem_cons_succ]
    go_simp
    refine (HH.out _).mono ?_
    rintro e w5 ⟨rfl, b5⟩
    have hb5 : Below W2.heap.size W2 w5 := hB4.trans (b5.mono hB4.size)
    go_simp
    refine hK _ _ ⟨(HK.out _ hb5).2, ?_⟩
    clear hK K
    refine wpAnyH_all (rs := [3]) (by kernel_rfl) (by simp) (fun i2 hi2 => ?_)
    obtain rfl : i2 = 3 := by simpa using hi2
    clear hi2
    refine wpOp_step rfl (fun K hK => ite_yes rfl ?_)
    simp only [List.getElem_toArray, List.getElem_cons_zero, List.getElem_cons_succ]
    go_simp
    refine (HH2.out _).mono ?_
    rintro e w6 ⟨rfl, b6⟩
    have hb6 : Below W2.heap.size W2 w6 := hb5.trans (b6.mono hb5.size)
    go_simp
    refine hK _ _ ⟨(HK.out _ hb6).2, ?_⟩
    clear hK K
    clear hS
    have hS := (HK.out _ hb6).2
    refine wpAnyH_take (i := 4) (v := .bool false) rfl (by kernel_rfl) (by kernel_rfl) (by kernel_rfl) (fun _ _ _ h => h) (Or.inl ⟨by rfl, ?r⟩) hS ?_
    case r => intro W hW; simp [go_sem, execOp, Act.eval, HQ]
    simp only [List.getElem_toArray, List.getElem_cons_zero, List.getElem_cons_succ, Act.put, List.setIfInBounds_toArray, List.set_cons_succ, List.set_cons_zero]
    refine wpAnyH_take (i := 5) (v := .bool false) rfl (by kernel_rfl) (by kernel_rfl) (by kernel_rfl) (fun _ _ _ h => h) (Or.inl ⟨by rfl, ?r⟩) hS ?_
    case r => intro W hW; simp [go_sem, execOp, Act.eval]
    simp only [List.getElem_toArray, List.getElem_cons_zero, List.getElem_cons_succ, Act.put, List.setIfInBounds_toArray, List.set_cons_succ, List.set_cons_zero]
    refine wpAnyH_take (i := 6) (v := .pointer (some ⟨w.heap.size, 5, none⟩)) rfl (by kernel_rfl) (by kernel_rfl) (by kernel_rfl) (fun _ _ _ h => h) (Or.inl ⟨by rfl, ?r⟩) hS ?_
    case r => intro W hW; simp [go_sem, execOp, Act.eval]
    simp only [List.getElem_toArray, List.getElem_cons_zero, List.getElem_cons_succ, Act.put, List.setIfInBounds_toArray, List.set_cons_succ, List.set_cons_zero]
    refine wpAnyH_take (i := 7) (v := .pointer (some ⟨w.heap.size, 9, none⟩)) rfl (by kernel_rfl) (by kernel_rfl) (by kernel_rfl) (fun _ _ _ h => h) (Or.inl ⟨by rfl, ?r⟩) hS ?_
    case r => intro W hW; simp [go_sem, execOp, Act.eval]
    simp only [List.getElem_toArray, List.getElem_cons_zero, List.getElem_cons_succ, Act.put, List.setIfInBounds_toArray, List.set_cons_succ, List.set_cons_zero]
    refine wpAnyH_take (i := 8) (v := .slice pp path.length pc) rfl (by kernel_rfl) (by kernel_rfl) (by kernel_rfl) (fun _ _ _ h => h) (Or.inl ⟨by rfl, ?r⟩) hS ?_
    case r => intro W hW; simp [go_sem, execOp, Act.eval, hW.1]
    simp only [List.getElem_toArray, List.getElem_cons_zero, List.getElem_cons_succ, Act.put, List.setIfInBounds_toArray, List.set_cons_succ, List.set_cons_zero]
    refine wpAnyH_take (i := 9) (v := .pointer (some ⟨w.heap.size + 1, 5, none⟩)) rfl (by kernel_rfl) (by kernel_rfl) (by kernel_rfl) (fun _ _ _ h => h) (Or.inl ⟨by rfl, ?r⟩) hS ?_
    case r => intro W hW; simp [go_sem, execOp, Act.eval]
    simp only [List.getElem_toArray, List.getElem_cons_zero, List.getElem_cons_succ, Act.put, List.setIfInBounds_toArray, List.set_cons_succ, List.set_cons_zero]
    refine wpAnyH_take (i := 10) (v := .pointer (some ⟨w.heap.size + 1, 9, none⟩)) rfl (by kernel_rfl) (by kernel_rfl) (by kernel_rfl) (fun _ _ _ h => h) (Or.inl ⟨by rfl, ?r⟩) hS ?_
    case r => intro W hW; simp [go_sem, execOp, Act.eval]
    simp only [List.getElem_toArray, List.getElem_cons_zero, List.getElem_cons_succ, Act.put, List.setIfInBounds_toArray, List.set_cons_succ, List.set_cons_zero]
    refine wpAnyH_take (i := 11) (v := .slice pp' path.length pc') rfl (by kernel_rfl) (by kernel_rfl) (by kernel_rfl) (fun _ _ _ h => h) (Or.inl ⟨by rfl, ?r⟩) hS ?_
    case r => intro W hW; simp [go_sem, execOp, Act.eval, hW.2]
    simp only [List.getElem_toArray, List.getElem_cons_zero, List.getElem_cons_succ, Act.put, List.setIfInBounds_toArray, List.set_cons_succ, List.set_cons_zero]
    refine wpAnyH_all (rs := [12]) (by kernel_rfl) (by simp) (fun i2 hi2 => ?_)
    obtain rfl : i2 = 12 := by simpa using hi2
    clear hi2
    refine wpOp_step rfl (fun K hK => ite_yes rfl ?_)
    simp only [List.getElem_toArray, List.getElem_cons_zero, List.getElem_cons_succ]
    go_simp
    refine (HPE.out _ (HK.out _ hb6).1).mono ?_
    rintro e w7 ⟨rfl, b7⟩
    have hb7 : Below W2.heap.size W2 w7 := hb6.trans (b7.mono hb6.size)
    go_simp
    refine hK _ _ ⟨(HK.out _ hb7).2, ?_⟩
    clear hK K hS
    have hS := (HK.out _ hb7).2
    refine wpAnyH_take (i := 13) (v := .bool (!pv)) rfl (by kernel_rfl) (by kernel_rfl) (by kernel_rfl) (fun _ _ _ h => h) (Or.inl ⟨by rfl, ?r⟩) hS ?_
    case r => intro W hW; simp [go_sem, execOp, Act.eval]
    simp only [List.getElem_toArray, List.getElem_cons_zero, List.getElem_cons_succ, Act.put, List.setIfInBounds_toArray, List.set_cons_succ, List.set_cons_zero]
    refine wpAnyH_take (i := 14) (v := .bool (!pv)) rfl (by kernel_rfl) (by kernel_rfl) (by kernel_rfl) (fun _ _ _ h => h) (Or.inl ⟨by rfl, ?r⟩) hS ?_
    case r => intro W hW; simp [go_sem, execOp, Act.eval]
    simp only [List.getElem_toArray, List.getElem_cons_zero, List.getElem_cons_succ, Act.put, List.setIfInBounds_toArray, List.set_cons_succ, List.set_cons_zero]
    refine wpAnyH_done (by kernel_rfl) ?_ _
    refine NoPanic.normal ?_
    try simp only [Act.put]
    have HX : Hid (Below W2.heap.size W2 w7) := hb7
    have hcA := (HK.out _ hb7).2.1
    have hz7 := hb7.size
    clear hb7 b7 hb6 b6 hb5 b5 hB4 hS HQ HH HH2 HPE
    cases pv with
    | false =>
      go_wp2_with fail
      go_ret
      exact ⟨by rw [HF.out]; rfl, (HK.out _ HX.out).1⟩
    | true =>
      go_wp2_with fail
      go_loopw [5, 6, 25] (fun _ _ i wr => SameRel n items items' W2 i wr) (fun _ _ i _ => items.length - (intOf i).toNat)
      case atStart => exact ⟨0, Nat.zero_le _, rfl, rfl, HX.out⟩
      case round =>
        clear hcA
        obtain ⟨j, hj, rfl, hta', hb'⟩ := hrel
        have HT : Hid (all2 (MD.same n) (items.take j) (items'.take j) = true ∧ Below W2.heap.size W2 wr) := ⟨hta', hb'⟩
        have hz := hb'.size
        have hcA := (HK.out _ hb').2.1
        have hcB := (HK.out _ hb').2.2
        clear hta' hb'
        by_cases hlt : j < items.length
        · have i1 : (j : Int) < items.length := by omega
          have hlt' : j < items'.length := HL.out.2 ▸ hlt
          obtain ⟨bb, o, rfl, hbB, hC, hIn⟩ : ∃ bb o, ip = some ⟨bb, o, none⟩ ∧ bb < w.heap.size ∧ MD.CellsAt wr bb (o + j * 11) items[j] ∧ MD.In w.heap.size wr n items[j] := by
            rcases MD.ItemsIn.below HXI.out (HK.out _ HT.out.2).1 with e | ⟨bb, o, e1, e2, e3⟩
            · have e' : items = [] := e
              rw [e'] at hlt; simp at hlt
            · exact ⟨bb, o, e1, e2, e3 j hlt⟩
          obtain ⟨bc, p, rfl, hbB', hC', hIn'⟩ : ∃ bb o, ip' = some ⟨bb, o, none⟩ ∧ bb < w.heap.size ∧ MD.CellsAt wr bb (o + j * 11) items'[j] ∧ MD.In w.heap.size wr n items'[j] := by
            rcases MD.ItemsIn.below HYI.out (HK.out _ HT.out.2).1 with e | ⟨bb, o, e1, e2, e3⟩
            · have e' : items' = [] := e
              rw [e'] at hlt'; simp at hlt'
            · exact ⟨bb, o, e1, e2, e3 j hlt'⟩
          have HS : Hid (all2 (MD.same n) (items.take (j + 1)) (items'.take (j + 1)) = MD.same n items[j] items'[j]) := by
            show _ = _
            rw [all2_snoc _ _ _ _ hlt hlt', HT.out.1, Bool.true_and]
          generalize items[j] = kid at hC hIn HS
          generalize items'[j] = lid at hC' hIn' HS
          obtain ⟨⟨k0, k1, k2, k3, k4, k5, k6, k7, k8, kp, kpath, kpc⟩, kip, kic, kit⟩ := kid
          obtain ⟨⟨l0, l1, l2, l3, l4, l5, l6, l7, l8, lp, lpath, lpc⟩, lip, lic, lit⟩ := lid
          have c0 : wr.cell? ⟨bb, o + j * 11, none⟩ = some (.int .i64 k0) := hC 0 (by omega)
          have c1 : wr.cell? ⟨bb, o + j * 11 + 1, none⟩ = some (.string k1) := hC 1 (by omega)
          have c2 : wr.cell? ⟨bb, o + j * 11 + 2, none⟩ = some (.int .i64 k2) := hC 2 (by omega)
          have c3 : wr.cell? ⟨bb, o + j * 11 + 3, none⟩ = some (.int .u64 k3) := hC 3 (by omega)
          have c4 : wr.cell? ⟨bb, o + j * 11 + 4, none⟩ = some (.string k4) := hC 4 (by omega)
          have c5 : wr.cell? ⟨bb, o + j * 11 + 5, none⟩ = some (.int .i64 k5) := hC 5 (by omega)
          have c6 : wr.cell? ⟨bb, o + j * 11 + 6, none⟩ = some (.int .i64 k6) := hC 6 (by omega)
          have c7 : wr.cell? ⟨bb, o + j * 11 + 7, none⟩ = some (.int .i64 k7) := hC 7 (by omega)
          have c8 : wr.cell? ⟨bb, o + j * 11 + 8, none⟩ = some (.int .i64 k8) := hC 8 (by omega)
          have c9 : wr.cell? ⟨bb, o + j * 11 + 9, none⟩ = some (.slice kp kpath.length kpc) := hC 9 (by omega)
          have c10 : wr.cell? ⟨bb, o + j * 11 + 10, none⟩ = some (.slice kip kit.length kic) := hC 10 (by omega)
          have HC : Hid (∀ W, Below wr.heap.size wr W → Calls Tryd.prog 12 #[.agg #[.int .i64 k0, .string k1, .int .i64 k2, .int .u64 k3, .string k4, .int .i64 k5, .int .i64 k6, .int .i64 k7, .int .i64 k8, .slice kp kpath.length kpc, .slice kip kit.length kic], .agg #[.int .i64 l0, .string l1, .int .i64 l2, .int .u64 l3, .string l4, .int .i64 l5, .int .i64 l6, .int .i64 l7, .int .i64 l8, .slice lp lpath.length lpc, .slice lip lit.length lic]] W fun r w' => r = .returned (.bool (MD.same n ⟨⟨k0, k1, k2, k3, k4, k5, k6, k7, k8, kp, kpath, kpc⟩, kip, kic, kit⟩ ⟨⟨l0, l1, l2, l3, l4, l5, l6, l7, l8, lp, lpath, lpc⟩, lip, lic, lit⟩)) ∧ Below W.heap.size W w') := fun W hW =>
            HI.out ⟨⟨k0, k1, k2, k3, k4, k5, k6, k7, k8, kp, kpath, kpc⟩, kip, kic, kit⟩ ⟨⟨l0, l1, l2, l3, l4, l5, l6, l7, l8, lp, lpath, lpc⟩, lip, lic, lit⟩ W (hIn.later (by omega) hW) (hIn'.later (by omega) hW)
          obtain ⟨W5, hW5⟩ : ∃ W5, W5 = wr.alloc (.cells #[.int .i64 k0, .string k1, .int .i64 k2, .int .u64 k3, .string k4, .int .i64 k5, .int .i64 k6, .int .i64 k7, .int .i64 k8, .slice kp kpath.length kpc, .slice kip kit.length kic] 32) := ⟨_, rfl⟩
          have hB5 : Below wr.heap.size wr W5 := by rw [hW5]; exact below1 _ _
          have HK2 : Hid (∀ W, Below W5.heap.size W5 W → Below wr.heap.size wr W ∧ (∀ i, W.cell? ⟨wr.heap.size, i, none⟩ = (#[.int .i64 k0, .string k1, .int .i64 k2, .int .u64 k3, .string k4, .int .i64 k5, .int .i64 k6, .int .i64 k7, .int .i64 k8, .slice kp kpath.length kpc, .slice kip kit.length kic] : Array Value)[i]?) ∧ (∀ i, W.cell? ⟨w.heap.size + 1, i, none⟩ = (#[.int .i64 k, .string t, .int .i64 a, .int .u64 f, .string s, .int .i64 r0, .int .i64 r1, .int .i64 r2, .int .i64 r3, .slice pp' path.length pc', .slice (some ⟨bc, p, none⟩) items.length ic'] : Array Value)[i]?) ∧ (∀ i, i < 11 → W.cell? ⟨bc, p + j * 11 + i, none⟩ = (#[.int .i64 l0, .string l1, .int .i64 l2, .int .u64 l3, .string l4, .int .i64 l5, .int .i64 l6, .int .i64 l7, .int .i64 l8, .slice lp lpath.length lpc, .slice lip lit.length lic] : Array Value)[i]?)) := fun W hW => by
            have h1 : Below wr.heap.size wr W := hB5.trans (hW.mono hB5.size)
            refine ⟨h1, fun i => ?_, fun i => (h1.cell (p := ⟨w.heap.size + 1, i, none⟩) (by show w.heap.size + 1 < _; omega)).trans (hcB i), fun i hi => (h1.cell (p := ⟨bc, p + j * 11 + i, none⟩) (by show bc < _; omega)).trans (hC' i hi)⟩
            rw [hW5] at hW
            exact (kept1' hW).2 i
          clear hC hC' hIn hIn' HI
          generalize MD.same n ⟨⟨k0, k1, k2, k3, k4, k5, k6, k7, k8, kp, kpath, kpc⟩, kip, kic, kit⟩ ⟨⟨l0, l1, l2, l3, l4, l5, l6, l7, l8, lp, lpath, lpc⟩, lip, lic, lit⟩ = fk at HC HS
          go_wp2_with fail
          rw [← hW5]
          clear hW5
          refine wp_region_noPanic ?_
          refine wp_region_held (S := fun W => (∀ i, W.cell? ⟨wr.heap.size, i, none⟩ = (#[.int .i64 k0, .string k1, .int .i64 k2, .int .u64 k3, .string k4, .int .i64 k5, .int .i64 k6, .int .i64 k7, .int .i64 k8, .slice kp kpath.length kpc, .slice kip kit.length kic] : Array Value)[i]?) ∧ (∀ i, W.cell? ⟨w.heap.size + 1, i, none⟩ = (#[.int .i64 k, .string t, .int .i64 a, .int .u64 f, .string s, .int .i64 r0, .int .i64 r1, .int .i64 r2, .int .i64 r3, .slice pp' path.length pc', .slice (some ⟨bc, p, none⟩) items.length ic'] : Array Value)[i]?) ∧ (∀ i, i < 11 → W.cell? ⟨bc, p + j * 11 + i, none⟩ = (#[.int .i64 l0, .string l1, .int .i64 l2, .int .u64 l3, .string l4, .int .i64 l5, .int .i64 l6, .int .i64 l7, .int .i64 l8, .slice lp lpath.length lpc, .slice lip lit.length lic] : Array Value)[i]?)) (by kernel_rfl) ?_
          obtain ⟨W4, hW4⟩ : ∃ W4, W4 = W5.drew := ⟨_, rfl⟩
          have e4 : ({ W5 with drawn := W5.drawn + 1 } : World) = W4 := hW4.symm
          rw [e4]
          have hB4 : Below W5.heap.size W5 W4 := by rw [hW4]; exact (Below.refl _ _).drew
          have hS := (HK2.out W4 hB4).2
          clear e4 hW4
          refine wpAnyH_take (i := 0) (v := .agg #[.int .i64 k0, .string k1, .int .i64 k2, .int .u64 k3, .string k4, .int .i64 k5, .int .i64 k6, .int .i64 k7, .int .i64 k8, .slice kp kpath.length kpc, .slice kip kit.length kic]) rfl (by kernel_rfl) (by kernel_rfl) (by kernel_rfl) (fun _ _ _ h => h) (Or.inl ⟨by rfl, ?r⟩) hS ?_
          case r => intro W hW; simp [go_sem, execOp, Act.eval, hW.1]
          simp only [List.getElem_toArray, List.getElem_cons_zero, Act.put, List.setIfInBounds_toArray, List.set_cons_succ, List.set_cons_zero]
          refine wpAnyH_take (i := 1) (v := .pointer (some ⟨w.heap.size + 1, 10, none⟩)) rfl (by kernel_rfl) (by kernel_rfl) (by kernel_rfl) (fun _ _ _ h => h) (Or.inl ⟨by rfl, ?r⟩) hS ?_
          case r => intro W hW; simp [go_sem, execOp, Act.eval]
          simp only [List.getElem_toArray, List.getElem_cons_zero, List.getElem_cons_succ, Act.put, List.setIfInBounds_toArray, List.set_cons_succ, List.set_cons_zero]
          refine wpAnyH_take (i := 2) (v := .slice (some ⟨bc, p, none⟩) items.length ic') rfl (by kernel_rfl) (by kernel_rfl) (by kernel_rfl) (fun _ _ _ h => h) (Or.inl ⟨by rfl, ?r⟩) hS ?_
          case r => intro W hW; simp [go_sem, execOp, Act.eval, hW.2.1]
          simp only [List.getElem_toArray, List.getElem_cons_zero, List.getElem_cons_succ, Act.put, List.setIfInBounds_toArray, List.set_cons_succ, List.set_cons_zero]
          refine wpAnyH_take (i := 3) (v := .int .i64 j) rfl (by kernel_rfl) (by kernel_rfl) (by kernel_rfl) (fun _ _ _ h => h) (Or.inl ⟨by rfl, ?r⟩) hS ?_
          case r => intro W hW; simp [go_sem, execOp, Act.eval]
          simp only [List.getElem_toArray, List.getElem_cons_zero, List.getElem_cons_succ, Act.put, List.setIfInBounds_toArray, List.set_cons_succ, List.set_cons_zero]
          refine wpAnyH_take (i := 4) (v := .pointer (some ⟨bc, p + j * 11, none⟩)) rfl (by kernel_rfl) (by kernel_rfl) (by kernel_rfl) (fun _ _ _ h => h) (Or.inl ⟨by rfl, ?r⟩) hS ?_
          case r => intro W hW; simp [go_sem, execOp, Act.eval, i1]
          simp only [List.getElem_toArray, List.getElem_cons_zero, List.getElem_cons_succ, Act.put, List.setIfInBounds_toArray, List.set_cons_succ, List.set_cons_zero]
          refine wpAnyH_take (i := 5) (v := .agg #[.int .i64 l0, .string l1, .int .i64 l2, .int .u64 l3, .string l4, .int .i64 l5, .int .i64 l6, .int .i64 l7, .int .i64 l8, .slice lp lpath.length lpc, .slice lip lit.length lic]) rfl (by kernel_rfl) (by kernel_rfl) (by kernel_rfl) (fun _ _ _ h => h) (Or.inl ⟨by rfl, ?r⟩) hS ?_
          case r => intro W hW; have e0 : W.cell? ⟨bc, p + j * 11, none⟩ = some (.int .i64 l0) := hW.2.2 0 (by omega); have e1 : W.cell? ⟨bc, p + j * 11 + 1, none⟩ = some (.string l1) := hW.2.2 1 (by omega); have e2 : W.cell? ⟨bc, p + j * 11 + 2, none⟩ = some (.int .i64 l2) := hW.2.2 2 (by omega); have e3 : W.cell? ⟨bc, p + j * 11 + 3, none⟩ = some (.int .u64 l3) := hW.2.2 3 (by omega); have e4 : W.cell? ⟨bc, p + j * 11 + 4, none⟩ = some (.string l4) := hW.2.2 4 (by omega); have e5 : W.cell? ⟨bc, p + j * 11 + 5, none⟩ = some (.int .i64 l5) := hW.2.2 5 (by omega); have e6 : W.cell? ⟨bc, p + j * 11 + 6, none⟩ = some (.int .i64 l6) := hW.2.2 6 (by omega); have e7 : W.cell? ⟨bc, p + j * 11 + 7, none⟩ = some (.int .i64 l7) := hW.2.2 7 (by omega); have e8 : W.cell? ⟨bc, p + j * 11 + 8, none⟩ = some (.int .i64 l8) := hW.2.2 8 (by omega); have e9 : W.cell? ⟨bc, p + j * 11 + 9, none⟩ = some (.slice lp lpath.length lpc) := hW.2.2 9 (by omega); have e10 : W.cell? ⟨bc, p + j * 11 + 10, none⟩ = some (.slice lip lit.length lic) := hW.2.2 10 (by omega); simp [go_sem, execOp, Act.eval, e0, e1, e2, e3, e4, e5, e6, e7, e8, e9, e10]
          simp only [List.getElem_toArray, List.getElem_cons_zero, List.getElem_cons_succ, Act.put, List.setIfInBounds_toArray, List.set_cons_succ, List.set_cons_zero]
          refine wpAnyH_all (rs := [6]) (by kernel_rfl) (by simp) (fun i2 hi2 => ?_)
          obtain rfl : i2 = 6 := by simpa using hi2
          clear hi2
          refine wpOp_step rfl (fun K hK => ite_yes rfl ?_)
          simp only [List.getElem_toArray, List.getElem_cons_zero, List.getElem_cons_succ]
          go_simp
          refine (HC.out _ (HK2.out _ hB4).1).mono ?_
          rintro e w9 ⟨rfl, b9⟩
          have hb9 : Below W5.heap.size W5 w9 := hB4.trans (b9.mono hB4.size)
          go_simp
          refine hK _ _ ⟨(HK2.out _ hb9).2, ?_⟩
          clear hK K hS
          have hS := (HK2.out _ hb9).2
          refine wpAnyH_take (i := 7) (v := .bool (!fk)) rfl (by kernel_rfl) (by kernel_rfl) (by kernel_rfl) (fun _ _ _ h => h) (Or.inl ⟨by rfl, ?r⟩) hS ?_
          case r => intro W hW; simp [go_sem, execOp, Act.eval]
          simp only [List.getElem_toArray, List.getElem_cons_zero, List.getElem_cons_succ, Act.put, List.setIfInBounds_toArray, List.set_cons_succ, List.set_cons_zero]
          refine wpAnyH_done (by kernel_rfl) ?_ _
          refine NoPanic.normal ?_
          try simp only [Act.put]
          have HW : Hid (Below W2.heap.size W2 w9) := HT.out.2.trans ((HK2.out _ hb9).1.mono (by omega))
          clear hS HK2 b9 hb9 hB4 HC hB5
          cases fk with
          | false =>
            have HFF : Hid (fin = false) := by
              show _ = _
              rw [HF.out, all2_take _ _ _ (j + 1) HS.out, Bool.and_false]
            go_wp2_with fail
            go_ret
            exact ⟨by rw [HFF.out]; rfl, (HK.out _ HW.out).1⟩
          | true =>
            go_wp2_with fail
            refine ⟨⟨_, _, _, _, _, _, _, _, _, _, _, _, _, _, _, _, _, ⟨j + 1, hlt, ?gnum, HS.out, HW.out⟩, rfl⟩, ?meas⟩
            case gnum => go_num
            case meas => simp [intOf]; omega
        · have i1 : ¬ (j : Int) < items.length := by omega
          have HFF : Hid (fin = true) := by
            show _ = _
            have h := HT.out.1
            rw [List.take_of_length_le (by omega), List.take_of_length_le (by have := HL.out.2; omega)] at h
            rw [HF.out, h]; rfl
          go_wp2_with fail
          go_ret
          exact ⟨by rw [HFF.out]; rfl, (HK.out _ HT.out.2).1⟩
  · have hh' : sameH x.h y.h x.items.length y.items.length = false := by simpa using hh
    have e : MD.same (n + 1) x y = false := by
      show (sameH _ _ _ _ && _ && _) = _
      rw [hh']; rfl
    rw [e]
    exact same_no x y w hh'

theorem same_any : ∀ n, SameC n
  | 0 => fun _ _ _ h _ => h.elim
  | n + 1 => same_step n (same_any n)
end Go.Proofs.YtnhbpcmiolkllabDoor
