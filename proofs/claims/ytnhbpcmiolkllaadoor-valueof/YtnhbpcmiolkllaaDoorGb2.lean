/-
  The answer's equal: floats.
-/
import Derived.Test.YtnhbpcmiolkllaaDoorGa2
namespace Go.Proofs.YtnhbpcmiolkllaaDoor
open Go.RowKit
attribute [local go_sem] refold2 cell3_0 cell3_1 b28_0 b28_01

theorem and63 (x : Int) (h0 : 0 ≤ x) (h1 : x ≤ 18446744073709551615) : bits .and .u64 x 9223372036854775807 = x % 9223372036854775808 := by
  obtain ⟨n, rfl⟩ : ∃ n : Nat, x = n := ⟨x.toNat, by omega⟩
  show IntKind.u64.wrap ((BitVec.ofInt 64 (n : Int) &&& BitVec.ofInt 64 9223372036854775807).toNat : Int) = _
  have e1 : BitVec.ofInt 64 9223372036854775807 = BitVec.ofNat 64 (2 ^ 63 - 1) := by decide
  rw [e1, BitVec.toNat_and, BitVec.toNat_ofInt, BitVec.toNat_ofNat]
  have e2 : ((n : Int) % ((2 ^ 64 : Nat) : Int)).toNat = n := by
    have : (n : Int) % ((2 ^ 64 : Nat) : Int) = n := by rw [show ((2 ^ 64 : Nat) : Int) = 18446744073709551616 by decide]; omega
    rw [this]; rfl
  rw [e2, Nat.mod_eq_of_lt (by decide : 2 ^ 63 - 1 < 2 ^ 64), Nat.and_two_pow_sub_one_eq_mod]
  simp [IntKind.wrap, IntKind.bits, IntKind.signed]
  omega
set_option maxRecDepth 100000 in
set_option maxHeartbeats 4000000 in
theorem rank_any (f : Int) (w : World) (h0 : 0 ≤ f) (h1 : f ≤ 18446744073709551615) : Calls Tryd.prog 47 #[.int .u64 f] w fun r w' => r = .returned (.int .i64 (rnk f)) ∧ w' = w := by
  have E1 : Hid (bits .and .u64 f 9223372036854775807 = f % 9223372036854775808) := and63 f h0 h1
  by_cases hf : f < 9223372036854775808
  · have e : rnk f = f := by unfold rnk; rw [if_pos hf]
    rw [e]
    have hs : ¬ f / 9223372036854775808 = 1 := by omega
    have hw : wrap64 f = f := by unfold wrap64; omega
    have E2 : Hid (f % 9223372036854775808 = f) := by show _ = _; omega
    clear e h0 h1 hf
    go_enter Tryd.func47, Tryd.ntmps47
    go_wp2
    rw [E1.out, E2.out, hw]
    go_ret
    exact ⟨rfl, rfl⟩
  · have e : rnk f = 9223372036854775808 - f := by unfold rnk; rw [if_neg hf]
    rw [e]
    have hs : f / 9223372036854775808 = 1 := by omega
    have hw : wrap64 (f - 9223372036854775808) = f - 9223372036854775808 := by unfold wrap64; omega
    have hw2 : wrap64 (-(f - 9223372036854775808)) = -(f - 9223372036854775808) := by unfold wrap64; omega
    have E2 : Hid (f % 9223372036854775808 = f - 9223372036854775808) := by show _ = _; omega
    clear e h0 h1 hf
    go_enter Tryd.func47, Tryd.ntmps47
    go_wp2
    rw [E1.out, E2.out, hw, hw2]
    go_ret
    exact ⟨by show Ending.returned (.int .i64 (-(f - 9223372036854775808))) = _; rw [show -(f - 9223372036854775808) = 9223372036854775808 - f by omega], rfl⟩
set_option maxRecDepth 100000 in
set_option maxHeartbeats 4000000 in
theorem refEq_3 (t : ByteArray) (a a' f f' r0 r0' r1 r1' r2 r2' r3 r3' : Int) (s s' : ByteArray) (pp pp' ip ip' : Option Addr) (pl pl' pc pc' il il' ic ic' : Nat) (w : World) (f0 : 0 ≤ f) (f1 : f ≤ 18446744073709551615) (g0 : 0 ≤ f') (g1 : f' ≤ 18446744073709551615) :
    Calls Tryd.prog 23 #[.agg #[.int .i64 3, .string t, .int .i64 a, .int .u64 f, .string s, .int .i64 r0, .int .i64 r1, .int .i64 r2, .int .i64 r3, .slice pp pl pc, .slice ip il ic], .agg #[.int .i64 3, .string t, .int .i64 a', .int .u64 f', .string s', .int .i64 r0', .int .i64 r1', .int .i64 r2', .int .i64 r3', .slice pp' pl' pc', .slice ip' il' ic']] w fun r w' => r = .returned (.tuple #[.bool (feq f f'), .agg #[.string ⟨#[]⟩, .string ⟨#[]⟩]]) ∧ Below w.heap.size w w' := by
  have HO : Hid (∀ W, Calls Tryd.prog 44 #[.agg #[.int .i64 3, .string t, .int .i64 a, .int .u64 f, .string s, .int .i64 r0, .int .i64 r1, .int .i64 r2, .int .i64 r3, .slice pp pl pc, .slice ip il ic], .agg #[.int .i64 3, .string t, .int .i64 a', .int .u64 f', .string s', .int .i64 r0', .int .i64 r1', .int .i64 r2', .int .i64 r3', .slice pp' pl' pc', .slice ip' il' ic']] W fun r w' => r = .returned (.bool true) ∧ Below W.heap.size W w') := fun W => (one_any 3 3 t t a a' f f' r0 r0' r1 r1' r2 r2' r3 r3' s s' pp pp' ip ip' pl pl' pc pc' il il' ic ic' W).mono fun _ _ h => ⟨by rw [h.1]; simp, h.2⟩
  have hb53 := b53_0
  have CX : Hid (∀ W, Calls Tryd.prog 46 #[.int .u64 f] W fun r w' => r = .returned (.bool (isNan f.toNat)) ∧ w' = W) := fun W => refIsNaN_any f W f0 f1
  have CY : Hid (∀ W, Calls Tryd.prog 46 #[.int .u64 f'] W fun r w' => r = .returned (.bool (isNan f'.toNat)) ∧ w' = W) := fun W => refIsNaN_any f' W g0 g1
  have RX : Hid (∀ W, Calls Tryd.prog 47 #[.int .u64 f] W fun r w' => r = .returned (.int .i64 (rnk f)) ∧ w' = W) := fun W => rank_any f W f0 f1
  have RY : Hid (∀ W, Calls Tryd.prog 47 #[.int .u64 f'] W fun r w' => r = .returned (.int .i64 (rnk f')) ∧ w' = W) := fun W => rank_any f' W g0 g1
  rw [feq_rank f f' f0 f1 g0 g1]
  clear f0 f1 g0 g1
  generalize isNan f.toNat = nx at CX ⊢
  generalize isNan f'.toNat = ny at CY ⊢
  generalize rnk f = x at RX ⊢
  generalize rnk f' = y at RY ⊢
  go_enter Tryd.func23, Tryd.ntmps23
  go_wp2_with fail
  refine (HO.out _).mono ?_
  rintro r w1 ⟨rfl, b1⟩
  obtain ⟨e1, d1, g1, z1⟩ := three_kept _ _ _ _ _ b1
  have gc := row_at g1
  have gf := fun j => fz _ _ _ _ j g1
  have q1 : Below w.heap.size w w1 := (below3 _ _ _ _).trans (b1.mono (by simp; omega))
  cases nx
  · cases ny
    · go_wp2_with fail
      refine (CX.out _).mono ?_
      rintro r w2 ⟨rfl, h2⟩
      subst w2
      go_wp2_with fail
      refine (CY.out _).mono ?_
      rintro r w3 ⟨rfl, h3⟩
      subst w3
      go_wp2_with fail
      refine wp_region_noPanic ?_
      refine wp_region_held (S := fun W => (∀ j, W.cell? ⟨w.heap.size, j, none⟩ = (#[.int .i64 3, .string t, .int .i64 a, .int .u64 f, .string s, .int .i64 r0, .int .i64 r1, .int .i64 r2, .int .i64 r3, .slice pp pl pc, .slice ip il ic] : Array Value)[j]?) ∧ (∀ j, W.cell? ⟨w.heap.size + 1, j, none⟩ = (#[.int .i64 3, .string t, .int .i64 a', .int .u64 f', .string s', .int .i64 r0', .int .i64 r1', .int .i64 r2', .int .i64 r3', .slice pp' pl' pc', .slice ip' il' ic'] : Array Value)[j]?)) (by kernel_rfl) ?_
      obtain ⟨W4, hW4⟩ : ∃ W4, W4 = w1.drew := ⟨_, rfl⟩
      have e4 : ({ w1 with drawn := w1.drawn + 1 } : World) = W4 := hW4.symm
      rw [e4]
      have hB4 : Below w1.heap.size w1 W4 := by rw [hW4]; exact (Below.refl _ _).drew
      have hS : (∀ j, W4.cell? ⟨w.heap.size, j, none⟩ = (#[.int .i64 3, .string t, .int .i64 a, .int .u64 f, .string s, .int .i64 r0, .int .i64 r1, .int .i64 r2, .int .i64 r3, .slice pp pl pc, .slice ip il ic] : Array Value)[j]?) ∧ (∀ j, W4.cell? ⟨w.heap.size + 1, j, none⟩ = (#[.int .i64 3, .string t, .int .i64 a', .int .u64 f', .string s', .int .i64 r0', .int .i64 r1', .int .i64 r2', .int .i64 r3', .slice pp' pl' pc', .slice ip' il' ic'] : Array Value)[j]?) := ⟨fun j => by rw [← e1 j]; exact hB4.cell (by show w.heap.size < _; omega), fun j => by rw [← d1 j]; exact hB4.cell (by show w.heap.size + 1 < _; omega)⟩
      have g4 : W4.heap[w.heap.size + 1 + 1]? = some (.cells #[.string ⟨#[]⟩, .string ⟨#[]⟩] 53 (0, 0)) := (hB4.block _ (by omega)).trans g1
      have q4 := q1.trans (hB4.mono q1.size)
      have gc4 := row_at g4
      have gf4 := fun j => fz _ _ _ _ j g4
      clear e4 hW4 e1 d1 g1 gc gf q1 b1 hB4 g4
      refine wpAnyH_take (i := 0) (v := .bool false) rfl (by kernel_rfl) (by kernel_rfl) (by kernel_rfl) (fun _ _ _ h => h) (Or.inl ⟨by rfl, ?r⟩) hS ?_
      case r => intro W hW; simp [go_sem, execOp, Act.eval]
      simp only [List.getElem_toArray, List.getElem_cons_zero, Act.put, List.setIfInBounds_toArray, List.set_cons_succ, List.set_cons_zero]
      refine wpAnyH_take (i := 1) (v := .bool true) rfl (by kernel_rfl) (by kernel_rfl) (by kernel_rfl) (fun _ _ _ h => h) (Or.inl ⟨by rfl, ?r⟩) hS ?_
      case r => intro W hW; simp [go_sem, execOp, Act.eval]
      simp only [List.getElem_toArray, List.getElem_cons_zero, List.getElem_cons_succ, Act.put, List.setIfInBounds_toArray, List.set_cons_succ, List.set_cons_zero]
      refine wpAnyH_take (i := 2) (v := .bool true) rfl (by kernel_rfl) (by kernel_rfl) (by kernel_rfl) (fun _ _ _ h => h) (Or.inl ⟨by rfl, ?r⟩) hS ?_
      case r => intro W hW; simp [go_sem, execOp, Act.eval]
      simp only [List.getElem_toArray, List.getElem_cons_zero, List.getElem_cons_succ, Act.put, List.setIfInBounds_toArray, List.set_cons_succ, List.set_cons_zero]
      refine wpAnyH_take (i := 3) (v := .bool false) rfl (by kernel_rfl) (by kernel_rfl) (by kernel_rfl) (fun _ _ _ h => h) (Or.inl ⟨by rfl, ?r⟩) hS ?_
      case r => intro W hW; simp [go_sem, execOp, Act.eval]
      simp only [List.getElem_toArray, List.getElem_cons_zero, List.getElem_cons_succ, Act.put, List.setIfInBounds_toArray, List.set_cons_succ, List.set_cons_zero]
      refine wpAnyH_take (i := 4) (v := .bool true) rfl (by kernel_rfl) (by kernel_rfl) (by kernel_rfl) (fun _ _ _ h => h) (Or.inl ⟨by rfl, ?r⟩) hS ?_
      case r => intro W hW; simp [go_sem, execOp, Act.eval]
      simp only [List.getElem_toArray, List.getElem_cons_zero, List.getElem_cons_succ, Act.put, List.setIfInBounds_toArray, List.set_cons_succ, List.set_cons_zero]
      refine wpAnyH_take (i := 5) (v := .bool true) rfl (by kernel_rfl) (by kernel_rfl) (by kernel_rfl) (fun _ _ _ h => h) (Or.inl ⟨by rfl, ?r⟩) hS ?_
      case r => intro W hW; simp [go_sem, execOp, Act.eval]
      simp only [List.getElem_toArray, List.getElem_cons_zero, List.getElem_cons_succ, Act.put, List.setIfInBounds_toArray, List.set_cons_succ, List.set_cons_zero]
      refine wpAnyH_take (i := 6) (v := .bool true) rfl (by kernel_rfl) (by kernel_rfl) (by kernel_rfl) (fun _ _ _ h => h) (Or.inl ⟨by rfl, ?r⟩) hS ?_
      case r => intro W hW; simp [go_sem, execOp, Act.eval]
      simp only [List.getElem_toArray, List.getElem_cons_zero, List.getElem_cons_succ, Act.put, List.setIfInBounds_toArray, List.set_cons_succ, List.set_cons_zero]
      refine wpAnyH_take (i := 7) (v := .pointer (some ⟨w.heap.size, 3, none⟩)) rfl (by kernel_rfl) (by kernel_rfl) (by kernel_rfl) (fun _ _ _ h => h) (Or.inl ⟨by rfl, ?r⟩) hS ?_
      case r => intro W hW; simp [go_sem, execOp, Act.eval]
      simp only [List.getElem_toArray, List.getElem_cons_zero, List.getElem_cons_succ, Act.put, List.setIfInBounds_toArray, List.set_cons_succ, List.set_cons_zero]
      refine wpAnyH_take (i := 8) (v := .int .u64 f) rfl (by kernel_rfl) (by kernel_rfl) (by kernel_rfl) (fun _ _ _ h => h) (Or.inl ⟨by rfl, ?r⟩) hS ?_
      case r => intro W hW; simp [go_sem, execOp, Act.eval, hW.1]
      simp only [List.getElem_toArray, List.getElem_cons_zero, List.getElem_cons_succ, Act.put, List.setIfInBounds_toArray, List.set_cons_succ, List.set_cons_zero]
      refine wpAnyH_take (i := 10) (v := .pointer (some ⟨w.heap.size + 1, 3, none⟩)) rfl (by kernel_rfl) (by kernel_rfl) (by kernel_rfl) (fun _ _ _ h => h) (Or.inl ⟨by rfl, ?r⟩) hS ?_
      case r => intro W hW; simp [go_sem, execOp, Act.eval]
      simp only [List.getElem_toArray, List.getElem_cons_zero, List.getElem_cons_succ, Act.put, List.setIfInBounds_toArray, List.set_cons_succ, List.set_cons_zero]
      refine wpAnyH_take (i := 11) (v := .int .u64 f') rfl (by kernel_rfl) (by kernel_rfl) (by kernel_rfl) (fun _ _ _ h => h) (Or.inl ⟨by rfl, ?r⟩) hS ?_
      case r => intro W hW; simp [go_sem, execOp, Act.eval, hW.2]
      simp only [List.getElem_toArray, List.getElem_cons_zero, List.getElem_cons_succ, Act.put, List.setIfInBounds_toArray, List.set_cons_succ, List.set_cons_zero]
      refine wpAnyH_take (i := 15) (v := .agg #[.string ⟨#[]⟩, .string ⟨#[]⟩]) rfl (by kernel_rfl) (by kernel_rfl) (by kernel_rfl) (fun _ _ _ h => h) (Or.inl ⟨by rfl, ?r⟩) hS ?_
      case r => intro W hW; simp [go_sem, execOp, Act.eval]
      simp only [List.getElem_toArray, List.getElem_cons_zero, List.getElem_cons_succ, Act.put, List.setIfInBounds_toArray, List.set_cons_succ, List.set_cons_zero]
      refine wpAnyH_all (rs := [9]) (by kernel_rfl) (by simp) (fun i2 hi2 => ?_)
      obtain rfl : i2 = 9 := by simpa using hi2
      clear hi2
      refine wpOp_step rfl (fun K hK => ite_yes rfl ?_)
      simp only [List.getElem_toArray, List.getElem_cons_zero, List.getElem_cons_succ]
      go_simp
      refine (RX.out _).mono ?_
      rintro e w5 ⟨rfl, rfl⟩
      go_simp
      refine hK _ _ ⟨hS, ?_⟩
      clear hK K
      refine wpAnyH_all (rs := [12]) (by kernel_rfl) (by simp) (fun i2 hi2 => ?_)
      obtain rfl : i2 = 12 := by simpa using hi2
      clear hi2
      refine wpOp_step rfl (fun K hK => ite_yes rfl ?_)
      simp only [List.getElem_toArray, List.getElem_cons_zero, List.getElem_cons_succ]
      go_simp
      refine (RY.out _).mono ?_
      rintro e w6 ⟨rfl, rfl⟩
      go_simp
      refine hK _ _ ⟨hS, ?_⟩
      clear hK K
      refine wpAnyH_take (i := 13) (v := .bool (x == y)) rfl (by kernel_rfl) (by kernel_rfl) (by kernel_rfl) (fun _ _ _ h => h) (Or.inl ⟨by rfl, ?r⟩) hS ?_
      case r => intro W hW; simp [go_sem, execOp, Act.eval]
      simp only [List.getElem_toArray, List.getElem_cons_zero, List.getElem_cons_succ, Act.put, List.setIfInBounds_toArray, List.set_cons_succ, List.set_cons_zero]
      refine wpAnyH_take (i := 14) (v := .bool (x == y)) rfl (by kernel_rfl) (by kernel_rfl) (by kernel_rfl) (fun _ _ _ h => h) (Or.inl ⟨by rfl, ?r⟩) hS ?_
      case r => intro W hW; simp [go_sem, execOp, Act.eval]
      simp only [List.getElem_toArray, List.getElem_cons_zero, List.getElem_cons_succ, Act.put, List.setIfInBounds_toArray, List.set_cons_succ, List.set_cons_zero]
      refine wpAnyH_take (i := 16) (v := .bool (x == y)) rfl (by kernel_rfl) (by kernel_rfl) (by kernel_rfl) (fun _ _ _ h => h) (Or.inl ⟨by rfl, ?r⟩) hS ?_
      case r => intro W hW; simp [go_sem, execOp, Act.eval]
      simp only [List.getElem_toArray, List.getElem_cons_zero, List.getElem_cons_succ, Act.put, List.setIfInBounds_toArray, List.set_cons_succ, List.set_cons_zero]
      refine wpAnyH_all (rs := [17]) (by kernel_rfl) (by simp) (fun i2 hi2 => ?_)
      obtain rfl : i2 = 17 := by simpa using hi2
      clear hi2
      refine wpOp_step rfl (fun K hK => ite_yes rfl ?_)
      simp only [List.getElem_toArray, List.getElem_cons_zero, List.getElem_cons_succ]
      go_simp
      refine hK _ _ ⟨⟨fun j => ?_, fun j => ?_⟩, ?_⟩
      · exact (World.cell?_setCell_far _ _ _ _ (by show w.heap.size + 1 + 1 ≠ w.heap.size; omega)).trans ((World.cell?_setCell_far _ _ _ _ (by show w.heap.size + 1 + 1 ≠ w.heap.size; omega)).trans (hS.1 j))
      · exact (World.cell?_setCell_far _ _ _ _ (by show w.heap.size + 1 + 1 ≠ w.heap.size + 1; omega)).trans ((World.cell?_setCell_far _ _ _ _ (by show w.heap.size + 1 + 1 ≠ w.heap.size + 1; omega)).trans (hS.2 j))
      clear hK K
      refine wpAnyH_done (by kernel_rfl) ?_ _
      refine NoPanic.normal ?_
      try simp only [Act.put]
      go_wp2
      refine bodyPost_ret (v := .tuple #[.bool (x == y), .agg #[.string ⟨#[]⟩, .string ⟨#[]⟩]]) (by simp [results, Tryd.results23, go_sem, gc4]) rfl ⟨?_, (q4.setCell (p := ⟨w.heap.size + 1 + 1, 0, none⟩) (by show w.heap.size ≤ w.heap.size + 1 + 1; omega) _).setCell (p := ⟨w.heap.size + 1 + 1, 1, none⟩) (by show w.heap.size ≤ w.heap.size + 1 + 1; omega) _⟩
      simp; rfl
    · go_wp2_with fail
      refine (CX.out _).mono ?_
      rintro r w2 ⟨rfl, h2⟩
      subst w2
      go_wp2_with fail
      refine (CY.out _).mono ?_
      rintro r w3 ⟨rfl, h3⟩
      subst w3
      go_wp2_with fail
      go_region
      go_wp2
      refine bodyPost_ret (v := .tuple #[.bool false, .agg #[.string ⟨#[]⟩, .string ⟨#[]⟩]]) (by simp [results, Tryd.results23, go_sem, gc]) rfl ⟨?_, (q1.drew.setCell (p := ⟨w.heap.size + 1 + 1, 0, none⟩) (by show w.heap.size ≤ w.heap.size + 1 + 1; omega) _).setCell (p := ⟨w.heap.size + 1 + 1, 1, none⟩) (by show w.heap.size ≤ w.heap.size + 1 + 1; omega) _⟩
      simp
  · go_wp2_with fail
    refine (CX.out _).mono ?_
    rintro r w2 ⟨rfl, h2⟩
    subst w2
    go_wp2_with fail
    refine (CY.out _).mono ?_
    rintro r w3 ⟨rfl, h3⟩
    subst w3
    go_wp2_with fail
    go_region
    go_wp2
    refine bodyPost_ret (v := .tuple #[.bool false, .agg #[.string ⟨#[]⟩, .string ⟨#[]⟩]]) (by simp [results, Tryd.results23, go_sem, gc]) rfl ⟨?_, (q1.drew.setCell (p := ⟨w.heap.size + 1 + 1, 0, none⟩) (by show w.heap.size ≤ w.heap.size + 1 + 1; omega) _).setCell (p := ⟨w.heap.size + 1 + 1, 1, none⟩) (by show w.heap.size ≤ w.heap.size + 1 + 1; omega) _⟩
    simp
end Go.Proofs.YtnhbpcmiolkllaaDoor
