/-
  DispatchTurns: the law.
-/
import Derived.Test.YtaboeocgoocgfaaGreatDoorBj
namespace Go.Proofs.YtaboeocgoocgfaaGreatDoor
open Go.RowKit Go.ChangeMaps

theorem factA {K I : Nat} (hK : 1 ≤ K ∧ K ≤ 60) (hI : 2 ≤ I ∧ I ≤ 6) : ((I - 1 : Nat) : Int) * (K : Int) = wrap64 ((K : Int) * ((I : Int) - 1)) := by
  obtain rfl | rfl | rfl | rfl | rfl : I = 2 ∨ I = 3 ∨ I = 4 ∨ I = 5 ∨ I = 6 := by omega
  all_goals (unfold wrap64; omega)
theorem factB {K I t : Nat} (hK : 1 ≤ K ∧ K ≤ 60) (hI : 2 ≤ I ∧ I ≤ 6) (ht : t = I * (K + 1)) : K ≤ t ∧ (t : Int) = wrap64 (((K : Int) + 1) * (I : Int)) := by
  subst ht
  obtain rfl | rfl | rfl | rfl | rfl : I = 2 ∨ I = 3 ∨ I = 4 ∨ I = 5 ∨ I = 6 := by omega
  all_goals (unfold wrap64; omega)
theorem meas {K J : Nat} (h : J ≤ K) : K + 1 - (J + 1) < K + 1 - J := by omega
set_option maxRecDepth 100000 in
set_option maxHeartbeats 4000000 in
theorem turnsLaw_any {gw ow gs os : Nat} (rm tn : Int) (h0 : -9223372036854775808 ≤ rm ∧ rm ≤ 9223372036854775807) (h1 : -9223372036854775808 ≤ tn ∧ tn ≤ 9223372036854775807) (w0 : World) (ht : TabsAt gw ow gs os w0) (hg : w0.cell? ⟨0, 0, none⟩ = some (.iface 126 (.agg #[hnd 25]))) :
    Calls Tryz.prog 4 #[.int .i64 rm, .int .i64 tn] w0 fun e w' => e = .returned (.bool true) ∧ Below w0.heap.size w0 w' := by
  go_enter Tryz.func4, Tryz.ntmps4
  go_wp2_with fail
  refine Calls.mono (examples_any _ ht hg) ?_
  rintro _ w ⟨rfl, hw⟩
  have hz0 := hw.size
  have ht := ht.below (Nat.le_refl _) hw
  go_wp2_with fail
  refine Calls.mono (small_any _) ?_
  rintro _ V0 ⟨rfl, hV0⟩
  have u0 : Below w.heap.size w V0 := by rw [hV0]; exact below3 w _ _ _
  have x0 : V0.heap[w.heap.size + 1]? = some (.cells #[.int .i64 8, .string ⟨#[120]⟩, .int .i64 0, .int .i64 0, .slice none 0 0] 30) := by rw [hV0, heap_old _ _ _ (by simp)]; exact heap_new _ _ _ (by simp)
  have a0 : V0.heap[w.heap.size + 1 + 1]? = some (.cells #[.int .i64 3, .string ⟨#[65]⟩, .int .i64 0, .int .i64 0, .slice (some ⟨w.heap.size + 1, 0, none⟩) 1 1] 30) := by rw [hV0]; exact heap_new _ _ _ (by simp)
  clear hV0
  go_wp2_with fail
  refine Calls.mono (make_small (w.heap.size + 1 + 1) (w.heap.size + 1) _ (ht.below (Nat.le_refl _) u0) (heap_lt a0) (heap_lt x0) ((cells_of a0).1 0) ((cells_of a0).1 1) ((cells_of a0).1 2) ((cells_of a0).1 3) ((cells_of a0).1 4) ((cells_of x0).1 0) ((cells_of x0).1 1) ((cells_of x0).1 2) ((cells_of x0).1 3) ((cells_of x0).1 4)) ?_
  rintro _ V1 ⟨tb, M, g, cap, pb, pe, es, clk, rfl, t1, u1⟩
  have z0 := u0.size
  have z1 := u1.size
  have w1 : Below w.heap.size w V1 := u0.trans (u1.mono z0)
  clear u0 x0 a0 u1
  go_wp2_with fail
  refine Calls.mono (pick_n rm 60 (Or.inl rfl) _ h0.1 h0.2) ?_
  rintro _ V ⟨r, hr, rfl, hV⟩
  obtain rfl := hV.symm
  go_wp2_with fail
  obtain ⟨K, hK1, eK⟩ : ∃ K : Nat, Hid (1 ≤ K ∧ K ≤ 60) ∧ 1 + (r : Int) = (K : Int) := ⟨r + 1, ⟨by omega, by omega⟩, by omega⟩
  rw [eK]
  clear eK
  have k0 : decide ((K : Int) < 0) = false := by simp
  have k1 : decide (1024 < (K : Int)) = false := by have := hK1.out; simp; omega
  refine Calls.mono (new_ok tb K _ k0 k1) ?_
  rintro _ V2 ⟨rfl, m2, c2, u2⟩
  have H2 : Hid (V2.heap[V1.heap.size]? = _ ∧ V2.heap[V1.heap.size + 1]? = _) := ⟨m2, c2⟩
  clear m2 c2
  go_wp2_with fail
  refine Calls.mono (new_ok tb K _ k0 k1) ?_
  rintro _ V3 ⟨rfl, m3, c3, u3⟩
  have T0 : Hid (Two V1 V1.heap.size tb M g cap pb pe clk es K V1.heap.size (V1.heap.size + 1) V2.heap.size (V2.heap.size + 1) 0 0 0 V3) := two_new t1 u2 u3 H2.out.1 H2.out.2 m3 c3
  have tl := t1.lts
  clear H2 m3 c3
  go_wp2_with fail
  refine Calls.mono (pick_n tn 5 (Or.inr rfl) _ h1.1 h1.2) ?_
  rintro _ V ⟨q, hq, rfl, hV⟩
  obtain rfl := hV.symm
  go_wp2_with fail
  obtain ⟨N, hN1, eN⟩ : ∃ N : Nat, Hid (2 ≤ N ∧ N ≤ 6) ∧ 2 + (q : Int) = (N : Int) := ⟨q + 2, ⟨by omega, by omega⟩, by omega⟩
  rw [eN]
  clear eN
  go_loopw [14, 15, 16] (fun i _ _ wr => ∃ I : Nat, i = .int .i64 I ∧ I ≤ N ∧ Hid (Two V1 V1.heap.size tb M g cap pb pe clk es K V1.heap.size (V1.heap.size + 1) V2.heap.size (V2.heap.size + 1) (I * (K + 1)) I 0 wr)) (fun i _ _ _ => N - (intOf i).toNat)
  case atStart => exact ⟨0, rfl, by omega, by rw [Nat.zero_mul]; exact T0⟩
  case round =>
    obtain ⟨I, rfl, hI, hT⟩ := hrel
    clear T0
    by_cases hlt : I < N
    · go_wp2_with fail
      go_loopw [15, 16] (fun j _ wr => ∃ J : Nat, j = .int .i64 J ∧ J ≤ K + 1 ∧ Hid (Two V1 V1.heap.size tb M g cap pb pe clk es K V1.heap.size (V1.heap.size + 1) V2.heap.size (V2.heap.size + 1) (I * (K + 1) + J) I (min J K) wr)) (fun j _ _ => K + 1 - (intOf j).toNat)
      case atStart => exact ⟨0, rfl, by omega, by rw [Nat.add_zero, Nat.zero_min]; exact hT⟩
      case round =>
        obtain ⟨J, rfl, hJ, hT2⟩ := hrel
        have hb60 := hK1.out
        have hn6 := hN1.out
        by_cases hlj : J ≤ K
        · have hcv := nm_conv J (by omega) wr
          clear hb60 hn6
          go_wp2_with fail
          obtain ⟨X, hX⟩ : ∃ X, X = wr.alloc (.cells #[.int .u8 110, .int .u8 (wrap64 (48 + (J : Int)) % 256)] 5) := ⟨_, rfl⟩
          rw [← hX]
          have hT3 : Hid (Two V1 V1.heap.size tb M g cap pb pe clk es K V1.heap.size (V1.heap.size + 1) V2.heap.size (V2.heap.size + 1) (I * (K + 1) + J) I (min J K) X) := Two.below hT2.out (by rw [hX]; exact below1 _ _)
          clear hX hcv
          have hmod : (I * (K + 1) + J) % (K + 1) = J := by rw [Nat.add_comm, Nat.add_mul_mod_self_right, Nat.mod_eq_of_lt (by omega)]
          have hle : I * (K + 1) ≤ 6 * 61 := by have := hK1.out; have := hN1.out; exact Nat.mul_le_mul (by omega) (by omega)
          have hd := step_d V1 V1.heap.size tb M g cap pb pe clk es K V1.heap.size (V1.heap.size + 1) V2.heap.size (V2.heap.size + 1) hK1.out tl (by have := hK1.out; omega) X hT3.out
          rw [hmod] at hd
          clear hmod hle
          refine Calls.mono hd ?_
          rintro _ X2 ⟨rfl, h2⟩
          have hT4 : Hid (Two V1 V1.heap.size tb M g cap pb pe clk es K V1.heap.size (V1.heap.size + 1) V2.heap.size (V2.heap.size + 1) (I * (K + 1) + J + 1) I (min J K) X2) := h2
          clear hd h2 hT3
          by_cases hjk : J < K
          · go_wp2_with fail
            rw [Nat.min_eq_left (by omega)] at hT4
            refine Calls.mono (step_c V1 V1.heap.size tb M g cap pb pe clk es K V1.heap.size (V1.heap.size + 1) V2.heap.size (V2.heap.size + 1) hK1.out hjk (by have := hN1.out; omega) tl X2 hT4.out) ?_
            rintro _ X3 ⟨rfl, h3⟩
            have hT5 : Hid (Two V1 V1.heap.size tb M g cap pb pe clk es K V1.heap.size (V1.heap.size + 1) V2.heap.size (V2.heap.size + 1) (I * (K + 1) + (J + 1)) I (min (J + 1) K) X3) := by rw [Nat.min_eq_left (by omega), ← Nat.add_assoc]; exact h3
            clear h3 hT4
            go_wp2_with fail
            have hJ6 := hK1.out
            have hw1 : wrap64 ((J : Int) + 1) = ((J + 1 : Nat) : Int) := by unfold wrap64; omega
            rw [hw1]
            refine ⟨⟨J + 1, rfl, Nat.succ_le_succ hlj, hT5⟩, ?_⟩
            simp only [intOf, Int.toNat_natCast]
            exact meas hlj
          · go_wp2_with fail
            have hT5 : Hid (Two V1 V1.heap.size tb M g cap pb pe clk es K V1.heap.size (V1.heap.size + 1) V2.heap.size (V2.heap.size + 1) (I * (K + 1) + (J + 1)) I (min (J + 1) K) X2) := by
              have e1 : min (J + 1) K = min J K := by omega
              rw [e1, ← Nat.add_assoc]; exact hT4
            have hJ6 := hK1.out
            have hw1 : wrap64 ((J : Int) + 1) = ((J + 1 : Nat) : Int) := by unfold wrap64; omega
            rw [hw1]
            refine ⟨⟨J + 1, rfl, Nat.succ_le_succ hlj, hT5⟩, ?_⟩
            simp only [intOf, Int.toNat_natCast]
            exact meas hlj
        · go_wp2_with fail
          obtain rfl : J = K + 1 := by omega
          have hT5 : Two V1 V1.heap.size tb M g cap pb pe clk es K V1.heap.size (V1.heap.size + 1) V2.heap.size (V2.heap.size + 1) ((I + 1) * (K + 1)) (I + 1) 0 wr := by
            have h := hT2.out
            rw [Nat.min_eq_right (by omega)] at h
            rw [Nat.succ_mul]
            exact turn_c _ _ _ _ _ _ _ _ _ _ _ _ _ _ _ h
          refine ⟨⟨I + 1, rfl, by omega, hT5⟩, ?_⟩
          have e1 : (I : Int) + 1 = ((I + 1 : Nat) : Int) := by omega
          rw [e1]
          simp only [intOf, Int.toNat_natCast]
          omega
    · obtain rfl : I = N := by omega
      have hk2 := hK1.out
      have hn2 := hN1.out
      obtain ⟨t, htt⟩ : ∃ t, t = I * (K + 1) := ⟨_, rfl⟩
      rw [← htt] at hT
      have hB0 := factB hk2 hn2 htt
      clear htt
      obtain ⟨ch, cm, ck⟩ := end_c hk2.2 (by omega) hT.out
      obtain ⟨dh, dm, dk⟩ := end_d hk2.2 hB0.1 hT.out
      obtain ⟨Lc, Dc, kc, Ld, Dd, kd, -, -, -, -, -, -, -, hbl⟩ := hT.out
      have hA : Hid _ := factA hk2 hn2
      have hB := hB0.2
      clear hB0
      go_wp2_with fail
      refine Calls.mono cm ?_
      rintro _ V ⟨rfl, hV⟩
      obtain rfl := hV.symm
      go_wp2_with fail
      refine Calls.mono ch ?_
      rintro _ V ⟨rfl, hV⟩
      obtain rfl := hV.symm
      go_wp2_with fail
      refine Calls.mono ck ?_
      rintro _ V ⟨rfl, hV⟩
      obtain rfl := hV.symm
      go_wp2_with fail
      refine Calls.mono dh ?_
      rintro _ V ⟨rfl, hV⟩
      obtain rfl := hV.symm
      go_wp2_with fail
      refine Calls.mono dm ?_
      rintro _ V ⟨rfl, hV⟩
      obtain rfl := hV.symm
      go_wp2_with fail
      refine Calls.mono dk ?_
      rintro _ V ⟨rfl, hV⟩
      obtain rfl := hV.symm
      go_wp2_with fail
      go_ret
      exact ⟨rfl, hw.trans ((w1.mono hz0).trans (hbl.mono (Nat.le_trans hz0 (Nat.le_trans z0 z1))))⟩
end Go.Proofs.YtaboeocgoocgfaaGreatDoor
