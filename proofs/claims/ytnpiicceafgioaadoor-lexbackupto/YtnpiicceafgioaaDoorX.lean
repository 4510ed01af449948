/-
  The walks of lex.Quote and of the document's own Quote: the literal of any bytes.
-/
import Derived.Test.YtnpiicceafgioaaDoorW
import Derived.Test.YtnpiicceafgioaaDoorU
namespace Go.Proofs.YtnpiicceafgioaaDoor
open Go.RowKit

set_option maxHeartbeats 1000000 in
theorem quote_any (s : ByteArray) (w : World) (hlim : s.size ≤ 17592186044000) :
    Calls Tryd.prog 18 #[.string s] w fun e w' => e = .returned (.string ⟨(quoteL s.data.toList).toArray⟩) ∧ Below w.heap.size w w' := by
  obtain ⟨i0, hi, hz0, hz1, hz2⟩ := info_parts info5
  obtain ⟨L, hL⟩ : ∃ L, L = s.data.toList := ⟨_, rfl⟩
  have hLs : L.length = s.size := by rw [hL]; simp
  have HL : Hid (L = s.data.toList) := hL
  rw [← hL]
  clear hL
  obtain ⟨Q, hQ⟩ : ∃ Q, Q = quoteL L := ⟨_, rfl⟩
  have HQ : Hid (Q = quoteL L) := hQ
  rw [← hQ]
  clear hQ
  go_enter Tryd.func18, Tryd.ntmps18
  go_wp2_with (first | (at_make; refine wpList_make_own _ rfl _ _ 65 rfl w.heap.size 5 i0 (.int .u8 0) 1 Tryd.underlying65 hi hz0 hz1 .i64 .i64 _ (s.size + 2) rfl rfl (by simp) (by rw [hz2]; omega) (by unfold maxLen; omega) (Nat.le_refl _) ?_; intro w1 hown1 hgr1; have hsz1 : w.heap.size ≤ w1.heap.size := hgr1.size) | (at_builtin; refine wpList_append_own _ rfl _ _ 65 rfl w.heap.size 5 i0 (.int .u8 0) 1 1 Tryd.underlying65 hi hz0 hz1 hz2 rfl (by decide) _ _ _ rfl (hown1.alloc _) ⟨w1.heap.size, 0, none⟩ 1 1 [.int .u8 34] rfl rfl (cell_one_new _ _ _) (fun x hx => by simp at hx; subst hx; rfl) (by unfold maxLen; omega) (by omega) (by simp; omega) ?_; intro v2 w2 hown2 hgr2 _))
  have hb1 : Below w.heap.size w w1 := Below.grown (Below.refl _ _) hgr1 (Nat.le_refl _) (fun j hj => by cases hj)
  have hb2 : Below w.heap.size w w2 := Below.grown (hb1.alloc (by omega) _) hgr2 (by simp; omega) (fun j hj => by have := (hown1.lt _ hj).1; omega)
  clear hgr1 hgr2 hown1 hb1
  go_loopw [3, 14] (fun v i wr => ∃ k : Nat, k ≤ s.size ∧ i = .int .i64 k ∧ Below w.heap.size w wr ∧ Hid (wr.ownsRow w.heap.size 5 1 v (34 :: (L.take k).flatMap quoteB).length (Lib.byteCells (34 :: (L.take k).flatMap quoteB)))) (fun _ i _ => s.size - (intOf i).toNat)
  case atStart => exact ⟨0, Nat.zero_le _, rfl, hb2, hown2⟩
  case round =>
    obtain ⟨k, hk, rfl, hb, HO⟩ := hrel
    have hfl := flat_len (L.take k)
    have htk : (L.take k).length ≤ k := List.length_take_le _ _
    have hbs := hb.size
    have HAL : Hid ((34 :: (L.take k).flatMap quoteB).length ≤ 70368744177660) := by show _ ≤ _; rw [List.length_cons]; omega
    clear hfl htk
    by_cases hlt : k < s.size
    · have HB : Hid (s[k]'hlt = L.getD k 0) := by show _ = _; rw [HL.out, getD_byte s k hlt]
      go_wp2_with (go_at_call 39; refine (appendQuoted_any w.heap.size _ (34 :: (L.take k).flatMap quoteB) (s[k]'hlt) _ hbs HO.out (Nat.le_trans HAL.out (by decide))).mono ?_; rintro r w3 ⟨v', rfl, hown3, hb3⟩)
      go_roundw
      case rel =>
        refine ⟨k + 1, by omega, by go_num, hb.trans hb3, ?_⟩
        show World.ownsRow _ _ _ _ _ _ _
        rw [take_flat L k (by omega), ← HB.out]
        exact hown3
      case measure => simp [intOf]; omega
    · have hke : (L.take k) = L := List.take_of_length_le (by omega)
      rw [hke] at HO HAL
      clear hke
      have hown3 := HO.out
      have HM1 : Hid ((34 :: L.flatMap quoteB).length + 1 ≤ maxLen) := by have := HAL.out; show _ ≤ _; unfold maxLen; omega
      have HM2 : Hid (((34 :: L.flatMap quoteB).length + 1) * 1 ≤ 140737488355328) := by have := HAL.out; show _ ≤ _; omega
      go_wp2_with (at_builtin; refine wpList_append_own _ rfl _ _ 65 rfl w.heap.size 5 i0 (.int .u8 0) 1 1 Tryd.underlying65 hi hz0 hz1 hz2 rfl (by decide) _ _ _ rfl (hown3.alloc _) ⟨wr.heap.size, 0, none⟩ 1 1 [.int .u8 34] rfl rfl (cell_one_new _ _ _) (fun x hx => by simp at hx; subst hx; rfl) HM1.out HM2.out (by simp; omega) ?_; intro v4 w4 hown4 hgr4 _; have hcv := conv_own (t := 34 :: (L.flatMap quoteB ++ [34])) (n := (34 :: L.flatMap quoteB).length + 1) (v := v4) (w := w4) (base := w.heap.size) (by have e : Lib.byteCells (34 :: (L.flatMap quoteB ++ [34])) = Lib.byteCells (34 :: L.flatMap quoteB) ++ [.int .u8 34] := (by rw [← List.cons_append, byteCells_append]; rfl); rw [e]; exact hown4))
      go_ret
      refine ⟨?_, Below.grown (hb.alloc (by omega) _) hgr4 (by simp; omega) (fun j hj => by have := (hown3.lt _ hj).1; omega)⟩
      rw [HQ.out]
      rfl

theorem wrap_small (n : Nat) (h : n < 16) : IntKind.u8.wrap (n : Int) = (n : Int) := by
  have : ∀ n : Fin 16, IntKind.u8.wrap (n.val : Int) = (n.val : Int) := by decide
  exact this ⟨n, h⟩

set_option maxHeartbeats 2000000 in
theorem refQuote_any (s : ByteArray) (w : World) (hlim : s.size ≤ 17592186044000) :
    Calls Tryd.prog 19 #[.string s] w fun e w' => e = .returned (.string ⟨(quoteL s.data.toList).toArray⟩) ∧ Below w.heap.size w w' := by
  obtain ⟨i0, hi, hz0, hz1, hz2⟩ := info_parts info5
  obtain ⟨L, hL⟩ : ∃ L, L = s.data.toList := ⟨_, rfl⟩
  have hLs : L.length = s.size := by rw [hL]; simp
  have HL : Hid (L = s.data.toList) := hL
  rw [← hL]
  clear hL
  obtain ⟨Q, hQ⟩ : ∃ Q, Q = quoteL L := ⟨_, rfl⟩
  have HQ : Hid (Q = quoteL L) := hQ
  rw [← hQ]
  clear hQ
  go_enter Tryd.func19, Tryd.ntmps19
  go_wp2
  go_loopw [3, 4] (fun v i wr => ∃ k : Nat, k ≤ s.size ∧ i = .int .i64 k ∧ Below w.heap.size w wr ∧ Hid (wr.ownsRow w.heap.size 5 1 v (34 :: (L.take k).flatMap quoteB).length (Lib.byteCells (34 :: (L.take k).flatMap quoteB)))) (fun _ i _ => s.size - (intOf i).toNat)
  case atStart => exact ⟨0, Nat.zero_le _, rfl, (Below.refl _ _).alloc (Nat.le_refl _) _, World.ownsRow_lit w _ 1 (Nat.le_refl _) (by unfold maxLen; omega) rfl⟩
  case round =>
    obtain ⟨k, hk, rfl, hb, HO⟩ := hrel
    have hfl := flat_len (L.take k)
    have htk : (L.take k).length ≤ k := List.length_take_le _ _
    have hbs := hb.size
    have HAL : Hid ((34 :: (L.take k).flatMap quoteB).length ≤ 70368744177660) := by show _ ≤ _; rw [List.length_cons]; omega
    have HM1 : Hid ((34 :: (L.take k).flatMap quoteB).length + 1 ≤ maxLen) := by have := HAL.out; show _ ≤ _; unfold maxLen; omega
    have HN1 : Hid (((34 :: (L.take k).flatMap quoteB).length + 1) * 1 ≤ 140737488355328) := by have := HAL.out; show _ ≤ _; omega
    have HM2 : Hid ((34 :: (L.take k).flatMap quoteB).length + 2 ≤ maxLen) := by have := HAL.out; show _ ≤ _; unfold maxLen; omega
    have HN2 : Hid (((34 :: (L.take k).flatMap quoteB).length + 2) * 1 ≤ 140737488355328) := by have := HAL.out; show _ ≤ _; omega
    have HM4 : Hid ((34 :: (L.take k).flatMap quoteB).length + 4 ≤ maxLen) := by have := HAL.out; show _ ≤ _; unfold maxLen; omega
    have HN4 : Hid (((34 :: (L.take k).flatMap quoteB).length + 4) * 1 ≤ 140737488355328) := by have := HAL.out; show _ ≤ _; omega
    clear hfl htk
    by_cases hlt : k < s.size
    · have HB : Hid (s[k]'hlt = L.getD k 0) := by show _ = _; rw [HL.out, getD_byte s k hlt]
      have hown := HO.out
      have hb256 := (s[k]'hlt).toNat_lt
      obtain ⟨B, hB⟩ : ∃ B, B = s[k]'hlt := ⟨_, rfl⟩
      have HBB : Hid (B = s[k]'hlt) := hB
      by_cases c10 : (s[k]'hlt).toNat = 10
      · have t10 : (((s[k]'hlt).toNat : Int) == 10) = true := by rw [c10]; rfl
        have HQB : Hid (quoteB (s[k]'hlt) = [92, 110]) := by show _ = _; unfold quoteB; rw [if_neg (by omega), if_pos c10]
        clear c10 hB
        go_wp2_with (at_builtin; refine wpList_append_own _ rfl _ _ 65 rfl w.heap.size 5 i0 (.int .u8 0) 1 1 Tryd.underlying65 hi hz0 hz1 hz2 rfl (by decide) _ _ _ rfl (hown.alloc _) ⟨wr.heap.size, 0, none⟩ 2 2 [.int .u8 92, .int .u8 110] rfl rfl (cell_two_new _ _ _ _) (fun x hx => by simp at hx; rcases hx with rfl | rfl <;> rfl) HM2.out HN2.out (by simp; omega) ?_; intro v' w3 hown3 hgr3 _; have HB3 : Hid (Below w.heap.size w w3) := (Below.grown (hb.alloc (by omega) _) hgr3 (by simp; omega) (fun j hj => by have := (hown.lt _ hj).1; omega)); have HO3 : Hid (w3.ownsRow w.heap.size 5 1 v' _ _) := hown3; clear hown3 hgr3)
        go_roundw
        case rel =>
          refine ⟨k + 1, by omega, by go_num, HB3.out, ?_⟩
          show World.ownsRow _ _ _ _ _ _ _
          rw [take_flat L k (by omega), ← HB.out, HQB.out, ← List.cons_append, byteCells_append, List.length_append]
          exact HO3.out
        case measure => simp [intOf]; omega
      have t10 : (((s[k]'hlt).toNat : Int) == 10) = false := beq_of_ne (k := 10) c10
      by_cases c9 : (s[k]'hlt).toNat = 9
      · have t9 : (((s[k]'hlt).toNat : Int) == 9) = true := by rw [c9]; rfl
        have HQB : Hid (quoteB (s[k]'hlt) = [92, 116]) := by show _ = _; unfold quoteB; rw [if_neg (by omega), if_neg (by omega), if_pos c9]
        clear c9 c10 hB
        go_wp2_with (at_builtin; refine wpList_append_own _ rfl _ _ 65 rfl w.heap.size 5 i0 (.int .u8 0) 1 1 Tryd.underlying65 hi hz0 hz1 hz2 rfl (by decide) _ _ _ rfl (hown.alloc _) ⟨wr.heap.size, 0, none⟩ 2 2 [.int .u8 92, .int .u8 116] rfl rfl (cell_two_new _ _ _ _) (fun x hx => by simp at hx; rcases hx with rfl | rfl <;> rfl) HM2.out HN2.out (by simp; omega) ?_; intro v' w3 hown3 hgr3 _; have HB3 : Hid (Below w.heap.size w w3) := (Below.grown (hb.alloc (by omega) _) hgr3 (by simp; omega) (fun j hj => by have := (hown.lt _ hj).1; omega)); have HO3 : Hid (w3.ownsRow w.heap.size 5 1 v' _ _) := hown3; clear hown3 hgr3)
        go_roundw
        case rel =>
          refine ⟨k + 1, by omega, by go_num, HB3.out, ?_⟩
          show World.ownsRow _ _ _ _ _ _ _
          rw [take_flat L k (by omega), ← HB.out, HQB.out, ← List.cons_append, byteCells_append, List.length_append]
          exact HO3.out
        case measure => simp [intOf]; omega
      have t9 : (((s[k]'hlt).toNat : Int) == 9) = false := beq_of_ne (k := 9) c9
      by_cases c34 : (s[k]'hlt).toNat = 34
      · have t34 : (((s[k]'hlt).toNat : Int) == 34) = true := by rw [c34]; rfl
        have HQB : Hid (quoteB (s[k]'hlt) = [92, s[k]'hlt]) := by show _ = _; unfold quoteB; rw [if_pos (.inl c34)]
        clear c34 c9 c10 hB
        go_wp2_with (at_builtin; refine wpList_append_own _ rfl _ _ 65 rfl w.heap.size 5 i0 (.int .u8 0) 1 1 Tryd.underlying65 hi hz0 hz1 hz2 rfl (by decide) _ _ _ rfl (hown.alloc _) ⟨wr.heap.size, 0, none⟩ 2 2 [.int .u8 92, .int .u8 (s[k]'hlt).toNat] rfl rfl (cell_two_new _ _ _ _) (fun x hx => by simp at hx; rcases hx with rfl | rfl <;> rfl) HM2.out HN2.out (by simp; omega) ?_; intro v' w3 hown3 hgr3 _; have HB3 : Hid (Below w.heap.size w w3) := (Below.grown (hb.alloc (by omega) _) hgr3 (by simp; omega) (fun j hj => by have := (hown.lt _ hj).1; omega)); have HO3 : Hid (w3.ownsRow w.heap.size 5 1 v' _ _) := hown3; clear hown3 hgr3)
        go_roundw
        case rel =>
          refine ⟨k + 1, by omega, by go_num, HB3.out, ?_⟩
          show World.ownsRow _ _ _ _ _ _ _
          rw [take_flat L k (by omega), ← HB.out, HQB.out, ← List.cons_append, byteCells_append, List.length_append]
          exact HO3.out
        case measure => simp [intOf]; omega
      have t34 : (((s[k]'hlt).toNat : Int) == 34) = false := beq_of_ne (k := 34) c34
      by_cases c92 : (s[k]'hlt).toNat = 92
      · have t92 : (((s[k]'hlt).toNat : Int) == 92) = true := by rw [c92]; rfl
        have HQB : Hid (quoteB (s[k]'hlt) = [92, s[k]'hlt]) := by show _ = _; unfold quoteB; rw [if_pos (.inr c92)]
        clear c92 c34 c9 c10 hB
        go_wp2_with (at_builtin; refine wpList_append_own _ rfl _ _ 65 rfl w.heap.size 5 i0 (.int .u8 0) 1 1 Tryd.underlying65 hi hz0 hz1 hz2 rfl (by decide) _ _ _ rfl (hown.alloc _) ⟨wr.heap.size, 0, none⟩ 2 2 [.int .u8 92, .int .u8 (s[k]'hlt).toNat] rfl rfl (cell_two_new _ _ _ _) (fun x hx => by simp at hx; rcases hx with rfl | rfl <;> rfl) HM2.out HN2.out (by simp; omega) ?_; intro v' w3 hown3 hgr3 _; have HB3 : Hid (Below w.heap.size w w3) := (Below.grown (hb.alloc (by omega) _) hgr3 (by simp; omega) (fun j hj => by have := (hown.lt _ hj).1; omega)); have HO3 : Hid (w3.ownsRow w.heap.size 5 1 v' _ _) := hown3; clear hown3 hgr3)
        go_roundw
        case rel =>
          refine ⟨k + 1, by omega, by go_num, HB3.out, ?_⟩
          show World.ownsRow _ _ _ _ _ _ _
          rw [take_flat L k (by omega), ← HB.out, HQB.out, ← List.cons_append, byteCells_append, List.length_append]
          exact HO3.out
        case measure => simp [intOf]; omega
      have t92 : (((s[k]'hlt).toNat : Int) == 92) = false := beq_of_ne (k := 92) c92
      by_cases c4 : (s[k]'hlt).toNat < 32 ∨ 126 < (s[k]'hlt).toNat
      · obtain ⟨hd, hhd⟩ : ∃ hd, hd = (s[k]'hlt).toNat / 16 := ⟨_, rfl⟩
        obtain ⟨ld, hld⟩ : ∃ ld, ld = (s[k]'hlt).toNat % 16 := ⟨_, rfl⟩
        have HQB : Hid (quoteB (s[k]'hlt) = [92, 120, hexD hd, hexD ld]) := by show _ = _; unfold quoteB; rw [if_neg (by omega), if_neg (by omega), if_neg (by omega), if_pos c4, ← hhd, ← hld]
        have y1 : ((s[k]'hlt).toNat : Int) / 16 = (hd : Int) := by omega
        have y2 : ((s[k]'hlt).toNat : Int).tmod 16 = (ld : Int) := by rw [Int.tmod_eq_emod_of_nonneg (by omega)]; omega
        have z1 : hd < 16 := by omega
        have z2 : ld < 16 := by omega
        have z1' : (hd : Int) < 16 := by omega
        have z2' : (ld : Int) < 16 := by omega
        have q1 := wrap_small hd z1
        have q2 := wrap_small ld z2
        have g1 := hex_get hd z1
        have g2 := hex_get ld z2
        clear hhd hld hB
        obtain ⟨d1, hd1⟩ : ∃ d1, d1 = hexD hd := ⟨_, rfl⟩
        obtain ⟨d2, hd2⟩ : ∃ d2, d2 = hexD ld := ⟨_, rfl⟩
        rw [← hd1] at g1 HQB
        rw [← hd2] at g2 HQB
        clear hd1 hd2
        by_cases l32 : ((s[k]'hlt).toNat : Int) < 32
        · go_wp2
          go_region_law (refine step_append_own rfl (.tmp 50) (.tmp 57) 65 rfl w.heap.size 5 i0 (.int .u8 0) 1 1 Tryd.underlying65 hi hz0 hz1 hz2 rfl (by decide) _ _ _ rfl (hown.alloc _) ⟨wr.heap.size, 0, none⟩ 4 4 [.int .u8 92, .int .u8 120, .int .u8 d1.toNat, .int .u8 d2.toNat] rfl rfl (four_new wr _ _ _ _ 5) (fun x hx => by simp at hx; rcases hx with rfl | rfl | rfl | rfl <;> rfl) HM4.out HN4.out (by simp; omega) ?_; intro v' w3 hown3 hgr3; have HB3 : Hid (Below w.heap.size w w3) := (Below.grown ((hb.alloc (by omega) _).drew) hgr3 (by simp; omega) (fun j hj => by have := (hown.lt _ hj).1; omega)); have HO3 : Hid (w3.ownsRow w.heap.size 5 1 v' _ _) := hown3; clear hown3 hgr3)
          all_goals go_wp2
          all_goals (
            go_roundw
            case rel =>
              refine ⟨k + 1, by omega, by go_num, HB3.out, ?_⟩
              show World.ownsRow _ _ _ _ _ _ _
              rw [take_flat L k (by omega), ← HB.out, HQB.out, ← List.cons_append, byteCells_append, List.length_append]
              exact HO3.out
            case measure => simp [intOf]; omega)
        · have l126 : (126 : Int) < (s[k]'hlt).toNat := by omega
          go_wp2
          go_region_law (refine step_append_own rfl (.tmp 50) (.tmp 57) 65 rfl w.heap.size 5 i0 (.int .u8 0) 1 1 Tryd.underlying65 hi hz0 hz1 hz2 rfl (by decide) _ _ _ rfl (hown.alloc _) ⟨wr.heap.size, 0, none⟩ 4 4 [.int .u8 92, .int .u8 120, .int .u8 d1.toNat, .int .u8 d2.toNat] rfl rfl (four_new wr _ _ _ _ 5) (fun x hx => by simp at hx; rcases hx with rfl | rfl | rfl | rfl <;> rfl) HM4.out HN4.out (by simp; omega) ?_; intro v' w3 hown3 hgr3; have HB3 : Hid (Below w.heap.size w w3) := (Below.grown ((hb.alloc (by omega) _).drew) hgr3 (by simp; omega) (fun j hj => by have := (hown.lt _ hj).1; omega)); have HO3 : Hid (w3.ownsRow w.heap.size 5 1 v' _ _) := hown3; clear hown3 hgr3)
          all_goals go_wp2
          all_goals (
            go_roundw
            case rel =>
              refine ⟨k + 1, by omega, by go_num, HB3.out, ?_⟩
              show World.ownsRow _ _ _ _ _ _ _
              rw [take_flat L k (by omega), ← HB.out, HQB.out, ← List.cons_append, byteCells_append, List.length_append]
              exact HO3.out
            case measure => simp [intOf]; omega)
      · have l32 : ¬ ((s[k]'hlt).toNat : Int) < 32 := by omega
        have l126 : ¬ (126 : Int) < (s[k]'hlt).toNat := by omega
        have HQB : Hid (quoteB (s[k]'hlt) = [s[k]'hlt]) := by show _ = _; unfold quoteB; rw [if_neg (by omega), if_neg (by omega), if_neg (by omega), if_neg c4]
        clear c4 c92 c34 c9 c10 hB
        go_wp2_with (at_builtin; refine wpList_append_own _ rfl _ _ 65 rfl w.heap.size 5 i0 (.int .u8 0) 1 1 Tryd.underlying65 hi hz0 hz1 hz2 rfl (by decide) _ _ _ rfl (hown.alloc _) ⟨wr.heap.size, 0, none⟩ 1 1 [.int .u8 (s[k]'hlt).toNat] rfl rfl (cell_one_new _ _ _) (fun x hx => by simp at hx; subst hx; rfl) HM1.out HN1.out (by simp; omega) ?_; intro v' w3 hown3 hgr3 _; have HB3 : Hid (Below w.heap.size w w3) := (Below.grown (hb.alloc (by omega) _) hgr3 (by simp; omega) (fun j hj => by have := (hown.lt _ hj).1; omega)); have HO3 : Hid (w3.ownsRow w.heap.size 5 1 v' _ _) := hown3; clear hown3 hgr3)
        go_roundw
        case rel =>
          refine ⟨k + 1, by omega, by go_num, HB3.out, ?_⟩
          show World.ownsRow _ _ _ _ _ _ _
          rw [take_flat L k (by omega), ← HB.out, HQB.out, ← List.cons_append, byteCells_append, List.length_append]
          exact HO3.out
        case measure => simp [intOf]; omega
    · have hke : (L.take k) = L := List.take_of_length_le (by omega)
      rw [hke] at HO HAL HM1 HN1
      clear hke HM2 HN2 HM4 HN4
      have hown3 := HO.out
      go_wp2_with (at_builtin; refine wpList_append_own _ rfl _ _ 65 rfl w.heap.size 5 i0 (.int .u8 0) 1 1 Tryd.underlying65 hi hz0 hz1 hz2 rfl (by decide) _ _ _ rfl (hown3.alloc _) ⟨wr.heap.size, 0, none⟩ 1 1 [.int .u8 34] rfl rfl (cell_one_new _ _ _) (fun x hx => by simp at hx; subst hx; rfl) HM1.out HN1.out (by simp; omega) ?_; intro v4 w4 hown4 hgr4 _; have hcv := conv_own (t := 34 :: (L.flatMap quoteB ++ [34])) (n := (34 :: L.flatMap quoteB).length + 1) (v := v4) (w := w4) (base := w.heap.size) (by have e : Lib.byteCells (34 :: (L.flatMap quoteB ++ [34])) = Lib.byteCells (34 :: L.flatMap quoteB) ++ [.int .u8 34] := (by rw [← List.cons_append, byteCells_append]; rfl); rw [e]; exact hown4))
      go_ret
      refine ⟨?_, Below.grown (hb.alloc (by omega) _) hgr4 (by simp; omega) (fun j hj => by have := (hown3.lt _ hj).1; omega)⟩
      rw [HQ.out]
      rfl
end Go.Proofs.YtnpiicceafgioaaDoor
