/-
  The walk of the law LexStands: it answers true at every text, in every memory that holds the two tables.
-/
import Derived.Test.YtnpiicceafgioaaDoorSv
namespace Go.Proofs.YtnpiicceafgioaaDoor
open Go.RowKit

theorem gap_piece (s : ByteArray) (a p : Nat) (hap : a ≤ p) (g : Gap ((s.data.toList.drop a).take (p - a))) : Gap (s.extract a p).data.toList := by
  obtain ⟨m, rfl⟩ : ∃ m, p = a + m := ⟨p - a, by omega⟩
  rw [extract_add]
  rw [Nat.add_sub_cancel_left] at g
  exact g

theorem fits_cases (l : Bytes) (kd : Nat) (tx : Bytes) (p n : Nat) (h : Fits l (kd, tx, p) n) :
    (kd = 1 ∧ tx = [] ∧ n = 1 ∧ p < l.length ∧ ((l.getD p 0).toNat = 59 ∨ (l.getD p 0).toNat = 10)) ∨ (kd = 1 ∧ tx = [] ∧ n = 0 ∧ p = l.length) ∨
    (kd = 6 ∧ p < l.length ∧ (l.getD p 0).toNat = 34 ∧ lit l p (p + 1) [] = .ok (tx, p + n)) ∨
    ((kd = 2 ∨ kd = 3 ∨ kd = 4 ∨ kd = 5 ∨ kd = 7) ∧ 0 < tx.length ∧ p + tx.length ≤ l.length ∧ (l.drop p).take tx.length = tx ∧ isName tx = (kd == 2) ∧ isWord tx = (kd == 3) ∧ n = tx.length) := by
  cases h with
  | sep _ h hb => exact .inl ⟨rfl, rfl, rfl, h, hb⟩
  | fin => exact .inr (.inl ⟨rfl, rfl, rfl, rfl⟩)
  | text _ _ _ h hq hl => exact .inr (.inr (.inl ⟨rfl, h, hq, hl⟩))
  | plain _ _ _ hk h0 hle ht hn hw => exact .inr (.inr (.inr ⟨hk, h0, hle, ht, hn, hw, rfl⟩))

set_option maxRecDepth 100000 in
set_option maxHeartbeats 4000000 in
theorem lexStands_any {gw ow gs os : Nat} (s : ByteArray) (w : World) (ht : TabsAt gw ow gs os w) :
    Calls Tryd.prog 7 #[.string s] w fun e w' => e = .returned (.bool true) ∧ Below w.heap.size w w' := by
  obtain ⟨X, hX⟩ : ∃ X, X = scanSpec s.data.toList := ⟨_, rfl⟩
  have HX : Hid (X = scanSpec s.data.toList) := hX
  have HLs : Hid (s.data.toList.length = s.size) := by show _ = _; simp
  clear hX
  go_enter Tryd.func7, Tryd.ntmps7
  go_wp2_with fail
  refine (known_any _ ht).mono ?_
  rintro r w1 ⟨rfl, hb1⟩
  have hz1 := hb1.size
  have ht1 := ht.below (Nat.le_refl _) hb1
  go_wp2_with fail
  refine (scan_any s _ ht1).mono ?_
  intro r w2 hres
  rw [← HX.out] at hres
  cases hres with
  | error c p b he hlo hwr hb2 =>
    subst he
    go_wp2_with fail
    go_ret
    exact ⟨rfl, hb1.trans (hb2.mono hz1)⟩
  | ok ts v he hown hn hb2 =>
    subst he
    have hz2 := hb2.size
    obtain ⟨pv, cap, rfl⟩ := row_form hown
    have HB2 : Hid (Below w.heap.size w w2) := hb1.trans (hb2.mono hz1)
    have HT2 : Hid (TabsAt gw ow gs os w2) := ht1.below (Nat.le_refl _) hb2
    have HO2 : Hid (w2.ownsRow w1.heap.size 48 3 (.slice pv ts.length cap) ts.length (tokCells ts)) := hown
    have HS0 : Hid (St s.data.toList 0 (ts.drop 0)) := st_spec _ ts HX.out.symm
    have hlim : s.size ≤ 60000 := by
      have := HX.out
      unfold scanSpec at this
      split at this
      · cases this
      · have := HLs.out; omega
    obtain ⟨N, hN⟩ : ∃ N, N = ts.length := ⟨_, rfl⟩
    have HN : Hid (N = ts.length) := hN
    rw [← hN] at HO2 hn ⊢
    clear hN hb1 hb2 ht ht1 hown HX
    go_wp2_with fail
    go_loopw [6, 7] (fun av iv wr => ∃ (a k : Nat), av = .int .i64 a ∧ iv = .int .i64 k ∧ a ≤ s.size ∧ k ≤ N ∧ k ≤ 3000 ∧ Below w2.heap.size w2 wr ∧ Hid (St s.data.toList a (ts.drop k))) (fun _ iv _ => 3000 - (intOf iv).toNat)
    case atStart => exact ⟨0, 0, rfl, rfl, by omega, by omega, by omega, Below.refl _ _, HS0⟩
    case round =>
      obtain ⟨a, k, rfl, rfl, has, hkN, hk3, hbr, HST⟩ := hrel
      have hzr := hbr.size
      by_cases hlt : k < N
      · by_cases hl3 : k < 3000
        · have hkl : k < ts.length := by have := HN.out; omega
          obtain ⟨t, htk⟩ : ∃ t, t = ts[k] := ⟨_, rfl⟩
          have hst := HST.out
          rw [List.drop_eq_getElem_cons hkl, ← htk] at hst
          obtain ⟨hap, hps, hgap, n, hfit, hpn, hrest⟩ := st_next _ _ _ hst (by rw [HLs.out]; exact has) t _ rfl
          rw [HLs.out] at hps hpn
          have hor := ownsRow_below HO2.out hbr
          obtain ⟨g, rfl, -, hg, hcap, -⟩ := row_some hor (by omega)
          have a0 := (hor.cellAt (k * 3) (by omega)).trans (tokCells_in ts k hkl 0 (by omega))
          have a1 := (hor.cellAt (k * 3 + 1) (by omega)).trans (tokCells_in ts k hkl 1 (by omega))
          have a2 := (hor.cellAt (k * 3 + 2) (by omega)).trans (tokCells_in ts k hkl 2 (by omega))
          rw [← htk] at a0 a1 a2
          obtain ⟨kd, tx, p⟩ := t
          simp only [tokCell, List.getElem?_cons_zero, List.getElem?_cons_succ] at a0 a1 a2 hap hps hpn hrest hgap
          have HR : Hid (St s.data.toList (p + n) (ts.drop (k + 1))) := hrest
          have HF : Hid (Fits s.data.toList (kd, tx, p) n) := hfit
          have HG : Hid (Gap (s.extract a p).data.toList) := gap_piece s a p hap hgap
          have i1 : (k : Int) < N := by omega
          have i2 : (k : Int) < 3000 := by omega
          have hbn : Below w2.heap.size w2 (wr.alloc (.cells #[.int .i64 kd, .string ⟨tx.toArray⟩, .int .i64 p] 48)) := hbr.alloc hzr _
          clear htk hst hgap hfit hrest hor
          obtain ⟨T, hT⟩ : ∃ T, T = ByteArray.mk tx.toArray := ⟨_, rfl⟩
          rw [← hT] at a1 hbn
          have HT : Hid (T = ByteArray.mk tx.toArray) := hT
          clear hT
          go_wp2_with fail
          refine (between_gap (s.extract a p) _ (by simp; omega) HG.out).mono ?_
          rintro r w3 ⟨rfl, hw3⟩
          have hw3' := hw3.symm
          subst hw3'
          clear hw3
          rcases fits_cases _ _ _ _ _ HF.out with ⟨rfl, rfl, rfl, hpl, hb⟩ | ⟨rfl, rfl, rfl, hpl⟩ | ⟨rfl, hpl, hq, hlit⟩ | ⟨hkd, h0, hle, htk, hnm, hwd, rfl⟩
          · obtain rfl : T = ⟨#[]⟩ := HT.out
            rw [HLs.out] at hpl
            rw [getD_byte s p hpl] at hb
            rcases hb with hb | hb
            · have p59 : ((s[p]'hpl).toNat : Int) = 59 := by omega
              clear hb
              go_wp2_with fail
              exact ⟨⟨p + 1, k + 1, by go_num, by go_num, by omega, by omega, by omega, hbn, HR⟩, by simp [intOf]; omega⟩
            · have p10 : ((s[p]'hpl).toNat : Int) = 10 := by omega
              clear hb
              go_wp2_with fail
              exact ⟨⟨p + 1, k + 1, by go_num, by go_num, by omega, by omega, by omega, hbn, HR⟩, by simp [intOf]; omega⟩
          · obtain rfl : T = ⟨#[]⟩ := HT.out
            rw [HLs.out] at hpl
            subst hpl
            go_wp2_with fail
            exact ⟨⟨s.size, k + 1, by go_num, by go_num, by omega, by omega, by omega, hbn, HR⟩, by simp [intOf]; omega⟩
          · rw [HLs.out] at hpl
            have hpc := piece_ok s.data.toList p n tx (by rw [HLs.out]; exact hpl) (by rw [HLs.out]; exact hlim) hq hlit
            have hn2 : 2 ≤ n := hpc.1
            have HLT : Hid (lit s.data.toList p (p + 1) [] = .ok (tx, p + n)) := hlit
            have HQ : Hid ((s.data.toList.getD p 0).toNat = 34) := hq
            clear hpc hq hlit
            go_wp2_with fail
            have h28 := length_lit s p n tx (wr.alloc (.cells #[.int .i64 6, .string T, .int .i64 p] 48)) hpl hlim HQ.out HLT.out
            rw [← HT.out] at h28
            refine h28.mono ?_
            rintro r w4 ⟨rfl, hb4⟩
            obtain ⟨hc4, -⟩ := bcell hb4
            have hz4 := hb4.size
            have hbn4 := hbn.trans (hb4.mono (by simp; omega))
            clear h28
            go_wp2_with fail
            exact ⟨⟨p + n, k + 1, by go_num, by go_num, by omega, by omega, by omega, hbn4, HR⟩, by simp [intOf]; omega⟩
          · have hTs : T.size = tx.length := by rw [HT.out]; simp [ByteArray.size]
            have hTl : T.data.toList = tx := by rw [HT.out]
            rw [HLs.out] at hle
            rw [← hTs] at h0 hle HR hpn
            have q0 : ((T.size : Int) == 0) = false := beq_of_ne (k := 0) (by omega)
            have q1 : decide ((s.size : Int) < (p : Int) + T.size) = false := by simp; omega
            have q2 : ((s.extract p (p + T.size)).toList == T.toList) = true := by
              rw [ByteArray.toList_eq, ByteArray.toList_eq, extract_add, hTs, hTl]
              simpa using htk
            have HNM : Hid (isName T.data.toList = (kd == 2)) := by show _ = _; rw [hTl]; exact hnm
            have HWD : Hid (isWord T.data.toList = (kd == 3)) := by show _ = _; rw [hTl]; exact hwd
            have HTR : Hid (TabsAt gw ow gs os (wr.alloc (.cells #[.int .i64 kd, .string T, .int .i64 p] 48))) := HT2.out.below (Nat.le_refl _) hbn
            clear htk hnm hwd hTs hTl hpn
            obtain ⟨W, hW⟩ : ∃ W, W = wr.alloc (.cells #[.int .i64 kd, .string T, .int .i64 p] 48) := ⟨_, rfl⟩
            have c0 : W.cell? ⟨wr.heap.size, 0, none⟩ = some (.int .i64 kd) := by rw [hW]; simp [go_sem]
            have c1 : W.cell? ⟨wr.heap.size, 1, none⟩ = some (.string T) := by rw [hW]; simp [go_sem]
            have c2 : W.cell? ⟨wr.heap.size, 2, none⟩ = some (.int .i64 p) := by rw [hW]; simp [go_sem]
            have hzW : wr.heap.size < W.heap.size := by rw [hW]; simp
            rw [← hW] at HTR hbn ⊢
            clear hW
            rcases hkd with rfl | rfl | rfl | rfl | rfl
            all_goals (
              go_wp2_with fail
              go_quiet (fail)
              go_wp2_with fail)
            all_goals (
              obtain ⟨W1, hW1⟩ : ∃ W1, W1 = W.drewN nq := ⟨_, rfl⟩
              have hb5 : Below W.heap.size W W1 := by rw [hW1]; exact below_drewN (Below.refl _ _) _
              have ht5 := HTR.out.below (Nat.le_refl _) hb5
              rw [← hW1]
              clear hW1
              have hz5 := hb5.size
              refine (name_any T _ ht5).mono ?_
              rintro r w6 ⟨rfl, hb6⟩
              have hz6 := hb6.size
              have hb56 := hb5.trans (hb6.mono hz5)
              have d1 := ((bcell hb56).1 _ 1 hzW).trans c1
              have ht6 := ht5.below (Nat.le_refl _) hb6
              first
                | (have hnm : isName T.data.toList = true := by exact HNM.out
                   rw [hnm]
                   clear hnm)
                | (have hnm : isName T.data.toList = false := by exact HNM.out
                   rw [hnm]
                   clear hnm)
              clear c1 hb6
              go_wp2_with fail
              refine (word_at T _ ht6).mono ?_
              rintro r w7 ⟨b, rfl, hbw, hb7⟩
              have hb57 := hb56.trans (hb7.mono (by omega))
              have e0 := ((bcell hb57).1 _ 0 hzW).trans c0
              have e2 := ((bcell hb57).1 _ 2 hzW).trans c2
              first
                | (have hbt : b = true := by exact hbw.out.trans HWD.out
                   subst hbt)
                | (have hbt : b = false := by exact hbw.out.trans HWD.out
                   subst hbt)
              have hb8 := hbn.trans (hb57.mono hbn.size)
              clear hb7 hbw ht6 ht5 d1 c0 c2 hb56 hb57 hb5
              go_wp2_with fail
              exact ⟨⟨p + T.size, k + 1, by go_num, by go_num, by omega, by omega, by omega, hb8, HR⟩, by simp [intOf]; omega⟩)
        · obtain rfl : k = 3000 := by omega
          have i1 : (3000 : Int) < N := by omega
          have i2 : (3000 : Int) ≤ N := by omega
          go_wp2_with fail
          go_ret
          exact ⟨rfl, HB2.out.trans (hbr.mono (by omega))⟩
      · obtain rfl : k = N := by omega
        have HG : Hid (Gap (s.extract a s.size).data.toList) := by
          have := st_end _ _ _ HST.out (by rw [HLs.out]; exact has) (List.drop_eq_nil_of_le (by have := HN.out; omega))
          show Gap _
          rw [extract_end]; exact this
        by_cases h3 : (3000 : Int) ≤ (k : Int)
        · go_wp2_with fail
          go_ret
          exact ⟨rfl, HB2.out.trans (hbr.mono (by omega))⟩
        · go_wp2_with fail
          refine (between_gap (s.extract a s.size) _ (by simp; omega) HG.out).mono ?_
          rintro r w3 ⟨rfl, hw3⟩
          have hw3' := hw3.symm
          subst hw3'
          clear hw3
          go_wp2_with fail
          go_ret
          exact ⟨rfl, HB2.out.trans (hbr.mono (by omega))⟩
end Go.Proofs.YtnpiicceafgioaaDoor
