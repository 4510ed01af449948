/-
  The document's Calls: its first loop.
-/
import Derived.Test.YtapakbibofnhkaaDoorXa
namespace Go.Proofs.YtapakbibofnhkaaDoor
open Go.RowKit Go.ChangeMaps
attribute [local go_sem] b56

set_option maxRecDepth 100000 in
set_option maxHeartbeats 16000000 in
theorem refCalls_any (l : List Ev) (pp : Option Addr) (c : Nat) (w : World) (he : EvsAt w pp l) (hl : l.length * 32 ≤ 140737488355328) :
    Calls Tryd.prog 15 #[.slice pp l.length c] w fun r w' => r = .returned (.string ⟨(callsB l).toArray⟩) ∧ Below w.heap.size w w' := by
  obtain ⟨i0, hi0, hz0, hz1, hz2⟩ := info_parts info3
  obtain ⟨i1, hi1, hy0, hy1, hy2⟩ := info_parts info56
  have HE : Hid (EvsAt w pp l) := he
  have H0 : Hid (GRel l w (.slice none 0 0) (.slice none 0 0) (.int .i64 0) w) := ⟨0, rfl, Nat.zero_le _, by omega, ⟨World.ownsRow_nil _ _ _ _, World.ownsRow_nil _ _ _ _⟩, Below.refl _ _⟩
  clear he
  go_enter Tryd.func15, Tryd.ntmps15
  obtain ⟨i2, hi2, hx0, hx1, hx2⟩ := info_parts info5
  go_wp2_with fail
  rename_i K0 hK0
  have HK0 : Hid _ := hK0
  clear hK0
  have tail : ∀ (a : Act) (W : World), TI l w a W → K0 a W := by
    clear H0 HE
    intro a W hT
    obtain ⟨u, av, ⟨all, hrow, hlen, hd, hbw, hcl⟩, rfl⟩ := hT
    refine HK0.out _ _ ?_
    clear HK0
    obtain ⟨ap, ac, rfl⟩ := own_slice hrow
    have H1 : Hid (SwRel all w (.slice ap all.length ac) (.slice none 0 0) (.int .i64 0) W) := ⟨0, rfl, Nat.zero_le _, ⟨World.ownsRow_nil _ _ _ _, hrow, hbw⟩⟩
    have HD : Hid _ := hd
    have HCL : Hid _ := hcl
    clear hrow hd hbw hcl
    go_wp2_with fail
    rename_i K8 hK8
    have HK8 : Hid _ := hK8
    clear hK8
    refine wp_loop (SI all (.slice ap all.length ac) w) (Sm all) (si_close _ _ _ _ _ H1.out rfl) (fun a0 wr hSI => ?_)
    obtain ⟨u2, bv, i, hS, ha0⟩ := hSI
    subst ha0
    obtain ⟨k, rfl, hk, hOB⟩ := hS
    have HOB : Hid _ := hOB
    have hys := hOB.bel.size
    clear hOB H1
    by_cases hlt : k < all.length
    · skip
      have i3 : (k : Int) < all.length := by omega
      obtain ⟨ga, ac', hav, hac⟩ := own_form HOB.out.row (by omega)
      simp only [Value.slice.injEq] at hav
      obtain ⟨rfl, -, rfl⟩ := hav
      obtain ⟨cc, hcc⟩ : ∃ x, all[k]? = some x := ⟨_, List.getElem?_eq_getElem hlt⟩
      have hcd := HD.out cc (List.mem_of_getElem? hcc)
      have HOUT : Hid _ := outB_snoc all k cc hcc
      have hlen2 : (outB (all.take k)).length ≤ 22400000 := by
        have h1 := outB_len (all.take k) (fun x hx => by have := HD.out x (List.mem_of_mem_take hx); omega)
        rw [List.length_take, Nat.min_eq_left hk] at h1
        omega
      have hsh := shownB_len cc.t
      have hit := itoa_len cc.d (by omega)
      have HG : Hid _ := fun j (hj : j < 4) => flat_get cl4_len all k cc hcc j hj
      obtain ⟨bs, hbs⟩ : ∃ bs, outB (all.take k) = bs := ⟨_, rfl⟩
      rw [hbs] at HOB HOUT hlen2
      clear hcc hac hbs
      refine wp_seq_o (fun K QQ hK hQ => ?_)
      have HK1 : Hid _ := hK
      clear hK hQ
      go_wp2_with fail
      refine HK1.out _ _ ?_
      clear HK1 K
      refine wp_seq_o (fun K QQ hK hQ => ?_)
      have HK2 : Hid _ := hK
      clear hK hQ
      refine wp_block ?_
      have d0 := (own_cells HOB.out.row (k * 4) (.int .i64 (cc.d : Int)) (by have := HG.out 0 (by decide); rwa [Nat.add_zero] at this)).1
      refine wp_seq_o (fun K QQ hK hQ => ?_)
      have HK4 : Hid _ := hK
      clear hK hQ
      go_wp2_with fail
      refine (refDigits_any (cc.d : Int) _ (by omega) (by omega)).mono ?_
      rintro _ V1 ⟨rfl, hV1⟩
      have HO1 : Hid _ := HOB.out.below hV1
      have yz1 := HO1.out.bel.size
      clear hV1 d0
      go_wp2_with (at_builtin; refine Lib.wpList_append_own_string _ rfl _ _ 57 9 rfl w.heap.size 5 i2 Tryd.underlying57 Tryd.underlying9 hi2 hx0 hx1 hx2 _ _ _ rfl HO1.out.byt ⟨(Lib.itoa (cc.d : Int)).toArray⟩ rfl (by rw [bsize]; unfold maxLen; first | omega | (simp only [List.length_append, List.length_cons, List.length_nil]; omega)) (by rw [bsize]; first | omega | (simp only [List.length_append, List.length_cons, List.length_nil]; omega)) yz1 ?_; intro v1 W1 hown hgr _; have HO2 : Hid _ := HO1.out.grown hgr _ _ hown _ (str_bytes _) (bsize _); clear hown hgr)
      refine HK4.out _ _ ?_
      clear HK4 K
      refine wp_seq_o (fun K QQ hK hQ => ?_)
      have HK4 : Hid _ := hK
      clear hK hQ
      have HZ : Hid _ := HO2.out.below (below1 W1 (.cells #[.int .u8 32] 5))
      have yz := HO2.out.bel.size
      go_wp2_with (at_builtin; refine wpList_append_own _ rfl _ _ 57 rfl w.heap.size 5 i2 (.int .u8 0) 1 1 Tryd.underlying57 hi2 hx0 hx1 hx2 rfl (by decide) _ _ _ rfl HZ.out.byt ⟨W1.heap.size, 0, none⟩ 1 1 [.int .u8 32] rfl rfl (cell_one_new W1 (.int .u8 32) 5) (fun x hx => by simp at hx; subst hx; rfl) (by unfold maxLen; first | omega | (simp only [List.length_append]; omega)) (by first | omega | (simp only [List.length_append]; omega)) (by simp; omega) ?_; intro v2 W2 hown hgr _; have HO3 : Hid _ := HZ.out.grown hgr _ _ hown [32] rfl rfl; clear hown hgr)
      clear HZ yz
      refine HK4.out _ _ ?_
      clear HK4 K
      have d1 := (own_cells HO3.out.row (k * 4 + 1) (.string cc.t) (HG.out 1 (by decide))).1
      refine wp_seq_o (fun K QQ hK hQ => ?_)
      have HK4 : Hid _ := hK
      clear hK hQ
      go_wp2_with fail
      refine (refShown_any cc.t _).mono ?_
      rintro _ V3 ⟨rfl, hV3⟩
      have HO3' : Hid _ := HO3.out.below hV3
      have yz3 := HO3'.out.bel.size
      clear hV3 d1
      go_wp2_with (at_builtin; refine Lib.wpList_append_own_string _ rfl _ _ 57 9 rfl w.heap.size 5 i2 Tryd.underlying57 Tryd.underlying9 hi2 hx0 hx1 hx2 _ _ _ rfl HO3'.out.byt ⟨(shownB cc.t).toArray⟩ rfl (by rw [bsize]; unfold maxLen; first | omega | (simp only [List.length_append, List.length_cons, List.length_nil]; omega)) (by rw [bsize]; first | omega | (simp only [List.length_append, List.length_cons, List.length_nil]; omega)) yz3 ?_; intro v3 W3 hown hgr _; have HO4 : Hid _ := HO3'.out.grown hgr _ _ hown _ (str_bytes _) (bsize _); clear hown hgr)
      refine HK4.out _ _ ?_
      clear HK4 K
      have d2 := (own_cells HO4.out.row (k * 4 + 3) (.bool cc.e) (HG.out 3 (by decide))).1
      refine wp_seq_o (fun K QQ hK hQ => ?_)
      have HK4 : Hid _ := hK
      clear hK hQ
      refine wp_seq_o (fun K QQ hK hQ => ?_)
      have HK5 : Hid _ := hK
      clear hK hQ
      cases hce : cc.e with
      | true =>
        rw [hce] at d2
        go_wp2_with fail
        refine HK5.out _ _ ?_
        clear HK5 K
        clear d2
        refine wp_cond_false rfl ?_
        refine wp_skip ?_
        refine HK4.out _ _ ?_
        clear HK4 K
        refine wp_norm_o (fun K QQ hK hQ => ?_)
        have HK9 : Hid _ := hK
        clear hK hQ
        have HZ : Hid _ := HO4.out.below (below1 W3 (.cells #[.int .u8 10] 5))
        have yz := HO4.out.bel.size
        go_wp2_with (at_builtin; refine wpList_append_own _ rfl _ _ 57 rfl w.heap.size 5 i2 (.int .u8 0) 1 1 Tryd.underlying57 hi2 hx0 hx1 hx2 rfl (by decide) _ _ _ rfl HZ.out.byt ⟨W3.heap.size, 0, none⟩ 1 1 [.int .u8 10] rfl rfl (cell_one_new W3 (.int .u8 10) 5) (fun x hx => by simp at hx; subst hx; rfl) (by unfold maxLen; first | omega | (simp only [List.length_append, List.length_cons, List.length_nil]; omega)) (by first | omega | (simp only [List.length_append, List.length_cons, List.length_nil]; omega)) (by simp; omega) ?_; intro v6 W6 hown hgr _; have HO6 : Hid _ := HZ.out.grown hgr _ _ hown [10] rfl rfl; clear hown hgr)
        clear HZ yz
        refine HK9.out _ _ ?_
        clear HK9 K
        refine HK2.out _ _ ?_
        clear HK2 K
        refine wp_then_o (fun K QQ hK hQ => ?_)
        have HK3 : Hid _ := hK
        clear hK hQ
        go_wp2_with fail
        refine HK3.out _ _ ?_
        clear HK3 K
        refine ⟨si_close _ _ _ _ _ ⟨k + 1, rfl, by omega, ?_⟩ rfl, by simp [Sm, intOf]; omega⟩
        rw [HOUT.out, hce]
        simp only [if_true, List.append_nil]
        exact HO6.out
      | false =>
        rw [hce] at d2
        go_wp2_with fail
        refine HK5.out _ _ ?_
        clear HK5 K
        clear d2
        refine wp_cond_true rfl ?_
        have yz4 := HO4.out.bel.size
        go_wp2_with (at_builtin; refine Lib.wpList_append_own_string _ rfl _ _ 57 9 rfl w.heap.size 5 i2 Tryd.underlying57 Tryd.underlying9 hi2 hx0 hx1 hx2 _ _ _ rfl HO4.out.byt ⟨(([32, 33] : List UInt8)).toArray⟩ rfl (by rw [bsize]; unfold maxLen; first | omega | (simp only [List.length_append, List.length_cons, List.length_nil]; omega)) (by rw [bsize]; first | omega | (simp only [List.length_append, List.length_cons, List.length_nil]; omega)) yz4 ?_; intro v4 W4 hown hgr _; have HO5 : Hid _ := HO4.out.grown hgr _ _ hown _ (str_bytes _) (bsize _); clear hown hgr)
        refine HK4.out _ _ ?_
        clear HK4 K
        refine wp_norm_o (fun K QQ hK hQ => ?_)
        have HK9 : Hid _ := hK
        clear hK hQ
        have HZ : Hid _ := HO5.out.below (below1 W4 (.cells #[.int .u8 10] 5))
        have yz := HO5.out.bel.size
        go_wp2_with (at_builtin; refine wpList_append_own _ rfl _ _ 57 rfl w.heap.size 5 i2 (.int .u8 0) 1 1 Tryd.underlying57 hi2 hx0 hx1 hx2 rfl (by decide) _ _ _ rfl HZ.out.byt ⟨W4.heap.size, 0, none⟩ 1 1 [.int .u8 10] rfl rfl (cell_one_new W4 (.int .u8 10) 5) (fun x hx => by simp at hx; subst hx; rfl) (by unfold maxLen; first | omega | (simp only [List.length_append, List.length_cons, List.length_nil]; omega)) (by first | omega | (simp only [List.length_append, List.length_cons, List.length_nil]; omega)) (by simp; omega) ?_; intro v6 W6 hown hgr _; have HO6 : Hid _ := HZ.out.grown hgr _ _ hown [10] rfl rfl; clear hown hgr)
        clear HZ yz
        refine HK9.out _ _ ?_
        clear HK9 K
        refine HK2.out _ _ ?_
        clear HK2 K
        refine wp_then_o (fun K QQ hK hQ => ?_)
        have HK3 : Hid _ := hK
        clear hK hQ
        go_wp2_with fail
        refine HK3.out _ _ ?_
        clear HK3 K
        refine ⟨si_close _ _ _ _ _ ⟨k + 1, rfl, by omega, ?_⟩ rfl, by simp [Sm, intOf]; omega⟩
        rw [HOUT.out, hce]
        simp only [Bool.false_eq_true, if_false]
        exact HO6.out
    · skip
      obtain rfl : k = all.length := by omega
      have i3 : ¬ ((all.length : Int) < all.length) := by omega
      have hcv := conv_own' HOB.out.byt
      rw [List.take_of_length_le (Nat.le_refl _)] at hcv
      refine wp_seq_o (fun K6 Q6 hK6 hQ6 => ?_)
      refine wp_seq_o (fun K7 Q7 hK7 hQ7 => ?_)
      have HK7 : Hid _ := hK7
      have HQ6 : Hid _ := hQ6
      clear hK6 hK7 hQ6 hQ7
      go_wp2_with fail
      refine HK7.out _ _ ?_
      refine wp_cond_false rfl ?_
      refine wp_exit ?_
      show Q6 (.exit 5) _ _
      rw [HQ6.out]
      refine exit_in ?_
      refine HK8.out _ _ ?_
      clear HK8 HQ6 HK7 K6 K7 Q6 Q7
      go_wp2_with fail
      go_ret
      exact ⟨by rw [HCL.out]; rfl, HOB.out.bel⟩
  have HT : Hid _ := tail
  clear tail HK0
  refine wp_loop (GI l pp c w) (Gm l) (gi_close _ _ _ _ _ _ H0.out rfl) (fun a0 wr hGI => ?_)
  obtain ⟨u, av, ov, i, hrel, ha0⟩ := hGI
  subst ha0
  · obtain ⟨k, rfl, hk, hk2, hR, hb⟩ := hrel
    have HB : Hid (Below w.heap.size w wr) := hb
    have hI := inv_run l k hk
    obtain ⟨s, hs⟩ : ∃ s, runS (l.take k) = s := ⟨_, rfl⟩
    have HRS : Hid (runS (l.take k) = s) := hs
    rw [hs] at hR hI
    clear hs
    obtain ⟨all, opn⟩ := s
    simp only at hI
    have HI : Hid (Inv all opn ∧ all.length ≤ k) := hI
    have HR : Hid _ := hR
    have hfew := hI.1.few
    have hal := hI.2
    have hys := hb.size
    obtain ⟨ap, ac, rfl⟩ := own_slice hR.rows
    obtain ⟨op, oc, rfl⟩ := own_slice hR.opns
    clear hR hb hI H0
    by_cases hlt : k < l.length ∧ k < 200000
    · obtain ⟨hlt, hlt2⟩ := hlt
      have i2 : (k : Int) < l.length := by omega
      have i3 : (k : Int) < 200000 := by omega
      obtain ⟨b0, f0, rfl, hb0, hce⟩ := HE.out.nonempty (by omega)
      obtain ⟨p0, p1, p2⟩ := hce k hlt
      have HC : Hid _ := fun o => HB.out.cell (p := ⟨b0, o, none⟩) hb0
      have q0 := (HC.out _).trans p0
      have q1 := (HC.out _).trans p1
      have q2 := (HC.out _).trans p2
      have HP : Hid _ := (⟨p1, p2⟩ : _ ∧ _)
      clear p0 p1 p2 HC
      have hS := runS_snoc l k hlt
      rw [HRS.out] at hS
      have HS : Hid _ := hS
      clear hce hS
      generalize l[k] = e at q0 q1 q2 HS HP
      refine wp_seq_o (fun K QQ hK hQ => ?_)
      have HK : Hid _ := hK
      clear hK hQ
      go_wp2_with fail
      refine HK.out _ _ ?_
      clear HK K
      refine wp_seq_o (fun K QQ hK hQ => ?_)
      have HK2 : Hid _ := hK
      clear hK hQ
      by_cases h2 : e.k = 2
      · skip
        refine wp_block ?_
        refine wp_seq_o (fun K QQ hK hQ => ?_)
        have HK4 : Hid _ := hK
        clear hK hQ
        go_wp2_with fail
        refine HK4.out _ _ ?_
        clear HK4 K
        refine wp_block ?_
        refine wp_seq_o (fun K QQ hK hQ => ?_)
        have HK4 : Hid _ := hK
        clear hK hQ
        go_wp2_with fail
        refine HK4.out _ _ ?_
        clear HK4 K
        refine wp_cond_true rfl ?_
        refine wp_seq_o (fun K QQ hK hQ => ?_)
        have HK4 : Hid _ := hK
        clear hK hQ
        have RZ := HR.out.below (below1 wr (.cells #[.int .i64 (all.length : Int)] 3))
        have HZ : Hid _ := RZ
        clear RZ
        go_wp2_with (at_builtin; refine wpList_append_own _ rfl _ _ 27 rfl w.heap.size 3 i0 (.int .i64 0) 1 8 Tryd.underlying27 hi0 hz0 hz1 hz2 rfl (by decide) _ opn.length (opV opn) rfl HZ.out.opns ⟨wr.heap.size, 0, none⟩ 1 1 [.int .i64 (all.length : Int)] rfl rfl (cell_one_new wr (.int .i64 (all.length : Int)) 3) (fun x hx => by simp at hx; subst hx; rfl) (by unfold maxLen; omega) (by omega) (by simp; omega) ?_; intro v' w3 hown3 hgr3 _; have HO3 : Hid _ := hown3; have HG3 : Hid _ := hgr3; clear hown3 hgr3)
        refine HK4.out _ _ ?_
        clear HK4 K
        obtain ⟨vp, vc, rfl⟩ := own_slice HO3.out
        have Bw3 : Below w.heap.size w w3 := Below.grown (HB.out.alloc hys _) HG3.out (by simp; omega) (fun j hj => (HR.out.opns.lt j hj).1)
        have R3 : w3.ownsRow w.heap.size 56 4 (.slice ap all.length ac) all.length (all.flatMap cl4) := own_kept HZ.out.rows (fun g hg => HG3.out.block g (HZ.out.rows.lt g hg).2 (fun q => apart HZ.out.rows HZ.out.opns (by decide) g hg q.symm))
        have HR3 : Hid _ := R3
        have y3 := Bw3.size
        clear R3 HZ HG3 q0 q1 q2
        refine wp_region_noPanic ?_
        refine wp_region_held (S := fun W => W.cell? ⟨b0, f0 + k * 3 + 1, none⟩ = some (.int .i64 e.a) ∧ W.cell? ⟨b0, f0 + k * 3 + 2, none⟩ = some (.string e.t)) (by kernel_rfl) ?_
        obtain ⟨W9, hW9⟩ : ∃ W4, W4 = (w3).drew := ⟨_, rfl⟩
        have e4 : ({ w3 with drawn := (w3).drawn + 1 } : World) = W9 := hW9.symm
        rw [e4]
        have hB4 : Below (w3).heap.size (w3) W9 := by rw [hW9]; exact (Below.refl _ _).drew
        have hS : W9.cell? ⟨b0, f0 + k * 3 + 1, none⟩ = some (.int .i64 e.a) ∧ W9.cell? ⟨b0, f0 + k * 3 + 2, none⟩ = some (.string e.t) := ⟨((Bw3.trans (hB4.mono y3)).cell (p := ⟨b0, f0 + k * 3 + 1, none⟩) hb0).trans HP.out.1, ((Bw3.trans (hB4.mono y3)).cell (p := ⟨b0, f0 + k * 3 + 2, none⟩) hb0).trans HP.out.2⟩
        have HW9 : Hid (W9 = (w3).drew) := hW9
        clear e4 hW9
        refine wpAnyH_take (i := 0) (v := .slice ap all.length ac) rfl (by kernel_rfl) (by kernel_rfl) (by kernel_rfl) (fun _ _ _ h => h) (Or.inl ⟨by rfl, ?r⟩) hS ?_
        case r => intro W hW; simp [go_sem, execOp, Act.eval]
        simp only [List.getElem_toArray, List.getElem_cons_zero, Act.put, List.setIfInBounds_toArray, List.set_cons_succ, List.set_cons_zero]
        refine wpAnyH_take (i := 1) (v := .slice vp (opn.length + 1) vc) rfl (by kernel_rfl) (by kernel_rfl) (by kernel_rfl) (fun _ _ _ h => h) (Or.inl ⟨by rfl, ?r⟩) hS ?_
        case r => intro W hW; simp [go_sem, execOp, Act.eval]
        simp only [List.getElem_toArray, List.getElem_cons_zero, List.getElem_cons_succ, Act.put, List.setIfInBounds_toArray, List.set_cons_succ, List.set_cons_zero]
        refine wpAnyH_take (i := 2) (v := .int .i64 ((opn.length + 1 : Nat) : Int)) rfl (by kernel_rfl) (by kernel_rfl) (by kernel_rfl) (fun _ _ _ h => h) (Or.inl ⟨by rfl, ?r⟩) hS ?_
        case r => intro W hW; simp [go_sem, execOp, Act.eval]
        simp only [List.getElem_toArray, List.getElem_cons_zero, List.getElem_cons_succ, Act.put, List.setIfInBounds_toArray, List.set_cons_succ, List.set_cons_zero]
        refine wpAnyH_take (i := 3) (v := .slice (some ⟨b0, f0, none⟩) l.length c) rfl (by kernel_rfl) (by kernel_rfl) (by kernel_rfl) (fun _ _ _ h => h) (Or.inl ⟨by rfl, ?r⟩) hS ?_
        case r => intro W hW; simp [go_sem, execOp, Act.eval]
        simp only [List.getElem_toArray, List.getElem_cons_zero, List.getElem_cons_succ, Act.put, List.setIfInBounds_toArray, List.set_cons_succ, List.set_cons_zero]
        refine wpAnyH_take (i := 4) (v := .int .i64 (k : Int)) rfl (by kernel_rfl) (by kernel_rfl) (by kernel_rfl) (fun _ _ _ h => h) (Or.inl ⟨by rfl, ?r⟩) hS ?_
        case r => intro W hW; simp [go_sem, execOp, Act.eval]
        simp only [List.getElem_toArray, List.getElem_cons_zero, List.getElem_cons_succ, Act.put, List.setIfInBounds_toArray, List.set_cons_succ, List.set_cons_zero]
        refine wpAnyH_take (i := 5) (v := .pointer (some ⟨b0, f0 + k * 3, none⟩)) rfl (by kernel_rfl) (by kernel_rfl) (by kernel_rfl) (fun _ _ _ h => h) (Or.inl ⟨by rfl, ?r⟩) hS ?_
        case r => intro W hW; simp [go_sem, execOp, Act.eval, i2]
        simp only [List.getElem_toArray, List.getElem_cons_zero, List.getElem_cons_succ, Act.put, List.setIfInBounds_toArray, List.set_cons_succ, List.set_cons_zero]
        refine wpAnyH_take (i := 6) (v := .pointer (some ⟨b0, f0 + k * 3 + 2, none⟩)) rfl (by kernel_rfl) (by kernel_rfl) (by kernel_rfl) (fun _ _ _ h => h) (Or.inl ⟨by rfl, ?r⟩) hS ?_
        case r => intro W hW; simp [go_sem, execOp, Act.eval]
        simp only [List.getElem_toArray, List.getElem_cons_zero, List.getElem_cons_succ, Act.put, List.setIfInBounds_toArray, List.set_cons_succ, List.set_cons_zero]
        refine wpAnyH_take (i := 7) (v := .string e.t) rfl (by kernel_rfl) (by kernel_rfl) (by kernel_rfl) (fun _ _ _ h => h) (Or.inl ⟨by rfl, ?r⟩) hS ?_
        case r => intro W hW; simp [go_sem, execOp, Act.eval, hW.2]
        simp only [List.getElem_toArray, List.getElem_cons_zero, List.getElem_cons_succ, Act.put, List.setIfInBounds_toArray, List.set_cons_succ, List.set_cons_zero]
        refine wpAnyH_take (i := 8) (v := .slice (some ⟨b0, f0, none⟩) l.length c) rfl (by kernel_rfl) (by kernel_rfl) (by kernel_rfl) (fun _ _ _ h => h) (Or.inl ⟨by rfl, ?r⟩) hS ?_
        case r => intro W hW; simp [go_sem, execOp, Act.eval]
        simp only [List.getElem_toArray, List.getElem_cons_zero, List.getElem_cons_succ, Act.put, List.setIfInBounds_toArray, List.set_cons_succ, List.set_cons_zero]
        refine wpAnyH_take (i := 9) (v := .int .i64 (k : Int)) rfl (by kernel_rfl) (by kernel_rfl) (by kernel_rfl) (fun _ _ _ h => h) (Or.inl ⟨by rfl, ?r⟩) hS ?_
        case r => intro W hW; simp [go_sem, execOp, Act.eval]
        simp only [List.getElem_toArray, List.getElem_cons_zero, List.getElem_cons_succ, Act.put, List.setIfInBounds_toArray, List.set_cons_succ, List.set_cons_zero]
        refine wpAnyH_take (i := 10) (v := .pointer (some ⟨b0, f0 + k * 3, none⟩)) rfl (by kernel_rfl) (by kernel_rfl) (by kernel_rfl) (fun _ _ _ h => h) (Or.inl ⟨by rfl, ?r⟩) hS ?_
        case r => intro W hW; simp [go_sem, execOp, Act.eval, i2]
        simp only [List.getElem_toArray, List.getElem_cons_zero, List.getElem_cons_succ, Act.put, List.setIfInBounds_toArray, List.set_cons_succ, List.set_cons_zero]
        refine wpAnyH_take (i := 11) (v := .pointer (some ⟨b0, f0 + k * 3 + 1, none⟩)) rfl (by kernel_rfl) (by kernel_rfl) (by kernel_rfl) (fun _ _ _ h => h) (Or.inl ⟨by rfl, ?r⟩) hS ?_
        case r => intro W hW; simp [go_sem, execOp, Act.eval]
        simp only [List.getElem_toArray, List.getElem_cons_zero, List.getElem_cons_succ, Act.put, List.setIfInBounds_toArray, List.set_cons_succ, List.set_cons_zero]
        refine wpAnyH_take (i := 12) (v := .int .i64 e.a) rfl (by kernel_rfl) (by kernel_rfl) (by kernel_rfl) (fun _ _ _ h => h) (Or.inl ⟨by rfl, ?r⟩) hS ?_
        case r => intro W hW; simp [go_sem, execOp, Act.eval, hW.1]
        simp only [List.getElem_toArray, List.getElem_cons_zero, List.getElem_cons_succ, Act.put, List.setIfInBounds_toArray, List.set_cons_succ, List.set_cons_zero]
        refine wpAnyH_take (i := 13) (v := .agg #[.int .i64 ((opn.length + 1 : Nat) : Int), .string e.t, .int .i64 e.a, .bool false]) rfl (by kernel_rfl) (by kernel_rfl) (by kernel_rfl) (fun _ _ _ h => h) (Or.inl ⟨by rfl, ?r⟩) hS ?_
        case r => intro W hW; simp [go_sem, execOp, Act.eval]
        simp only [List.getElem_toArray, List.getElem_cons_zero, List.getElem_cons_succ, Act.put, List.setIfInBounds_toArray, List.set_cons_succ, List.set_cons_zero]
        have Bw9 : Below w.heap.size w W9 := Bw3.trans (hB4.mono y3)
        have R9 := own_below HR3.out hB4 (Nat.le_refl _)
        have O9 := own_below HO3.out hB4 (Nat.le_refl _)
        have y9 := Bw9.size
        have z9 : Below W9.heap.size W9 (W9.alloc (.cells (cl4 (⟨e.a, e.t, opn.length + 1, false, rOf all opn (e.a, e.t) opn.length⟩ : Cl)).toArray 56)) := below1 W9 _
        have Bz : Below w.heap.size w (W9.alloc (.cells (cl4 (⟨e.a, e.t, opn.length + 1, false, rOf all opn (e.a, e.t) opn.length⟩ : Cl)).toArray 56)) := Bw9.trans (z9.mono y9)
        have RZ := own_below R9 z9 (Nat.le_refl _)
        have OZ := own_below O9 z9 (Nat.le_refl _)
        clear hB4 HW9
        refine wpAnyH_all (rs := [14]) (by kernel_rfl) (by simp) (fun i2 hi2 => ?_)
        obtain rfl : i2 = 14 := by simpa using hi2
        clear hi2
        refine wpOp_step rfl (fun K hK => ite_yes rfl ?_)
        simp only [List.getElem_toArray, List.getElem_cons_zero, List.getElem_cons_succ]
        go_simp
        refine hK _ _ ⟨⟨(Bz.cell (p := ⟨b0, f0 + k * 3 + 1, none⟩) hb0).trans HP.out.1, (Bz.cell (p := ⟨b0, f0 + k * 3 + 2, none⟩) hb0).trans HP.out.2⟩, ?_⟩
        clear hK K
        try simp only [Act.put, List.setIfInBounds_toArray, List.set_cons_succ, List.set_cons_zero]
        clear hS
        refine wpAnyH_all (rs := [15]) (by kernel_rfl) (by simp) (fun i2 hi2 => ?_)
        obtain rfl : i2 = 15 := by simpa using hi2
        clear hi2
        refine wpOp_step rfl (fun K hK => ite_yes rfl ?_)
        simp only [List.getElem_toArray, List.getElem_cons_zero, List.getElem_cons_succ]
        refine wp_append_lies _ _ _ 54 rfl w.heap.size 56 i1 _ 4 40 Tryd.underlying54 hi1 hy0 hy1 hy2 rfl (by decide) _ all.length (all.flatMap cl4) rfl RZ ⟨W9.heap.size, 0, none⟩ 1 1 (cl4 (⟨e.a, e.t, opn.length + 1, false, rOf all opn (e.a, e.t) opn.length⟩ : Cl)) rfl rfl (news4 W9 (⟨e.a, e.t, opn.length + 1, false, rOf all opn (e.a, e.t) opn.length⟩ : Cl) 56) (one4 _) (by decide) (by unfold maxLen; omega) (by omega) (by simp; omega) _ rfl ?_
        intro g7 cap7 w7 hown7 hgr7 hat7 hlt7
        have B7 : Below w.heap.size w w7 := Below.grown Bz hgr7 (by simp; omega) (fun j hj => (RZ.lt j hj).1)
        have hS : w7.cell? ⟨b0, f0 + k * 3 + 1, none⟩ = some (.int .i64 e.a) ∧ w7.cell? ⟨b0, f0 + k * 3 + 2, none⟩ = some (.string e.t) := ⟨(B7.cell (p := ⟨b0, f0 + k * 3 + 1, none⟩) hb0).trans HP.out.1, (B7.cell (p := ⟨b0, f0 + k * 3 + 2, none⟩) hb0).trans HP.out.2⟩
        refine hK _ _ ⟨hS, ?_⟩
        clear hK K
        try simp only [Act.put, List.setIfInBounds_toArray, List.set_cons_succ, List.set_cons_zero]
        refine wpAnyH_take (i := 16) (v := .slice (some ⟨g7, 0, none⟩) (all.length + 1) cap7) rfl (by kernel_rfl) (by kernel_rfl) (by kernel_rfl) (fun _ _ _ h => h) (Or.inl ⟨by rfl, ?r⟩) hS ?_
        case r => intro W hW; simp [go_sem, execOp, Act.eval]
        simp only [List.getElem_toArray, List.getElem_cons_zero, List.getElem_cons_succ, Act.put, List.setIfInBounds_toArray, List.set_cons_succ, List.set_cons_zero]
        refine wpAnyH_done (by kernel_rfl) ?_ _
        refine NoPanic.normal ?_
        try simp only [Act.put]
        have HF : Hid (RAt w.heap.size (.slice (some ⟨g7, 0, none⟩) (all.length + 1) cap7) (.slice vp (opn.length + 1) vc) (runS (l.take (k + 1))) w7) := by
          rw [HS.out, step_2 _ _ h2]
          refine ⟨?_, ?_⟩
          · show w7.ownsRow _ 56 4 _ (begAll all opn (e.a, e.t)).length ((begAll all opn (e.a, e.t)).flatMap cl4)
            unfold begAll
            rw [List.flatMap_append, List.flatMap_singleton, List.length_append, List.length_singleton]
            exact hown7
          · show w7.ownsRow _ 3 1 _ (opn ++ [all.length]).length (opV (opn ++ [all.length]))
            rw [show opV (opn ++ [all.length]) = opV opn ++ [.int .i64 (all.length : Int)] by simp [opV], List.length_append, List.length_singleton]
            exact own_kept OZ (fun g hg => hgr7.block g (OZ.lt g hg).2 (fun q => apart RZ OZ (by decide) g q.symm hg))
        have HB7 : Hid _ := B7
        clear hS hown7 hgr7 hat7 RZ OZ R9 O9 B7
        refine HK2.out _ _ ?_
        clear HK2 K
        refine wp_then_o (fun K QQ hK hQ => ?_)
        have HK3 : Hid _ := hK
        clear hK hQ
        go_wp2_with fail
        refine HK3.out _ _ ?_
        clear HK3 K
        refine ⟨gi_close _ _ _ _ _ _ ?_ rfl, by simp [Gm, intOf]; omega⟩
        exact ⟨k + 1, rfl, by omega, by omega, HF.out, HB7.out⟩
      · by_cases h3 : e.k = 3
        · skip
          have e2 : (e.k == 2) = false := by simpa using h2
          refine wp_block ?_
          refine wp_seq_o (fun K QQ hK hQ => ?_)
          have HK4 : Hid _ := hK
          clear hK hQ
          go_wp2_with fail
          refine HK4.out _ _ ?_
          clear HK4 K
          refine wp_block ?_
          refine wp_seq_o (fun K QQ hK hQ => ?_)
          have HK4 : Hid _ := hK
          clear hK hQ
          go_wp2_with fail
          refine HK4.out _ _ ?_
          clear HK4 K
          refine wp_cond_false rfl ?_
          refine wp_seq_o (fun K QQ hK hQ => ?_)
          have HK4 : Hid _ := hK
          clear hK hQ
          go_wp2_with fail
          refine HK4.out _ _ ?_
          clear HK4 K
          refine wp_cond_true rfl ?_
          refine wp_seq_o (fun K QQ hK hQ => ?_)
          have HK4 : Hid _ := hK
          clear hK hQ
          go_wp2_with fail
          refine HK4.out _ _ ?_
          clear HK4 K
          refine wp_seq_o (fun K QQ hK hQ => ?_)
          have HK5 : Hid _ := hK
          clear hK hQ
          refine wp_block ?_
          refine wp_loop (FI l (some ⟨b0, f0, none⟩) c (.slice ap all.length ac) (.slice op opn.length oc) k (pm all opn (e.a, e.t)) opn.length wr) Fm (fi_close _ _ _ _ _ _ _ _ _ _ _ ⟨opn.length, rfl, Nat.le_refl _, rfl, Below.refl _ _⟩ rfl) (fun a1 w1 hFI => ?_)
          obtain ⟨u1, i9, hF, ha1⟩ := hFI
          subst ha1
          obtain ⟨q, hi, hq, hdn, hb1⟩ := hF
          have HB1 : Hid _ := hb1
          have HD : Hid _ := hdn
          have y1 := hb1.size
          clear hdn hb1
          by_cases hq0 : q = 0
          · subst hq0
            have hi : i9 = .int .i64 (-1) := hi
            subst hi
            refine wp_seq_o (fun K6 Q6 hK6 hQ6 => ?_)
            refine wp_seq_o (fun K7 Q7 hK7 hQ7 => ?_)
            have HK7 : Hid _ := hK7
            have HK6 : Hid _ := hK6
            have HQ6 : Hid _ := hQ6
            clear hK6 hK7 hQ6 hQ7
            refine wp_region_noPanic ?_
            refine wp_region_held (S := fun W => True) (by kernel_rfl) ?_
            obtain ⟨w2, hw2⟩ : ∃ W4, W4 = (w1).drew := ⟨_, rfl⟩
            have e4 : ({ w1 with drawn := (w1).drawn + 1 } : World) = w2 := hw2.symm
            rw [e4]
            have hB4 : Below (w1).heap.size (w1) w2 := by rw [hw2]; exact (Below.refl _ _).drew
            have hS : True := trivial
            have Hw2 : Hid (w2 = (w1).drew) := hw2
            clear e4 hw2
            refine wpAnyH_take (i := 0) (v := .int .i64 (-1)) rfl (by kernel_rfl) (by kernel_rfl) (by kernel_rfl) (fun _ _ _ h => h) (Or.inl ⟨by rfl, ?r⟩) hS ?_
            case r => intro W hW; simp [go_sem, execOp, Act.eval]
            simp only [List.getElem_toArray, List.getElem_cons_zero, Act.put, List.setIfInBounds_toArray, List.set_cons_succ, List.set_cons_zero]
            refine wpAnyH_take (i := 1) (v := .bool false) rfl (by kernel_rfl) (by kernel_rfl) (by kernel_rfl) (fun _ _ _ h => h) (Or.inl ⟨by rfl, ?r⟩) hS ?_
            case r => intro W hW; simp [go_sem, execOp, Act.eval]
            simp only [List.getElem_toArray, List.getElem_cons_zero, List.getElem_cons_succ, Act.put, List.setIfInBounds_toArray, List.set_cons_succ, List.set_cons_zero]
            refine wpAnyH_take (i := 2) (v := .bool false) rfl (by kernel_rfl) (by kernel_rfl) (by kernel_rfl) (fun _ _ _ h => h) (Or.inl ⟨by rfl, ?r⟩) hS ?_
            case r => intro W hW; simp [go_sem, execOp, Act.eval]
            simp only [List.getElem_toArray, List.getElem_cons_zero, List.getElem_cons_succ, Act.put, List.setIfInBounds_toArray, List.set_cons_succ, List.set_cons_zero]
            refine wpAnyH_take (i := 3) (v := undef) rfl (by kernel_rfl) (by kernel_rfl) (by kernel_rfl) (fun _ _ _ h => h) (Or.inr ⟨rfl, rfl⟩) hS ?_
            simp only [List.getElem_toArray, List.getElem_cons_zero, List.getElem_cons_succ, Act.put, List.setIfInBounds_toArray, List.set_cons_succ, List.set_cons_zero]
            refine wpAnyH_take (i := 4) (v := undef) rfl (by kernel_rfl) (by kernel_rfl) (by kernel_rfl) (fun _ _ _ h => h) (Or.inr ⟨rfl, rfl⟩) hS ?_
            simp only [List.getElem_toArray, List.getElem_cons_zero, List.getElem_cons_succ, Act.put, List.setIfInBounds_toArray, List.set_cons_succ, List.set_cons_zero]
            refine wpAnyH_take (i := 5) (v := undef) rfl (by kernel_rfl) (by kernel_rfl) (by kernel_rfl) (fun _ _ _ h => h) (Or.inr ⟨rfl, rfl⟩) hS ?_
            simp only [List.getElem_toArray, List.getElem_cons_zero, List.getElem_cons_succ, Act.put, List.setIfInBounds_toArray, List.set_cons_succ, List.set_cons_zero]
            refine wpAnyH_take (i := 6) (v := undef) rfl (by kernel_rfl) (by kernel_rfl) (by kernel_rfl) (fun _ _ _ h => h) (Or.inr ⟨rfl, rfl⟩) hS ?_
            simp only [List.getElem_toArray, List.getElem_cons_zero, List.getElem_cons_succ, Act.put, List.setIfInBounds_toArray, List.set_cons_succ, List.set_cons_zero]
            refine wpAnyH_take (i := 7) (v := undef) rfl (by kernel_rfl) (by kernel_rfl) (by kernel_rfl) (fun _ _ _ h => h) (Or.inr ⟨rfl, rfl⟩) hS ?_
            simp only [List.getElem_toArray, List.getElem_cons_zero, List.getElem_cons_succ, Act.put, List.setIfInBounds_toArray, List.set_cons_succ, List.set_cons_zero]
            refine wpAnyH_take (i := 8) (v := undef) rfl (by kernel_rfl) (by kernel_rfl) (by kernel_rfl) (fun _ _ _ h => h) (Or.inr ⟨rfl, rfl⟩) hS ?_
            simp only [List.getElem_toArray, List.getElem_cons_zero, List.getElem_cons_succ, Act.put, List.setIfInBounds_toArray, List.set_cons_succ, List.set_cons_zero]
            refine wpAnyH_take (i := 9) (v := undef) rfl (by kernel_rfl) (by kernel_rfl) (by kernel_rfl) (fun _ _ _ h => h) (Or.inr ⟨rfl, rfl⟩) hS ?_
            simp only [List.getElem_toArray, List.getElem_cons_zero, List.getElem_cons_succ, Act.put, List.setIfInBounds_toArray, List.set_cons_succ, List.set_cons_zero]
            refine wpAnyH_take (i := 10) (v := undef) rfl (by kernel_rfl) (by kernel_rfl) (by kernel_rfl) (fun _ _ _ h => h) (Or.inr ⟨rfl, rfl⟩) hS ?_
            simp only [List.getElem_toArray, List.getElem_cons_zero, List.getElem_cons_succ, Act.put, List.setIfInBounds_toArray, List.set_cons_succ, List.set_cons_zero]
            refine wpAnyH_take (i := 11) (v := undef) rfl (by kernel_rfl) (by kernel_rfl) (by kernel_rfl) (fun _ _ _ h => h) (Or.inr ⟨rfl, rfl⟩) hS ?_
            simp only [List.getElem_toArray, List.getElem_cons_zero, List.getElem_cons_succ, Act.put, List.setIfInBounds_toArray, List.set_cons_succ, List.set_cons_zero]
            refine wpAnyH_take (i := 12) (v := undef) rfl (by kernel_rfl) (by kernel_rfl) (by kernel_rfl) (fun _ _ _ h => h) (Or.inr ⟨rfl, rfl⟩) hS ?_
            simp only [List.getElem_toArray, List.getElem_cons_zero, List.getElem_cons_succ, Act.put, List.setIfInBounds_toArray, List.set_cons_succ, List.set_cons_zero]
            refine wpAnyH_take (i := 13) (v := undef) rfl (by kernel_rfl) (by kernel_rfl) (by kernel_rfl) (fun _ _ _ h => h) (Or.inr ⟨rfl, rfl⟩) hS ?_
            simp only [List.getElem_toArray, List.getElem_cons_zero, List.getElem_cons_succ, Act.put, List.setIfInBounds_toArray, List.set_cons_succ, List.set_cons_zero]
            refine wpAnyH_take (i := 14) (v := undef) rfl (by kernel_rfl) (by kernel_rfl) (by kernel_rfl) (fun _ _ _ h => h) (Or.inr ⟨rfl, rfl⟩) hS ?_
            simp only [List.getElem_toArray, List.getElem_cons_zero, List.getElem_cons_succ, Act.put, List.setIfInBounds_toArray, List.set_cons_succ, List.set_cons_zero]
            refine wpAnyH_take (i := 15) (v := undef) rfl (by kernel_rfl) (by kernel_rfl) (by kernel_rfl) (fun _ _ _ h => h) (Or.inr ⟨rfl, rfl⟩) hS ?_
            simp only [List.getElem_toArray, List.getElem_cons_zero, List.getElem_cons_succ, Act.put, List.setIfInBounds_toArray, List.set_cons_succ, List.set_cons_zero]
            refine wpAnyH_take (i := 16) (v := undef) rfl (by kernel_rfl) (by kernel_rfl) (by kernel_rfl) (fun _ _ _ h => h) (Or.inr ⟨rfl, rfl⟩) hS ?_
            simp only [List.getElem_toArray, List.getElem_cons_zero, List.getElem_cons_succ, Act.put, List.setIfInBounds_toArray, List.set_cons_succ, List.set_cons_zero]
            refine wpAnyH_take (i := 17) (v := undef) rfl (by kernel_rfl) (by kernel_rfl) (by kernel_rfl) (fun _ _ _ h => h) (Or.inr ⟨rfl, rfl⟩) hS ?_
            simp only [List.getElem_toArray, List.getElem_cons_zero, List.getElem_cons_succ, Act.put, List.setIfInBounds_toArray, List.set_cons_succ, List.set_cons_zero]
            refine wpAnyH_take (i := 18) (v := undef) rfl (by kernel_rfl) (by kernel_rfl) (by kernel_rfl) (fun _ _ _ h => h) (Or.inr ⟨rfl, rfl⟩) hS ?_
            simp only [List.getElem_toArray, List.getElem_cons_zero, List.getElem_cons_succ, Act.put, List.setIfInBounds_toArray, List.set_cons_succ, List.set_cons_zero]
            refine wpAnyH_take (i := 19) (v := undef) rfl (by kernel_rfl) (by kernel_rfl) (by kernel_rfl) (fun _ _ _ h => h) (Or.inr ⟨rfl, rfl⟩) hS ?_
            simp only [List.getElem_toArray, List.getElem_cons_zero, List.getElem_cons_succ, Act.put, List.setIfInBounds_toArray, List.set_cons_succ, List.set_cons_zero]
            refine wpAnyH_take (i := 20) (v := undef) rfl (by kernel_rfl) (by kernel_rfl) (by kernel_rfl) (fun _ _ _ h => h) (Or.inr ⟨rfl, rfl⟩) hS ?_
            simp only [List.getElem_toArray, List.getElem_cons_zero, List.getElem_cons_succ, Act.put, List.setIfInBounds_toArray, List.set_cons_succ, List.set_cons_zero]
            refine wpAnyH_take (i := 21) (v := undef) rfl (by kernel_rfl) (by kernel_rfl) (by kernel_rfl) (fun _ _ _ h => h) (Or.inr ⟨rfl, rfl⟩) hS ?_
            simp only [List.getElem_toArray, List.getElem_cons_zero, List.getElem_cons_succ, Act.put, List.setIfInBounds_toArray, List.set_cons_succ, List.set_cons_zero]
            refine wpAnyH_take (i := 22) (v := undef) rfl (by kernel_rfl) (by kernel_rfl) (by kernel_rfl) (fun _ _ _ h => h) (Or.inr ⟨rfl, rfl⟩) hS ?_
            simp only [List.getElem_toArray, List.getElem_cons_zero, List.getElem_cons_succ, Act.put, List.setIfInBounds_toArray, List.set_cons_succ, List.set_cons_zero]
            refine wpAnyH_take (i := 23) (v := undef) rfl (by kernel_rfl) (by kernel_rfl) (by kernel_rfl) (fun _ _ _ h => h) (Or.inr ⟨rfl, rfl⟩) hS ?_
            simp only [List.getElem_toArray, List.getElem_cons_zero, List.getElem_cons_succ, Act.put, List.setIfInBounds_toArray, List.set_cons_succ, List.set_cons_zero]
            refine wpAnyH_take (i := 24) (v := undef) rfl (by kernel_rfl) (by kernel_rfl) (by kernel_rfl) (fun _ _ _ h => h) (Or.inr ⟨rfl, rfl⟩) hS ?_
            simp only [List.getElem_toArray, List.getElem_cons_zero, List.getElem_cons_succ, Act.put, List.setIfInBounds_toArray, List.set_cons_succ, List.set_cons_zero]
            refine wpAnyH_take (i := 25) (v := undef) rfl (by kernel_rfl) (by kernel_rfl) (by kernel_rfl) (fun _ _ _ h => h) (Or.inr ⟨rfl, rfl⟩) hS ?_
            simp only [List.getElem_toArray, List.getElem_cons_zero, List.getElem_cons_succ, Act.put, List.setIfInBounds_toArray, List.set_cons_succ, List.set_cons_zero]
            refine wpAnyH_take (i := 26) (v := undef) rfl (by kernel_rfl) (by kernel_rfl) (by kernel_rfl) (fun _ _ _ h => h) (Or.inr ⟨rfl, rfl⟩) hS ?_
            simp only [List.getElem_toArray, List.getElem_cons_zero, List.getElem_cons_succ, Act.put, List.setIfInBounds_toArray, List.set_cons_succ, List.set_cons_zero]
            refine wpAnyH_take (i := 27) (v := undef) rfl (by kernel_rfl) (by kernel_rfl) (by kernel_rfl) (fun _ _ _ h => h) (Or.inr ⟨rfl, rfl⟩) hS ?_
            simp only [List.getElem_toArray, List.getElem_cons_zero, List.getElem_cons_succ, Act.put, List.setIfInBounds_toArray, List.set_cons_succ, List.set_cons_zero]
            refine wpAnyH_take (i := 28) (v := undef) rfl (by kernel_rfl) (by kernel_rfl) (by kernel_rfl) (fun _ _ _ h => h) (Or.inr ⟨rfl, rfl⟩) hS ?_
            simp only [List.getElem_toArray, List.getElem_cons_zero, List.getElem_cons_succ, Act.put, List.setIfInBounds_toArray, List.set_cons_succ, List.set_cons_zero]
            refine wpAnyH_take (i := 29) (v := undef) rfl (by kernel_rfl) (by kernel_rfl) (by kernel_rfl) (fun _ _ _ h => h) (Or.inr ⟨rfl, rfl⟩) hS ?_
            simp only [List.getElem_toArray, List.getElem_cons_zero, List.getElem_cons_succ, Act.put, List.setIfInBounds_toArray, List.set_cons_succ, List.set_cons_zero]
            refine wpAnyH_take (i := 30) (v := undef) rfl (by kernel_rfl) (by kernel_rfl) (by kernel_rfl) (fun _ _ _ h => h) (Or.inr ⟨rfl, rfl⟩) hS ?_
            simp only [List.getElem_toArray, List.getElem_cons_zero, List.getElem_cons_succ, Act.put, List.setIfInBounds_toArray, List.set_cons_succ, List.set_cons_zero]
            refine wpAnyH_take (i := 31) (v := undef) rfl (by kernel_rfl) (by kernel_rfl) (by kernel_rfl) (fun _ _ _ h => h) (Or.inr ⟨rfl, rfl⟩) hS ?_
            simp only [List.getElem_toArray, List.getElem_cons_zero, List.getElem_cons_succ, Act.put, List.setIfInBounds_toArray, List.set_cons_succ, List.set_cons_zero]
            refine wpAnyH_take (i := 32) (v := undef) rfl (by kernel_rfl) (by kernel_rfl) (by kernel_rfl) (fun _ _ _ h => h) (Or.inr ⟨rfl, rfl⟩) hS ?_
            simp only [List.getElem_toArray, List.getElem_cons_zero, List.getElem_cons_succ, Act.put, List.setIfInBounds_toArray, List.set_cons_succ, List.set_cons_zero]
            refine wpAnyH_take (i := 33) (v := .bool false) rfl (by kernel_rfl) (by kernel_rfl) (by kernel_rfl) (fun _ _ _ h => h) (Or.inl ⟨by rfl, ?r⟩) hS ?_
            case r => intro W hW; simp [go_sem, execOp, Act.eval]
            simp only [List.getElem_toArray, List.getElem_cons_zero, List.getElem_cons_succ, Act.put, List.setIfInBounds_toArray, List.set_cons_succ, List.set_cons_zero]
            refine wpAnyH_done (by kernel_rfl) ?_ _
            refine NoPanic.normal ?_
            try simp only [Act.put]
            have HB2 : Hid (Below wr.heap.size wr w2) := HB1.out.trans (hB4.mono y1)
            clear hB4 hS
            refine HK7.out _ _ ?_
            clear HK7 K7 Q7
            refine wp_cond_false rfl ?_
            refine wp_exit ?_
            show Q6 (.exit 3) _ _
            rw [HQ6.out]
            refine exit_in ?_
            refine HK5.out _ _ ?_
            clear HQ6 HK6 HK5 K6 Q6
            refine wp_seq_o (fun K QQ hK hQ => ?_)
            have HK4 : Hid _ := hK
            clear hK hQ
            go_wp2_with fail
            refine HK4.out _ _ ?_
            clear HK4 K
            refine wp_cond_false rfl ?_
            refine wp_skip ?_
            refine HK2.out _ _ ?_
            clear HK2 K
            refine wp_then_o (fun K QQ hK hQ => ?_)
            have HK3 : Hid _ := hK
            clear hK hQ
            go_wp2_with fail
            refine HK3.out _ _ ?_
            clear HK3 K
            refine ⟨gi_close _ _ _ _ _ _ ?_ rfl, by simp [Gm, intOf]; omega⟩
            refine ⟨k + 1, rfl, by omega, by omega, ?_, HB.out.trans (HB2.out.mono hys)⟩
            rw [HS.out, step_no _ _ h2 (fun _ => by unfold fM; rw [HD.out]; rfl)]
            exact HR.out.below HB2.out
          · skip
            obtain ⟨q', rfl⟩ : ∃ n, q = n + 1 := ⟨q - 1, by omega⟩
            rw [show ((q' + 1 : Nat) : Int) - 1 = (q' : Int) by omega] at hi
            subst hi
            have j0 : (0 : Int) ≤ q' := by omega
            have jd : decide ((0 : Int) ≤ q') = true := by simp
            have j1 : (q' : Int) < opn.length := by omega
            obtain ⟨go, oc', hov, hoc⟩ := own_form HR.out.opns (by show 0 < opn.length; omega)
            obtain ⟨ga, ac', hav, hac⟩ := own_form HR.out.rows (by show 0 < all.length; omega)
            simp only [Value.slice.injEq] at hov hav
            obtain ⟨rfl, -, rfl⟩ := hov
            obtain ⟨rfl, -, rfl⟩ := hav
            obtain ⟨nq', hnq⟩ : ∃ n, opn.getD q' 0 = n := ⟨_, rfl⟩
            have hnl : nq' < all.length := by rw [← hnq]; exact HI.out.1.lt q' (by omega)
            have j2 : (nq' : Int) < all.length := by omega
            obtain ⟨cc, hcc⟩ : ∃ c, all[nq']? = some c := ⟨_, List.getElem?_eq_getElem hnl⟩
            have HPM : Hid ((pm all opn (e.a, e.t)) q' = keq (e.a, e.t) (cc.a, cc.t)) := by unfold pm mkAt; rw [hnq, hcc]; rfl
            have hg4 := fun j (hj : j < 4) => flat_get cl4_len all nq' cc hcc j hj
            have R1 := HR.out.below HB1.out
            have a1 := (own_cells R1.rows (nq' * 4 + 1) (.string cc.t) (hg4 1 (by decide))).1
            have a2 := (own_cells R1.rows (nq' * 4 + 2) (.int .i64 cc.a) (hg4 2 (by decide))).1
            have hop : (opV opn)[q']? = some (.int .i64 (nq' : Int)) := by
              have : opn[q']? = some nq' := by
                rw [List.getD_eq_getElem?_getD] at hnq
                have hq' : q' < opn.length := by omega
                rw [List.getElem?_eq_getElem hq'] at hnq ⊢
                simpa using hnq
              simp [opV, this]
            have o0 := (own_cells R1.opns q' (.int .i64 (nq' : Int)) hop).1
            have p1 := (HB1.out.cell (p := ⟨b0, f0 + k * 3 + 1, none⟩) (Nat.lt_of_lt_of_le hb0 hys)).trans q1
            have p2 := (HB1.out.cell (p := ⟨b0, f0 + k * 3 + 2, none⟩) (Nat.lt_of_lt_of_le hb0 hys)).trans q2
            have HG3 : Hid _ := hg4 3 (by decide)
            have HO0 : Hid _ := hop
            have HNQ : Hid _ := hnq
            have HCC : Hid _ := hcc
            clear hop hg4 R1 hcc hnq q0 q1 q2
            obtain ⟨ca, ct, cd, ce, cr⟩ := cc
            simp only at a1 a2
            by_cases ht : ct = e.t
            · subst ht
              by_cases ha : ca = e.a
              · subst ha
                refine wp_seq_o (fun K6 Q6 hK6 hQ6 => ?_)
                refine wp_seq_o (fun K7 Q7 hK7 hQ7 => ?_)
                have HK7 : Hid _ := hK7
                have HK6 : Hid _ := hK6
                have HQ6 : Hid _ := hQ6
                clear hK6 hK7 hQ6 hQ7
                go_quiet (fail)
                obtain ⟨w2, hw2⟩ : ∃ W, W = w1.drewN nq := ⟨_, rfl⟩
                rw [← hw2]
                have HB2 : Hid (Below wr.heap.size wr w2) := by rw [hw2]; exact below_drewN HB1.out _
                clear hw2
                refine HK7.out _ _ ?_
                clear HK7 K7 Q7
                refine wp_cond_false rfl ?_
                refine wp_exit ?_
                show Q6 (.exit 3) _ _
                rw [HQ6.out]
                refine exit_in ?_
                refine HK5.out _ _ ?_
                clear HQ6 HK6 HK5 K6 Q6
                refine wp_seq_o (fun K QQ hK hQ => ?_)
                have HK4 : Hid _ := hK
                clear hK hQ
                go_wp2_with fail
                refine HK4.out _ _ ?_
                clear HK4 K
                refine wp_cond_true rfl ?_
                have R2 := HR.out.below HB2.out
                have o2 := (own_cells R2.opns q' (.int .i64 (nq' : Int)) HO0.out).1
                obtain ⟨c3, f3⟩ := own_cells R2.rows (nq' * 4 + 3) (.bool ce) HG3.out
                have HR2 : Hid _ := R2
                clear R2 a1 a2 o0 p1 p2
                refine wp_seq_o (fun K QQ hK hQ => ?_)
                have HK4 : Hid _ := hK
                clear hK hQ
                go_wp2_with fail
                refine HK4.out _ _ ?_
                clear HK4 K
                obtain ⟨Y, hY⟩ : ∃ W, W = w2.setCell ⟨ga, nq' * 4 + 3, none⟩ (.bool true) := ⟨_, rfl⟩
                rw [← hY]
                have HY : Hid _ := hY
                have i4 : (q' : Int) ≤ oc := by omega
                have i5 : q' ≤ oc := by omega
                clear hY o2 c3 f3
                refine wp_norm_o (fun K QQ hK hQ => ?_)
                have HK9 : Hid _ := hK
                clear hK hQ
                go_wp2_with fail
                refine HK9.out _ _ ?_
                clear HK9 K
                refine HK2.out _ _ ?_
                clear HK2 K
                refine wp_then_o (fun K QQ hK hQ => ?_)
                have HK3 : Hid _ := hK
                clear hK hQ
                go_wp2_with fail
                refine HK3.out _ _ ?_
                clear HK3 K
                refine ⟨gi_close _ _ _ _ _ _ ?_ rfl, by simp [Gm, intOf]; omega⟩
                have hne : ∀ g, (Value.slice (some ⟨ga, 0, none⟩) all.length ac).ownBlock = some g → (Value.slice (some ⟨go, 0, none⟩) opn.length oc).ownBlock ≠ some g := apart HR2.out.rows HR2.out.opns (by decide)
                have hgg : go ≠ ga := fun q => hne ga rfl (by rw [q]; rfl)
                have y2 := HB2.out.size
                have hgl := (HR.out.rows.lt ga rfl).1
                refine ⟨k + 1, rfl, by omega, by omega, ?_, ?_⟩
                · rw [HS.out, step_3 _ _ h3 q' (HD.out.trans (by rw [down, HPM.out, if_pos (keq_self _)]))]
                  show RAt _ _ _ (endAll all (opn.getD q' 0), opn.take q') _
                  rw [HNQ.out]
                  refine ⟨?_, ?_⟩
                  · have h5 := own_setC HR2.out.rows (nq' * 4 + 3) (.bool true)
                    rw [flat_set cl4_len (fun c : Cl => { c with e := true }) 3 (by decide) (.bool true) (fun _ => rfl) all nq' hnl, ← HY.out] at h5
                    have hlen : (endAll all nq').length = all.length := by simp [endAll]
                    show Y.ownsRow _ 56 4 _ (endAll all nq').length _
                    rw [hlen]
                    exact h5
                  · have h6 := own_take HR2.out.opns q' (by show q' ≤ opn.length; omega)
                    rw [show (opV opn).take q' = opV (opn.take q') by simp [opV, List.map_take]] at h6
                    show Y.ownsRow _ 3 1 _ (opn.take q').length _
                    rw [List.length_take, Nat.min_eq_left (by omega)]
                    exact own_kept h6 (fun g hg => by
                      have hg : some go = some g := hg
                      have hg := Option.some.inj hg
                      subst hg
                      rw [HY.out]
                      exact heap_set_other _ _ _ _ _ hgg)
                · rw [HY.out]
                  exact (HB.out.trans (HB2.out.mono hys)).trans ⟨rfl, rfl, rfl, by simp, fun b hb => heap_set_other _ _ _ _ _ (by omega)⟩
              · skip
                have hb1 : (ca == e.a) = false := by simpa using ha
                have hb2 : (ca != e.a) = true := by simpa using ha
                have hb3 : decide (ca = e.a) = false := by simpa using ha
                have hb4 : decide (¬ ca = e.a) = true := by simpa using ha
                refine wp_seq_o (fun K6 Q6 hK6 hQ6 => ?_)
                refine wp_seq_o (fun K7 Q7 hK7 hQ7 => ?_)
                have HK7 : Hid _ := hK7
                have HK6 : Hid _ := hK6
                have HQ6 : Hid _ := hQ6
                clear hK6 hK7 hQ6 hQ7
                go_quiet (fail)
                obtain ⟨w2, hw2⟩ : ∃ W, W = w1.drewN nq := ⟨_, rfl⟩
                rw [← hw2]
                have HB2 : Hid (Below wr.heap.size wr w2) := by rw [hw2]; exact below_drewN HB1.out _
                clear hw2
                refine HK7.out _ _ ?_
                clear HK7 K7 Q7
                refine wp_cond_true rfl ?_
                refine wp_skip ?_
                refine HK6.out _ _ ?_
                clear HK6 HQ6 K6 Q6
                refine wp_then_o (fun K QQ hK hQ => ?_)
                have HK8 : Hid _ := hK
                clear hK hQ
                go_wp2_with fail
                refine HK8.out _ _ ?_
                clear HK8 K
                refine ⟨fi_close _ _ _ _ _ _ _ _ _ _ _ ⟨q', rfl, by omega, ?_, HB2.out⟩ rfl, by simp [Fm, intOf]⟩
                rw [HD.out, down, HPM.out, if_neg]
                intro hkq
                have := keq_iff.1 hkq
                simp only [Prod.mk.injEq] at this
                exact ha this.1.symm
            · skip
              have hbt : ¬ ct.toList = e.t.toList := fun q => ht (bb_eq (by rw [beq_toListBytes, q]; simp))
              refine wp_seq_o (fun K6 Q6 hK6 hQ6 => ?_)
              refine wp_seq_o (fun K7 Q7 hK7 hQ7 => ?_)
              have HK7 : Hid _ := hK7
              have HK6 : Hid _ := hK6
              have HQ6 : Hid _ := hQ6
              clear hK6 hK7 hQ6 hQ7
              have yg := Nat.lt_of_lt_of_le (HR.out.rows.lt ga rfl).2 y1
              have yo := Nat.lt_of_lt_of_le (HR.out.opns.lt go rfl).2 y1
              refine wp_region_noPanic ?_
              refine wp_region_held (S := fun W => W.cell? ⟨go, q', none⟩ = some (.int .i64 (nq' : Int)) ∧ W.cell? ⟨ga, nq' * 4 + 1, none⟩ = some (.string ct) ∧ W.cell? ⟨b0, f0 + k * 3 + 2, none⟩ = some (.string e.t)) (by kernel_rfl) ?_
              obtain ⟨w2, hw2⟩ : ∃ W4, W4 = (w1).drew := ⟨_, rfl⟩
              have e4 : ({ w1 with drawn := (w1).drawn + 1 } : World) = w2 := hw2.symm
              rw [e4]
              have hB4 : Below (w1).heap.size (w1) w2 := by rw [hw2]; exact (Below.refl _ _).drew
              have hS : w2.cell? ⟨go, q', none⟩ = some (.int .i64 (nq' : Int)) ∧ w2.cell? ⟨ga, nq' * 4 + 1, none⟩ = some (.string ct) ∧ w2.cell? ⟨b0, f0 + k * 3 + 2, none⟩ = some (.string e.t) := ⟨(hB4.cell (p := ⟨go, _, none⟩) yo).trans o0, (hB4.cell (p := ⟨ga, _, none⟩) yg).trans a1, (hB4.cell (p := ⟨b0, _, none⟩) (Nat.lt_of_lt_of_le (Nat.lt_of_lt_of_le hb0 hys) y1)).trans p2⟩
              have Hw2 : Hid (w2 = (w1).drew) := hw2
              clear e4 hw2
              refine wpAnyH_take (i := 0) (v := .int .i64 (q' : Int)) rfl (by kernel_rfl) (by kernel_rfl) (by kernel_rfl) (fun _ _ _ h => h) (Or.inl ⟨by rfl, ?r⟩) hS ?_
              case r => intro W hW; simp [go_sem, execOp, Act.eval]
              simp only [List.getElem_toArray, List.getElem_cons_zero, Act.put, List.setIfInBounds_toArray, List.set_cons_succ, List.set_cons_zero]
              refine wpAnyH_take (i := 1) (v := .bool true) rfl (by kernel_rfl) (by kernel_rfl) (by kernel_rfl) (fun _ _ _ h => h) (Or.inl ⟨by rfl, ?r⟩) hS ?_
              case r => intro W hW; simp [go_sem, execOp, Act.eval]
              simp only [List.getElem_toArray, List.getElem_cons_zero, List.getElem_cons_succ, Act.put, List.setIfInBounds_toArray, List.set_cons_succ, List.set_cons_zero]
              refine wpAnyH_take (i := 2) (v := .bool true) rfl (by kernel_rfl) (by kernel_rfl) (by kernel_rfl) (fun _ _ _ h => h) (Or.inl ⟨by rfl, ?r⟩) hS ?_
              case r => intro W hW; simp [go_sem, execOp, Act.eval]
              simp only [List.getElem_toArray, List.getElem_cons_zero, List.getElem_cons_succ, Act.put, List.setIfInBounds_toArray, List.set_cons_succ, List.set_cons_zero]
              refine wpAnyH_take (i := 3) (v := .slice (some ⟨ga, 0, none⟩) all.length ac) rfl (by kernel_rfl) (by kernel_rfl) (by kernel_rfl) (fun _ _ _ h => h) (Or.inl ⟨by rfl, ?r⟩) hS ?_
              case r => intro W hW; simp [go_sem, execOp, Act.eval]
              simp only [List.getElem_toArray, List.getElem_cons_zero, List.getElem_cons_succ, Act.put, List.setIfInBounds_toArray, List.set_cons_succ, List.set_cons_zero]
              refine wpAnyH_take (i := 4) (v := .slice (some ⟨go, 0, none⟩) opn.length oc) rfl (by kernel_rfl) (by kernel_rfl) (by kernel_rfl) (fun _ _ _ h => h) (Or.inl ⟨by rfl, ?r⟩) hS ?_
              case r => intro W hW; simp [go_sem, execOp, Act.eval]
              simp only [List.getElem_toArray, List.getElem_cons_zero, List.getElem_cons_succ, Act.put, List.setIfInBounds_toArray, List.set_cons_succ, List.set_cons_zero]
              refine wpAnyH_take (i := 5) (v := .int .i64 (q' : Int)) rfl (by kernel_rfl) (by kernel_rfl) (by kernel_rfl) (fun _ _ _ h => h) (Or.inl ⟨by rfl, ?r⟩) hS ?_
              case r => intro W hW; simp [go_sem, execOp, Act.eval]
              simp only [List.getElem_toArray, List.getElem_cons_zero, List.getElem_cons_succ, Act.put, List.setIfInBounds_toArray, List.set_cons_succ, List.set_cons_zero]
              refine wpAnyH_take (i := 6) (v := .pointer (some ⟨go, q', none⟩)) rfl (by kernel_rfl) (by kernel_rfl) (by kernel_rfl) (fun _ _ _ h => h) (Or.inl ⟨by rfl, ?r⟩) hS ?_
              case r => intro W hW; simp [go_sem, execOp, Act.eval, j1]
              simp only [List.getElem_toArray, List.getElem_cons_zero, List.getElem_cons_succ, Act.put, List.setIfInBounds_toArray, List.set_cons_succ, List.set_cons_zero]
              refine wpAnyH_take (i := 7) (v := .int .i64 (nq' : Int)) rfl (by kernel_rfl) (by kernel_rfl) (by kernel_rfl) (fun _ _ _ h => h) (Or.inl ⟨by rfl, ?r⟩) hS ?_
              case r => intro W hW; simp [go_sem, execOp, Act.eval, hW.1]
              simp only [List.getElem_toArray, List.getElem_cons_zero, List.getElem_cons_succ, Act.put, List.setIfInBounds_toArray, List.set_cons_succ, List.set_cons_zero]
              refine wpAnyH_take (i := 8) (v := .pointer (some ⟨ga, nq' * 4, none⟩)) rfl (by kernel_rfl) (by kernel_rfl) (by kernel_rfl) (fun _ _ _ h => h) (Or.inl ⟨by rfl, ?r⟩) hS ?_
              case r => intro W hW; simp [go_sem, execOp, Act.eval, j2]
              simp only [List.getElem_toArray, List.getElem_cons_zero, List.getElem_cons_succ, Act.put, List.setIfInBounds_toArray, List.set_cons_succ, List.set_cons_zero]
              refine wpAnyH_take (i := 9) (v := .pointer (some ⟨ga, nq' * 4 + 1, none⟩)) rfl (by kernel_rfl) (by kernel_rfl) (by kernel_rfl) (fun _ _ _ h => h) (Or.inl ⟨by rfl, ?r⟩) hS ?_
              case r => intro W hW; simp [go_sem, execOp, Act.eval]
              simp only [List.getElem_toArray, List.getElem_cons_zero, List.getElem_cons_succ, Act.put, List.setIfInBounds_toArray, List.set_cons_succ, List.set_cons_zero]
              refine wpAnyH_take (i := 10) (v := .string ct) rfl (by kernel_rfl) (by kernel_rfl) (by kernel_rfl) (fun _ _ _ h => h) (Or.inl ⟨by rfl, ?r⟩) hS ?_
              case r => intro W hW; simp [go_sem, execOp, Act.eval, hW.2.1]
              simp only [List.getElem_toArray, List.getElem_cons_zero, List.getElem_cons_succ, Act.put, List.setIfInBounds_toArray, List.set_cons_succ, List.set_cons_zero]
              refine wpAnyH_take (i := 11) (v := .slice (some ⟨b0, f0, none⟩) l.length c) rfl (by kernel_rfl) (by kernel_rfl) (by kernel_rfl) (fun _ _ _ h => h) (Or.inl ⟨by rfl, ?r⟩) hS ?_
              case r => intro W hW; simp [go_sem, execOp, Act.eval]
              simp only [List.getElem_toArray, List.getElem_cons_zero, List.getElem_cons_succ, Act.put, List.setIfInBounds_toArray, List.set_cons_succ, List.set_cons_zero]
              refine wpAnyH_take (i := 12) (v := .int .i64 (k : Int)) rfl (by kernel_rfl) (by kernel_rfl) (by kernel_rfl) (fun _ _ _ h => h) (Or.inl ⟨by rfl, ?r⟩) hS ?_
              case r => intro W hW; simp [go_sem, execOp, Act.eval]
              simp only [List.getElem_toArray, List.getElem_cons_zero, List.getElem_cons_succ, Act.put, List.setIfInBounds_toArray, List.set_cons_succ, List.set_cons_zero]
              refine wpAnyH_take (i := 13) (v := .pointer (some ⟨b0, f0 + k * 3, none⟩)) rfl (by kernel_rfl) (by kernel_rfl) (by kernel_rfl) (fun _ _ _ h => h) (Or.inl ⟨by rfl, ?r⟩) hS ?_
              case r => intro W hW; simp [go_sem, execOp, Act.eval, i2]
              simp only [List.getElem_toArray, List.getElem_cons_zero, List.getElem_cons_succ, Act.put, List.setIfInBounds_toArray, List.set_cons_succ, List.set_cons_zero]
              refine wpAnyH_take (i := 14) (v := .pointer (some ⟨b0, f0 + k * 3 + 2, none⟩)) rfl (by kernel_rfl) (by kernel_rfl) (by kernel_rfl) (fun _ _ _ h => h) (Or.inl ⟨by rfl, ?r⟩) hS ?_
              case r => intro W hW; simp [go_sem, execOp, Act.eval]
              simp only [List.getElem_toArray, List.getElem_cons_zero, List.getElem_cons_succ, Act.put, List.setIfInBounds_toArray, List.set_cons_succ, List.set_cons_zero]
              refine wpAnyH_take (i := 15) (v := .string e.t) rfl (by kernel_rfl) (by kernel_rfl) (by kernel_rfl) (fun _ _ _ h => h) (Or.inl ⟨by rfl, ?r⟩) hS ?_
              case r => intro W hW; simp [go_sem, execOp, Act.eval, hW.2.2]
              simp only [List.getElem_toArray, List.getElem_cons_zero, List.getElem_cons_succ, Act.put, List.setIfInBounds_toArray, List.set_cons_succ, List.set_cons_zero]
              refine wpAnyH_take (i := 16) (v := .bool true) rfl (by kernel_rfl) (by kernel_rfl) (by kernel_rfl) (fun _ _ _ h => h) (Or.inl ⟨by rfl, ?r⟩) hS ?_
              case r => intro W hW; simp [go_sem, execOp, Act.eval, hbt]
              simp only [List.getElem_toArray, List.getElem_cons_zero, List.getElem_cons_succ, Act.put, List.setIfInBounds_toArray, List.set_cons_succ, List.set_cons_zero]
              refine wpAnyH_take (i := 17) (v := .bool true) rfl (by kernel_rfl) (by kernel_rfl) (by kernel_rfl) (fun _ _ _ h => h) (Or.inl ⟨by rfl, ?r⟩) hS ?_
              case r => intro W hW; simp [go_sem, execOp, Act.eval]
              simp only [List.getElem_toArray, List.getElem_cons_zero, List.getElem_cons_succ, Act.put, List.setIfInBounds_toArray, List.set_cons_succ, List.set_cons_zero]
              refine wpAnyH_take (i := 18) (v := undef) rfl (by kernel_rfl) (by kernel_rfl) (by kernel_rfl) (fun _ _ _ h => h) (Or.inr ⟨rfl, rfl⟩) hS ?_
              simp only [List.getElem_toArray, List.getElem_cons_zero, List.getElem_cons_succ, Act.put, List.setIfInBounds_toArray, List.set_cons_succ, List.set_cons_zero]
              refine wpAnyH_take (i := 19) (v := undef) rfl (by kernel_rfl) (by kernel_rfl) (by kernel_rfl) (fun _ _ _ h => h) (Or.inr ⟨rfl, rfl⟩) hS ?_
              simp only [List.getElem_toArray, List.getElem_cons_zero, List.getElem_cons_succ, Act.put, List.setIfInBounds_toArray, List.set_cons_succ, List.set_cons_zero]
              refine wpAnyH_take (i := 20) (v := undef) rfl (by kernel_rfl) (by kernel_rfl) (by kernel_rfl) (fun _ _ _ h => h) (Or.inr ⟨rfl, rfl⟩) hS ?_
              simp only [List.getElem_toArray, List.getElem_cons_zero, List.getElem_cons_succ, Act.put, List.setIfInBounds_toArray, List.set_cons_succ, List.set_cons_zero]
              refine wpAnyH_take (i := 21) (v := undef) rfl (by kernel_rfl) (by kernel_rfl) (by kernel_rfl) (fun _ _ _ h => h) (Or.inr ⟨rfl, rfl⟩) hS ?_
              simp only [List.getElem_toArray, List.getElem_cons_zero, List.getElem_cons_succ, Act.put, List.setIfInBounds_toArray, List.set_cons_succ, List.set_cons_zero]
              refine wpAnyH_take (i := 22) (v := undef) rfl (by kernel_rfl) (by kernel_rfl) (by kernel_rfl) (fun _ _ _ h => h) (Or.inr ⟨rfl, rfl⟩) hS ?_
              simp only [List.getElem_toArray, List.getElem_cons_zero, List.getElem_cons_succ, Act.put, List.setIfInBounds_toArray, List.set_cons_succ, List.set_cons_zero]
              refine wpAnyH_take (i := 23) (v := undef) rfl (by kernel_rfl) (by kernel_rfl) (by kernel_rfl) (fun _ _ _ h => h) (Or.inr ⟨rfl, rfl⟩) hS ?_
              simp only [List.getElem_toArray, List.getElem_cons_zero, List.getElem_cons_succ, Act.put, List.setIfInBounds_toArray, List.set_cons_succ, List.set_cons_zero]
              refine wpAnyH_take (i := 24) (v := undef) rfl (by kernel_rfl) (by kernel_rfl) (by kernel_rfl) (fun _ _ _ h => h) (Or.inr ⟨rfl, rfl⟩) hS ?_
              simp only [List.getElem_toArray, List.getElem_cons_zero, List.getElem_cons_succ, Act.put, List.setIfInBounds_toArray, List.set_cons_succ, List.set_cons_zero]
              refine wpAnyH_take (i := 25) (v := undef) rfl (by kernel_rfl) (by kernel_rfl) (by kernel_rfl) (fun _ _ _ h => h) (Or.inr ⟨rfl, rfl⟩) hS ?_
              simp only [List.getElem_toArray, List.getElem_cons_zero, List.getElem_cons_succ, Act.put, List.setIfInBounds_toArray, List.set_cons_succ, List.set_cons_zero]
              refine wpAnyH_take (i := 26) (v := undef) rfl (by kernel_rfl) (by kernel_rfl) (by kernel_rfl) (fun _ _ _ h => h) (Or.inr ⟨rfl, rfl⟩) hS ?_
              simp only [List.getElem_toArray, List.getElem_cons_zero, List.getElem_cons_succ, Act.put, List.setIfInBounds_toArray, List.set_cons_succ, List.set_cons_zero]
              refine wpAnyH_take (i := 27) (v := undef) rfl (by kernel_rfl) (by kernel_rfl) (by kernel_rfl) (fun _ _ _ h => h) (Or.inr ⟨rfl, rfl⟩) hS ?_
              simp only [List.getElem_toArray, List.getElem_cons_zero, List.getElem_cons_succ, Act.put, List.setIfInBounds_toArray, List.set_cons_succ, List.set_cons_zero]
              refine wpAnyH_take (i := 28) (v := undef) rfl (by kernel_rfl) (by kernel_rfl) (by kernel_rfl) (fun _ _ _ h => h) (Or.inr ⟨rfl, rfl⟩) hS ?_
              simp only [List.getElem_toArray, List.getElem_cons_zero, List.getElem_cons_succ, Act.put, List.setIfInBounds_toArray, List.set_cons_succ, List.set_cons_zero]
              refine wpAnyH_take (i := 29) (v := undef) rfl (by kernel_rfl) (by kernel_rfl) (by kernel_rfl) (fun _ _ _ h => h) (Or.inr ⟨rfl, rfl⟩) hS ?_
              simp only [List.getElem_toArray, List.getElem_cons_zero, List.getElem_cons_succ, Act.put, List.setIfInBounds_toArray, List.set_cons_succ, List.set_cons_zero]
              refine wpAnyH_take (i := 30) (v := undef) rfl (by kernel_rfl) (by kernel_rfl) (by kernel_rfl) (fun _ _ _ h => h) (Or.inr ⟨rfl, rfl⟩) hS ?_
              simp only [List.getElem_toArray, List.getElem_cons_zero, List.getElem_cons_succ, Act.put, List.setIfInBounds_toArray, List.set_cons_succ, List.set_cons_zero]
              refine wpAnyH_take (i := 31) (v := undef) rfl (by kernel_rfl) (by kernel_rfl) (by kernel_rfl) (fun _ _ _ h => h) (Or.inr ⟨rfl, rfl⟩) hS ?_
              simp only [List.getElem_toArray, List.getElem_cons_zero, List.getElem_cons_succ, Act.put, List.setIfInBounds_toArray, List.set_cons_succ, List.set_cons_zero]
              refine wpAnyH_take (i := 32) (v := .bool true) rfl (by kernel_rfl) (by kernel_rfl) (by kernel_rfl) (fun _ _ _ h => h) (Or.inl ⟨by rfl, ?r⟩) hS ?_
              case r => intro W hW; simp [go_sem, execOp, Act.eval]
              simp only [List.getElem_toArray, List.getElem_cons_zero, List.getElem_cons_succ, Act.put, List.setIfInBounds_toArray, List.set_cons_succ, List.set_cons_zero]
              refine wpAnyH_take (i := 33) (v := .bool true) rfl (by kernel_rfl) (by kernel_rfl) (by kernel_rfl) (fun _ _ _ h => h) (Or.inl ⟨by rfl, ?r⟩) hS ?_
              case r => intro W hW; simp [go_sem, execOp, Act.eval]
              simp only [List.getElem_toArray, List.getElem_cons_zero, List.getElem_cons_succ, Act.put, List.setIfInBounds_toArray, List.set_cons_succ, List.set_cons_zero]
              refine wpAnyH_done (by kernel_rfl) ?_ _
              refine NoPanic.normal ?_
              try simp only [Act.put]
              have HB2 : Hid (Below wr.heap.size wr w2) := HB1.out.trans (hB4.mono y1)
              clear hB4 hS
              refine HK7.out _ _ ?_
              clear HK7 K7 Q7
              refine wp_cond_true rfl ?_
              refine wp_skip ?_
              refine HK6.out _ _ ?_
              clear HK6 HQ6 K6 Q6
              refine wp_then_o (fun K QQ hK hQ => ?_)
              have HK8 : Hid _ := hK
              clear hK hQ
              go_wp2_with fail
              refine HK8.out _ _ ?_
              clear HK8 K
              refine ⟨fi_close _ _ _ _ _ _ _ _ _ _ _ ⟨q', rfl, by omega, ?_, HB2.out⟩ rfl, by simp [Fm, intOf]⟩
              rw [HD.out, down, HPM.out, if_neg]
              intro hkq
              have := keq_iff.1 hkq
              simp only [Prod.mk.injEq] at this
              exact ht this.2.symm
        · skip
          have e2 : (e.k == 2) = false := by simpa using h2
          have e3 : (e.k == 3) = false := by simpa using h3
          refine wp_block ?_
          refine wp_seq_o (fun K QQ hK hQ => ?_)
          have HK4 : Hid _ := hK
          clear hK hQ
          go_wp2_with fail
          refine HK4.out _ _ ?_
          clear HK4 K
          refine wp_block ?_
          refine wp_seq_o (fun K QQ hK hQ => ?_)
          have HK4 : Hid _ := hK
          clear hK hQ
          go_wp2_with fail
          refine HK4.out _ _ ?_
          clear HK4 K
          refine wp_cond_false rfl ?_
          refine wp_seq_o (fun K QQ hK hQ => ?_)
          have HK4 : Hid _ := hK
          clear hK hQ
          go_wp2_with fail
          refine HK4.out _ _ ?_
          clear HK4 K
          refine wp_cond_false rfl ?_
          refine wp_skip ?_
          refine HK2.out _ _ ?_
          clear HK2 K
          refine wp_then_o (fun K QQ hK hQ => ?_)
          have HK3 : Hid _ := hK
          clear hK hQ
          go_wp2_with fail
          refine HK3.out _ _ ?_
          clear HK3 K
          refine ⟨gi_close _ _ _ _ _ _ ?_ rfl, by simp [Gm, intOf]; omega⟩
          refine ⟨k + 1, rfl, by omega, by omega, ?_, HB.out⟩
          rw [HS.out, step_no _ _ h2 (fun q => absurd q h3)]
          exact HR.out
    · skip
      have HIN : Hid _ := HI
      have hor : decide ((k : Int) < l.length) = false ∨ (decide ((k : Int) < l.length) = true ∧ decide ((k : Int) < 200000) = false) := by
        by_cases hk9 : (k : Int) < l.length
        · exact .inr ⟨by simpa using hk9, by simp; omega⟩
        · exact .inl (by simpa using hk9)
      have HTR : Hid (TkRel l w (.slice ap all.length ac) wr) := by
        refine ⟨all, HR.out.rows, by omega, fun x hx => by have := HI.out.1.small x hx; omega, HB.out, ?_⟩
        unfold callsB
        have e1 : l.take 200000 = l.take k := by
          rcases Nat.lt_or_ge k l.length with h | h
          · rw [show k = 200000 by omega]
          · rw [List.take_of_length_le (by omega), List.take_of_length_le h]
        rw [e1, HRS.out]
      refine wp_seq_o (fun K6 Q6 hK6 hQ6 => ?_)
      refine wp_seq_o (fun K7 Q7 hK7 hQ7 => ?_)
      have HK7 : Hid _ := hK7
      have HQ6 : Hid _ := hQ6
      clear hK6 hK7 hQ6 hQ7
      rcases hor with ho | ⟨ho, ho2⟩
      · have ho' := of_decide_eq_false ho
        go_wp2_with fail
        refine HK7.out _ _ ?_
        refine wp_cond_false rfl ?_
        refine wp_exit ?_
        show Q6 (.exit 0) _ _
        rw [HQ6.out]
        refine exit_in ?_
        exact HT.out _ _ (ti_close _ _ _ _ HTR.out rfl)
      · have ho' := of_decide_eq_true ho
        have ho2' := of_decide_eq_false ho2
        go_wp2_with fail
        refine HK7.out _ _ ?_
        refine wp_cond_false rfl ?_
        refine wp_exit ?_
        show Q6 (.exit 0) _ _
        rw [HQ6.out]
        refine exit_in ?_
        exact HT.out _ _ (ti_close _ _ _ _ HTR.out rfl)
end Go.Proofs.YtapakbibofnhkaaDoor
