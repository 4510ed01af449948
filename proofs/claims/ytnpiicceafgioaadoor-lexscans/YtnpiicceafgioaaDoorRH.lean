/-
  The walk of the document's own Scan: the tokens of any text, or what is wrong with it first.
-/
import Derived.Test.YtnpiicceafgioaaDoorRG
namespace Go.Proofs.YtnpiicceafgioaaDoor
open Go.RowKit

inductive RefScan (w w' : World) (e : Ending) : Except (Nat × Nat) (List Tok) → Prop
  | ok (ts : List Tok) (v : Value) (he : e = .returned (.tuple #[v, .agg #[.int .i64 0, .int .i64 0, .string ⟨#[]⟩]])) (ho : w'.ownsRow w.heap.size 48 3 v ts.length (tokCells ts)) (hn : ts.length ≤ 60001) (hb : Below w.heap.size w w') : RefScan w w' e (.ok ts)
  | error (c p : Nat) (he : e = .returned (.tuple #[.slice none 0 0, .agg #[.int .i64 c, .int .i64 p, .string ⟨#[]⟩]])) (hc : c ≠ 0) (hb : Below w.heap.size w w') : RefScan w w' e (.error (c, p))

theorem litGo_eleven (l : Bytes) (src : Nat) : ∀ (f k : Nat) (acc : Bytes) (e : Nat × Nat), litGo l src f k acc = .error e → e.1 = 11 := by
  intro f
  induction f with
  | zero => intro k acc e h; simp only [litGo] at h; rw [← Except.error.inj h]
  | succ f ih =>
    intro k acc e h
    simp only [litGo] at h
    by_cases hk : k < l.length
    · rw [if_pos hk] at h
      by_cases h1 : (l.getD k 0).toNat = 10
      · rw [if_pos h1] at h; rw [← Except.error.inj h]
      rw [if_neg h1] at h
      by_cases h2 : (l.getD k 0).toNat = 34
      · rw [if_pos h2] at h; cases h
      rw [if_neg h2] at h
      by_cases h3 : (l.getD k 0).toNat = 92
      · rw [if_pos h3] at h
        by_cases h4 : (esc (l.drop k)).2 = 0
        · rw [if_pos h4] at h; rw [← Except.error.inj h]
        rw [if_neg h4] at h
        exact ih _ _ _ h
      · rw [if_neg h3] at h
        exact ih _ _ _ h
    · rw [if_neg hk] at h; rw [← Except.error.inj h]

theorem tok_code (l : Bytes) (k b : Nat) (e : Nat × Nat) (h : tokSpec l k b = .error e) : e.1 ≠ 0 := by
  unfold tokSpec at h
  by_cases c1 : b = 59
  · rw [if_pos c1] at h; cases h
  rw [if_neg c1] at h
  by_cases c2 : b = 34
  · rw [if_pos c2] at h
    unfold textSpec at h
    cases hl : lit l k (k + 1) [] with
    | error e' =>
      rw [hl] at h
      have := litGo_eleven l k _ _ _ _ hl
      rw [← Except.error.inj h, this]; decide
    | ok p => obtain ⟨t', n'⟩ := p; rw [hl] at h; cases h
  rw [if_neg c2] at h
  by_cases c3 : letterN b = true
  · rw [if_pos c3] at h
    simp only [nameSpec] at h
    split at h
    · rw [← Except.error.inj h]; simp
    · cases h
  rw [if_neg c3] at h
  by_cases c4 : digitN b = true
  · rw [if_pos c4] at h
    unfold numSpec at h
    split at h
    · rw [← Except.error.inj h]; simp
    · cases h
  rw [if_neg c4] at h
  simp only [signSpec] at h
  split at h
  · rw [← Except.error.inj h]; simp
  · cases h

theorem slash_two (s : ByteArray) (k : Nat) (h : k < s.size) : [47, 47].isPrefixOf (s.data.toList.drop k) = true →
    (((s[k]'h).toNat : Int) == 47) = true ∧ ∃ h2 : k + 1 < s.size, (((s[k + 1]'h2).toNat : Int) == 47) = true := by
  intro hp
  rw [List.isPrefixOf_iff_prefix] at hp
  obtain ⟨r, hr⟩ := hp
  have hl : s.data.toList.length = s.size := by simp
  have h2 : k + 1 < s.size := by
    have := congrArg List.length hr
    simp at this; omega
  have e0 : (s.data.toList.drop k).getD 0 0 = 47 := by rw [← hr]; rfl
  have e1 : (s.data.toList.drop k).getD 1 0 = 47 := by rw [← hr]; rfl
  rw [getD_at s k 0 h] at e0
  rw [getD_at s k 1 h2] at e1
  refine ⟨?_, h2, ?_⟩
  · show (((s[k + 0]'h).toNat : Int) == 47) = true
    rw [e0]; decide
  · rw [e1]; decide
theorem slash_none (s : ByteArray) (k : Nat) (h : k < s.size) : [47, 47].isPrefixOf (s.data.toList.drop k) = false →
    (((s[k]'h).toNat : Int) == 47) = false ∨ ((((s[k]'h).toNat : Int) == 47) = true ∧ ((¬ k + 1 < s.size) ∨ ∃ h2 : k + 1 < s.size, (((s[k + 1]'h2).toNat : Int) == 47) = false)) := by
  intro hp
  by_cases h1 : (s[k]'h).toNat = 47
  · refine .inr ⟨by rw [h1]; decide, ?_⟩
    by_cases h2 : k + 1 < s.size
    · refine .inr ⟨h2, ?_⟩
      by_cases h3 : (s[k + 1]'h2).toNat = 47
      · exfalso
        have hl : s.data.toList.length = s.size := by simp
        have e : s.data.toList.drop k = 47 :: 47 :: s.data.toList.drop (k + 1 + 1) := by
          rw [List.drop_eq_getElem_cons (by omega), List.drop_eq_getElem_cons (by omega)]
          have a1 : s.data.toList[k]'(by omega) = 47 := UInt8.toNat_inj.1 h1
          have a2 : s.data.toList[k + 1]'(by omega) = 47 := UInt8.toNat_inj.1 h3
          rw [a1, a2]
        rw [e] at hp
        simp [List.isPrefixOf] at hp
      · exact beq_of_ne h3
    · exact .inl h2
  · exact .inl (beq_of_ne h1)

theorem below_three {w w2 : World} (HB : Below w.heap.size w w2) (u0 u1 u2 : Value) :
    Below w.heap.size w (((w2.setCell ⟨w.heap.size, 0, none⟩ u0).setCell ⟨w.heap.size, 1, none⟩ u1).setCell ⟨w.heap.size, 2, none⟩ u2) :=
  ((HB.setCell (Nat.le_refl _) _).setCell (Nat.le_refl _) _).setCell (Nat.le_refl _) _

set_option maxHeartbeats 400000 in
theorem refScan_long (s : ByteArray) (w : World) (hs : 60000 < s.size) :
    Calls Tryd.prog 10 #[.string s] w fun e w' => RefScan w w' e (.error (13, 0)) := by
  go_enter Tryd.func10, Tryd.ntmps10
  go_wp2
  refine bodyPost_ret (v := .tuple #[.slice none 0 0, .agg #[.int .i64 13, .int .i64 0, .string ⟨#[]⟩]]) (by simp [results, Tryd.results10, go_sem]) rfl ?_
  exact .error 13 0 rfl (by decide) ((Below.refl _ _).alloc (Nat.le_refl _) _)

set_option maxRecDepth 1000000 in
set_option maxHeartbeats 4000000 in
theorem refScan_short (s : ByteArray) (w : World) (hlim : s.size ≤ 60000) :
    Calls Tryd.prog 10 #[.string s] w fun e w' => RefScan w w' e (scanAt s.data.toList 0 []) := by
  obtain ⟨i0, hi, hz0, hz1, hz2⟩ := info_parts info48
  obtain ⟨X, hX⟩ : ∃ X, X = scanAt s.data.toList 0 [] := ⟨_, rfl⟩
  have HX : Hid (X = scanAt s.data.toList 0 []) := hX
  rw [← hX]
  clear hX
  have hLs : s.data.toList.length = s.size := by simp
  have HLs : Hid (s.data.toList.length = s.size) := hLs
  clear hLs
  obtain ⟨W0, hW0⟩ : ∃ W0, W0 = w.alloc (.cells #[.int .i64 0, .int .i64 0, .string ⟨#[]⟩] 26) := ⟨_, rfl⟩
  have hz : W0.heap.size = w.heap.size + 1 := by rw [hW0]; simp
  have HB0 : Hid (Below w.heap.size w W0) := by rw [hW0]; exact (Below.refl _ _).alloc (Nat.le_refl _) _
  have x0 : W0.cell? ⟨w.heap.size, 0, none⟩ = some (.int .i64 0) := by rw [hW0]; simp [go_sem]
  have x1 : W0.cell? ⟨w.heap.size, 1, none⟩ = some (.int .i64 0) := by rw [hW0]; simp [go_sem]
  have x2 : W0.cell? ⟨w.heap.size, 2, none⟩ = some (.string ⟨#[]⟩) := by rw [hW0]; simp [go_sem]
  have y0 : ∀ o, W0.frozen? ⟨w.heap.size, o, none⟩ = false := fun o => by rw [hW0]; simp [go_sem]
  go_enter Tryd.func10, Tryd.ntmps10
  go_wp2
  rw [← hW0]
  clear hW0
  go_loopw [4, 5] (fun tv iv wr => ∃ (k : Nat) (ts : List Tok), iv = .int .i64 k ∧ wr.ownsRow W0.heap.size 48 3 tv ts.length (tokCells ts) ∧ Below W0.heap.size W0 wr ∧ k ≤ s.size ∧ ts.length ≤ k ∧ Hid (scanAt s.data.toList k ts = X)) (fun _ iv _ => s.size - (intOf iv).toNat)
  case atStart => exact ⟨0, [], rfl, World.ownsRow_nil _ _ _ _, Below.refl _ _, by omega, by simp, HX.out.symm⟩
  case round =>
    obtain ⟨k, ts, rfl, hown, hbw, hk, htl, HI⟩ := hrel
    have hsz := hbw.size
    by_cases hlt : k < s.size
    · have HL : Hid (s.data.toList.getD k 0 = s[k]'hlt) := getD_byte s k hlt
      have HK : Hid (k < s.data.toList.length) := by show k < _; rw [HLs.out]; exact hlt
      by_cases c32 : (s[k]'hlt).toNat = 32
      · have q32 : (((s[k]'hlt).toNat : Int) == 32) = true := by rw [c32]; rfl
        have HC : Hid (scanAt s.data.toList (k + 1) ts = X) := (scan_blank _ _ _ HK.out (.inl (by rw [HL.out]; exact c32))).symm.trans HI.out
        clear c32
        go_wp2_with fail
        exact ⟨⟨k + 1, ts, by go_num, hown, hbw, by omega, by omega, HC⟩, by simp [intOf]; omega⟩
      have q32 : (((s[k]'hlt).toNat : Int) == 32) = false := beq_of_ne c32
      by_cases c9 : (s[k]'hlt).toNat = 9
      · have q9 : (((s[k]'hlt).toNat : Int) == 9) = true := by rw [c9]; rfl
        have HC : Hid (scanAt s.data.toList (k + 1) ts = X) := (scan_blank _ _ _ HK.out (.inr (by rw [HL.out]; exact c9))).symm.trans HI.out
        clear c32 c9
        go_wp2_with fail
        exact ⟨⟨k + 1, ts, by go_num, hown, hbw, by omega, by omega, HC⟩, by simp [intOf]; omega⟩
      have q9 : (((s[k]'hlt).toNat : Int) == 9) = false := beq_of_ne c9
      have HNB : Hid (¬ ((s.data.toList.getD k 0).toNat = 32 ∨ (s.data.toList.getD k 0).toNat = 9)) := by show ¬ _; rw [HL.out]; exact fun h => h.elim c32 c9
      clear c32 c9
      by_cases c10 : (s[k]'hlt).toNat = 10
      · have q10 : (((s[k]'hlt).toNat : Int) == 10) = true := by rw [c10]; rfl
        have HC : Hid (scanAt s.data.toList (k + 1) (feed ts k) = X) := (scan_feed _ _ _ HK.out (by rw [HL.out]; exact c10)).symm.trans HI.out
        clear c10
        go_wp2_with fail
        refine (refFeed_any W0.heap.size _ ts k _ hsz hown (by omega)).mono ?_
        rintro r w2 ⟨v', rfl, hown3, hb3⟩
        have hfl := feed_length ts k
        go_wp2_with fail
        exact ⟨⟨k + 1, feed ts k, by go_num, hown3, hbw.trans hb3, by omega, by omega, HC⟩, by simp [intOf]; omega⟩
      have q10 : (((s[k]'hlt).toNat : Int) == 10) = false := beq_of_ne c10
      have HN10 : Hid ((s.data.toList.getD k 0).toNat ≠ 10) := by show _ ≠ _; rw [HL.out]; exact c10
      clear c10
      by_cases c59 : (s[k]'hlt).toNat = 59
      · have q59 : (((s[k]'hlt).toNat : Int) == 59) = true := by rw [c59]; rfl
        have hsl : [47, 47].isPrefixOf (s.data.toList.drop k) = false := by
          cases h : [47, 47].isPrefixOf (s.data.toList.drop k) with
          | false => rfl
          | true =>
            have := slash_byte _ _ h
            rw [HL.out, c59] at this; cases this
        have HC : Hid (scanAt s.data.toList (k + 1) (ts ++ [(1, [], k)]) = X) := (scan_tok _ _ 1 (k + 1) [] _ HK.out HNB.out HN10.out hsl (by rw [HL.out, tokSpec, if_pos c59])).symm.trans HI.out
        clear c59 hsl
        go_wp2_with (at_builtin; refine wpList_append_own _ rfl _ _ 23 rfl W0.heap.size 48 i0 (.agg #[.int .i64 0, .string ⟨#[]⟩, .int .i64 0]) 3 32 Tryd.underlying23 hi hz0 hz1 hz2 rfl (by decide) _ _ _ rfl (hown.alloc _) ⟨wr.heap.size, 0, none⟩ 1 1 (tokCell (1, [], k)) rfl rfl (tok_new _ _ _ _) (fun x hx => by simp [tokCell] at hx; rcases hx with rfl | rfl | rfl <;> rfl) (by unfold maxLen; omega) (by omega) (by simp; omega) ?_; intro v' w4 hown4 hgr4 _)
        refine ⟨⟨k + 1, ts ++ [(1, [], k)], by go_num, ?_, Below.grown (hbw.alloc hsz _) hgr4 (by simp; omega) (fun j hj => by have := (hown.lt _ hj).1; omega), by omega, by simp; omega, HC⟩, by simp [intOf]; omega⟩
        rw [tokCells_append, tokCells_one, List.length_append]
        exact hown4
      have q59 : (((s[k]'hlt).toNat : Int) == 59) = false := beq_of_ne c59
      cases hsl : [47, 47].isPrefixOf (s.data.toList.drop k) with
      | true =>
        obtain ⟨q47, h2, q47'⟩ := slash_two s k hlt hsl
        have HC : Hid (∀ n, n = spanB lineN (s.data.toList.drop k) → scanAt s.data.toList (k + n) ts = X) := fun n hn => by
          rw [hn]; exact (scan_remark _ _ _ HK.out HNB.out HN10.out hsl).symm.trans HI.out
        have HS : Hid (0 < spanB lineN (s.data.toList.drop k)) := slash_fwd _ _ hsl
        clear hsl c59
        go_wp2_with fail
        go_loop [5] (fun i => ∃ m : Nat, k + m ≤ s.size ∧ i = .int .i64 (k + m : Nat) ∧ Hid (∀ j, j < m → lineN ((s.data.toList.drop k).getD j 0).toNat = true)) (fun i => s.size - (intOf i).toNat)
        case atStart => exact ⟨0, by omega, rfl, fun j hj => by omega⟩
        case round =>
          obtain ⟨m, hm, rfl, HM⟩ := hrel
          have HE : Hid (m = (s.data.toList.drop k).length ∨ lineN ((s.data.toList.drop k).getD m 0).toNat = false → m = spanB lineN (s.data.toList.drop k)) := fun h => (span_is lineN _ m (by rw [List.length_drop, HLs.out]; omega) HM.out h).symm
          by_cases hlm : k + m < s.size
          · have HG : Hid ((s.data.toList.drop k).getD m 0 = s[k + m]'hlm) := getD_at s k m hlm
            by_cases m10 : (s[k + m]'hlm).toNat = 10
            · have r10 : (((s[k + m]'hlm).toNat : Int) == 10) = true := by rw [m10]; rfl
              have HF : Hid (m = spanB lineN (s.data.toList.drop k)) := HE.out (.inr (by rw [HG.out, m10]; rfl))
              clear m10
              go_wp2_with fail
              have hpos : 0 < m := by have := HS.out; rw [← HF.out] at this; exact this
              exact ⟨⟨k + m, ts, by go_num, hown, hbw, by omega, by omega, HC.out m HF.out⟩, by simp [intOf]; omega⟩
            · have r10 : (((s[k + m]'hlm).toNat : Int) == 10) = false := beq_of_ne m10
              have HF : Hid (lineN ((s.data.toList.drop k).getD m 0).toNat = true) := by
                show _ = _
                rw [HG.out, lineN]; simpa using m10
              clear m10
              go_wp2_with fail
              exact ⟨⟨m + 1, by omega, by go_num, fun j hj => if e : j = m then by subst e; exact HF.out else HM.out j (by omega)⟩, by simp [intOf]; omega⟩
          · have HF : Hid (m = spanB lineN (s.data.toList.drop k)) := HE.out (.inl (by rw [List.length_drop, HLs.out]; omega))
            go_wp2_with fail
            have hpos : 0 < m := by have := HS.out; rw [← HF.out] at this; exact this
            exact ⟨⟨k + m, ts, by go_num, hown, hbw, by omega, by omega, HC.out m HF.out⟩, by simp [intOf]; omega⟩
      | false =>
        have HSL : Hid ([47, 47].isPrefixOf (s.data.toList.drop k) = false) := hsl
        have h59 : Hid ((s[k]'hlt).toNat ≠ 59) := c59
        have hno := slash_none s k hlt hsl
        clear hsl c59
        rcases hno with q47 | ⟨q47, hno | ⟨h2, q47'⟩⟩
        all_goals go_wp2_with fail
        all_goals (refine (refToken_any s k wr hlt hlim h59.out).mono ?_)
        all_goals (
          intro r w2 hres
          generalize htk : tokSpec s.data.toList k (s[k]'hlt).toNat = x at hres
          cases hres with
          | ok kd t n he hb2 =>
            subst he
            have HTK : Hid (tokSpec s.data.toList k (s.data.toList.getD k 0).toNat = .ok (kd, t, n)) := by show _ = _; rw [HL.out]; exact htk
            clear htk
            have hown3 := ownsRow_below hown hb2
            have hbw3 : Below W0.heap.size W0 w2 := hbw.trans (hb2.mono (by omega))
            have hsz3 := hb2.size
            have HF : Hid (k < n ∧ n ≤ s.size) := by
              have h1 := tok_fwd _ k kd n t HK.out HTK.out
              rw [HLs.out] at h1
              exact ⟨h1.1, h1.2.1⟩
            have HC : Hid (scanAt s.data.toList n (ts ++ [(kd, t, k)]) = X) := (scan_tok _ _ kd n t _ HK.out HNB.out HN10.out HSL.out HTK.out).symm.trans HI.out
            go_wp2_with (at_builtin; refine wpList_append_own _ rfl _ _ 23 rfl W0.heap.size 48 i0 (.agg #[.int .i64 0, .string ⟨#[]⟩, .int .i64 0]) 3 32 Tryd.underlying23 hi hz0 hz1 hz2 rfl (by decide) _ _ _ rfl (((hown3.alloc _).alloc _).alloc _) ⟨w2.heap.size + 1 + 1, 0, none⟩ 1 1 (tokCell (kd, t, k)) rfl rfl ?_ (fun x hx => by simp [tokCell] at hx; rcases hx with rfl | rfl | rfl <;> rfl) (by unfold maxLen; omega) (by omega) (by simp; omega) ?_)
            · have := tok_new ((w2.alloc (.cells #[.int .i64 kd, .string ⟨t.toArray⟩, .int .i64 k] 48)).alloc (.cells #[.int .i64 0, .int .i64 0, .string ⟨#[]⟩] 26)) kd t k
              simpa using this
            intro v' w4 hown4 hgr4 _
            have hbw4 : Below W0.heap.size W0 w4 := Below.grown (((hbw3.alloc (by omega) _).alloc (by simp; omega) _).alloc (by simp; omega) _) hgr4 (by simp; omega) (fun j hj => by have := (hown3.lt _ hj).1; omega)
            have HO4 : Hid (w4.ownsRow W0.heap.size 48 3 v' (ts ++ [(kd, t, k)]).length (tokCells (ts ++ [(kd, t, k)]))) := by
              show World.ownsRow _ _ _ _ _ _ _
              rw [tokCells_append, tokCells_one, List.length_append, hz]
              exact hown4
            clear hown4 hgr4
            go_wp2_with fail
            obtain ⟨hf1, hf2⟩ := HF.out
            exact ⟨⟨n, ts ++ [(kd, t, k)], rfl, HO4.out, hbw4, by omega, by simp; omega, HC⟩, by simp [intOf]; omega⟩
          | error c p k' q t n he hb2 =>
            subst he
            have hc0 := tok_code _ _ _ _ htk
            have HX2 : Hid (X = .error (c, p)) := HI.out.symm.trans (scan_wrong _ _ _ _ HK.out HNB.out HN10.out HSL.out (by rw [HL.out]; exact htk))
            have hc1 : ((c : Int) == 0) = false := beq_of_ne (k := 0) hc0
            have HC0 : Hid (c ≠ 0) := hc0
            clear htk hc0
            have hb4 := hbw.trans (hb2.mono (by omega))
            obtain ⟨hc2, hf2⟩ := bcell hb4
            have hzz : w.heap.size < w2.heap.size := by have := hb2.size; omega
            have z0 := (hc2 w.heap.size 0 (by omega)).trans x0
            have z1 := (hc2 w.heap.size 1 (by omega)).trans x1
            have z2 := (hc2 w.heap.size 2 (by omega)).trans x2
            have zf := fun o => (hf2 w.heap.size o (by omega)).trans (y0 o)
            have hzn : w2.heap.size ≠ w.heap.size := by omega
            have HB4 : Hid (Below w.heap.size w w2) := HB0.out.trans (hb4.mono (by omega))
            go_wp2_with fail
            go_region
            go_wp2_with fail
            refine bodyPost_ret (v := .tuple #[.slice none 0 0, .agg #[.int .i64 c, .int .i64 p, .string ⟨#[]⟩]]) (by simp [results, Tryd.results10, go_sem, z0, z1, z2, hzz]) rfl ?_
            rw [HX2.out]
            refine .error c p rfl HC0.out ?_
            have H3 := below_three HB4.out (.int .i64 c) (.int .i64 p) (.string ⟨#[]⟩)
            have H4 := H3.alloc H3.size (.cells #[.int .i64 k', .string t, .int .i64 q] 48)
            exact (H4.alloc H4.size _).drew)
    · have HF : Hid (X = .ok (feed ts s.size)) := HI.out.symm.trans (by rw [scan_end _ _ _ (by rw [HLs.out]; exact hlt), HLs.out])
      go_wp2_with fail
      refine (refFeed_any W0.heap.size _ ts s.size _ hsz hown (by omega)).mono ?_
      rintro r w2 ⟨v', rfl, hown3, hb3⟩
      have hb4 := hbw.trans hb3
      obtain ⟨hc2, hf2⟩ := bcell hb4
      have hzz : w.heap.size < w2.heap.size := by have := hb3.size; omega
      have z0 := (hc2 w.heap.size 0 (by omega)).trans x0
      have z1 := (hc2 w.heap.size 1 (by omega)).trans x1
      have z2 := (hc2 w.heap.size 2 (by omega)).trans x2
      have zf := fun o => (hf2 w.heap.size o (by omega)).trans (y0 o)
      go_wp2_with fail
      refine bodyPost_ret (v := .tuple #[v', .agg #[.int .i64 0, .int .i64 0, .string ⟨#[]⟩]]) (by simp [results, Tryd.results10, go_sem, z0, z1, z2]) rfl ?_
      rw [HF.out]
      have hfl := feed_length ts s.size
      refine .ok _ v' rfl ?_ (by omega) ?_
      · exact ownsRow_mono (ownsRow_setCell_below (ownsRow_setCell_below (ownsRow_setCell_below hown3 (show w.heap.size < W0.heap.size by omega) _) (show w.heap.size < W0.heap.size by omega) _) (show w.heap.size < W0.heap.size by omega) _) (by omega)
      · exact (((HB0.out.trans (hb4.mono (by omega))).setCell (Nat.le_refl _) _).setCell (Nat.le_refl _) _).setCell (Nat.le_refl _) _

theorem refScan_any (s : ByteArray) (w : World) :
    Calls Tryd.prog 10 #[.string s] w fun e w' => RefScan w w' e (scanSpec s.data.toList) := by
  have hl : s.data.toList.length = s.size := by simp
  unfold scanSpec
  by_cases h : 60000 < s.data.toList.length
  · rw [if_pos h]; exact refScan_long s w (by omega)
  · rw [if_neg h]; exact refScan_short s w (by omega)
end Go.Proofs.YtnpiicceafgioaaDoor
