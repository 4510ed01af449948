/-
  ask, as Calls calls it.
-/
import Derived.Test.YtapakbibofnhkaaDoorOa
import Derived.Test.YtapakbibofnhkaaDoorQ
import Derived.Test.YtapakbibofnhkaaDoorG
namespace Go.Proofs.YtapakbibofnhkaaDoor
open Go.RowKit Go.ChangeMaps

/-- A call begins, whichever one it hides. -/
theorem begin_any (B cb M : Nat) (av ov : Value) (all : List Cl) (opn : List Nat) (e : Ev) (w : World) (h : CAt B cb M av ov all opn (fM all opn opn.length) w) (hI : Inv all opn) (hla : all.length ≤ 1048576) (hB : B ≤ w.heap.size) :
    Calls Tryd.prog 23 #[.pointer (some ⟨cb, 0, none⟩), .agg #[.int .i64 e.k, .int .i64 e.a, .string e.t]] w fun r w' => r = .returned (.tuple #[]) ∧ ∃ av' ov', CAt B cb M av' ov' (begAll all opn (e.a, e.t)) (opn ++ [all.length]) (fM (begAll all opn (e.a, e.t)) (opn ++ [all.length]) (opn ++ [all.length]).length) w' ∧ KS (cS cb M av ov) w w' ∧ ∀ b, cS cb M av' ov' b → cS cb M av ov b ∨ w.heap.size ≤ b := by
  obtain ⟨ap, ac, rfl⟩ := own_slice h.rows
  obtain ⟨op, oc, rfl⟩ := own_slice h.opns
  have hlo : opn.length ≤ 1048576 := Nat.le_trans hI.few hla
  have hF : (fun x => if keq x (e.a, e.t) then some all.length else fM all opn opn.length x) = fM (begAll all opn (e.a, e.t)) (opn ++ [all.length]) (opn ++ [all.length]).length := by
    funext x; rw [beg_top hI]
  rw [← hF]
  cases hv : fM all opn opn.length (e.a, e.t) with
  | none =>
    have h1 := begin_none B cb M ap op ac oc all opn _ e.k e.a e.t w h hv hla hlo hB
    have h2 : begAll all opn (e.a, e.t) = all ++ [(⟨e.a, e.t, opn.length + 1, false, (-1)⟩ : Cl)] := by unfold begAll rOf; rw [hv]
    rw [h2]; exact h1
  | some n0 =>
    have h1 := begin_some B cb M ap op ac oc all opn _ e.k e.a e.t w h n0 hv hla hlo hB
    have h2 : begAll all opn (e.a, e.t) = all ++ [(⟨e.a, e.t, opn.length + 1, false, (n0 : Int)⟩ : Cl)] := by unfold begAll rOf; rw [hv]
    rw [h2]; exact h1
/-- What the calls' rows keep. -/
def CJ (B cb M : Nat) (l : List Ev) (k : Nat) (S : Nat → Prop) (W : World) : Prop := ∃ av ov, CAt B cb M av ov (runS (l.take k)).1 (runS (l.take k)).2 (fM (runS (l.take k)).1 (runS (l.take k)).2 (runS (l.take k)).2.length) W ∧ (∀ b, S b ↔ cS cb M av ov b) ∧ B ≤ W.heap.size
/-- Does the k-th event end a call? -/
def v2f (l : List Ev) (k : Nat) : Bool := (l[k]?).elim false fun e => decide (e.k = 3) && (fM (runS (l.take k)).1 (runS (l.take k)).2 (runS (l.take k)).2.length (e.a, e.t)).isSome
theorem step_2 (s : List Cl × List Nat) (e : Ev) (h : e.k = 2) : stepS s e = (begAll s.1 s.2 (e.a, e.t), s.2 ++ [s.1.length]) := by unfold stepS; rw [if_pos h]
theorem step_3 (s : List Cl × List Nat) (e : Ev) (h : e.k = 3) (j : Nat) (hj : down (pm s.1 s.2 (e.a, e.t)) s.2.length = some j) : stepS s e = (endAll s.1 (s.2.getD j 0), s.2.take j) := by
  unfold stepS; rw [if_neg (by omega), if_pos h, hj]
theorem step_no (s : List Cl × List Nat) (e : Ev) (h : ¬ e.k = 2) (h3 : e.k = 3 → fM s.1 s.2 s.2.length (e.a, e.t) = none) : stepS s e = s := by
  unfold stepS
  rw [if_neg h]
  by_cases h4 : e.k = 3
  · rw [if_pos h4]
    have := h3 h4
    unfold fM at this
    cases hd : down (pm s.1 s.2 (e.a, e.t)) s.2.length with
    | none => rfl
    | some j => rw [hd] at this; simp at this
  · rw [if_neg h4]

set_option maxHeartbeats 1000000 in
theorem ask_calls (B cb M qb : Nat) (l : List Ev) (pp : Option Addr) (c : Nat) (w : World) (he : EvsAt w pp l) (hne : ∀ b f, pp = some ⟨b, f, none⟩ → l ≠ [] → b < w.heap.size ∧ b ≠ cb ∧ b ≠ M) (hl : l.length ≤ 200000) (hC : CAt B cb M (.slice none 0 0) (.slice none 0 0) [] [] (fun _ => none) w) (hB : B ≤ w.heap.size) (hq : w.heap[qb]? = some (.cells #[.func (.func 22) #[] #[], .func (.func 23) #[.pointer (some ⟨cb, 0, none⟩)] #[], .func (.func 24) #[.pointer (some ⟨cb, 0, none⟩)] #[], .func (.func 25) #[.pointer (some ⟨cb, 0, none⟩)] #[]] 44)) (hqc : qb ≠ cb ∧ qb ≠ M) :
    Calls Tryd.prog 19 #[.slice pp l.length c, .slice (some ⟨qb, 0, none⟩) 2 2] w fun r w' => r = .returned (.tuple #[]) ∧ ∃ av ov f, CAt B cb M av ov (runS l).1 (runS l).2 f w' ∧ KS (fun b => b = cb ∨ b = M) w w' := by
  have hz : ∀ b, cS cb M (.slice none 0 0) (.slice none 0 0) b ↔ (b = cb ∨ b = M) := fun b => by
    unfold cS
    simp [Value.ownBlock]
  have hCz : CAt B cb M (.slice none 0 0) (.slice none 0 0) (runS (l.take 0)).1 (runS (l.take 0)).2 (fM (runS (l.take 0)).1 (runS (l.take 0)).2 (runS (l.take 0)).2.length) w := hC
  by_cases h0 : l = []
  · subst h0
    exact (ask_none pp c _ w).mono fun e w' ⟨hr, hw⟩ => by subst hw; exact ⟨hr, _, _, _, hC, KS.refl _ _⟩
  · obtain ⟨b0, f0, rfl, hb0, _⟩ := he.nonempty (List.length_pos_iff.2 h0)
    have hm : l.length ≤ maxLen := by unfold maxLen; omega
    have hn := hne b0 f0 rfl h0
    have hv1 : ∀ k (hk : k < l.length), ((l[k]?).elim false (fun e => e.k == 2)) = (l[k].k == 2) := fun k hk => by rw [List.getElem?_eq_getElem hk]; rfl
    have hv2 : ∀ k (hk : k < l.length), v2f l k = (decide (l[k].k = 3) && (fM (runS (l.take k)).1 (runS (l.take k)).2 (runS (l.take k)).2.length (l[k].a, l[k].t)).isSome) := fun k hk => by unfold v2f; rw [List.getElem?_eq_getElem hk]; rfl
    refine (ask2_any (CJ B cb M l) (fun k => (l[k]?).elim false (fun e => e.k == 2)) (v2f l) l b0 f0 c cb qb (fun b => b = cb ∨ b = M) w hm he hb0 (fun q => q.elim hn.2.1 hn.2.2) hq (fun q => q.elim hqc.1 hqc.2) ⟨_, _, hCz, fun b => (hz b).symm, hB⟩ ?_ ?_ ?_ ?_ ?_ ?_ ?_).mono ?_
    · rintro k S W o ⟨av, ov, h1, h2, h3⟩
      exact ⟨av, ov, h1.below (below1 W o), h2, by rw [World.size_alloc]; omega⟩
    · rintro k S W ⟨av, ov, h1, h2, h3⟩ b hb
      exact h1.S_lt b ((h2 b).1 hb)
    · intro k hk W
      refine (begins_any l[k] W).mono fun e w' ⟨hr, ho⟩ => ⟨by rw [hr, hv1 k hk], ho⟩
    · rintro k hk S W hf ⟨av, ov, h1, h2, h3⟩
      rw [hv1 k hk] at hf
      have hk2 : l[k].k = 2 := by simpa using hf
      have hi := inv_run l k (Nat.le_of_lt hk)
      refine (begin_any B cb M av ov _ _ l[k] W h1 hi.1 (by omega) h3).mono fun e w' ⟨hr, av', ov', g1, g2, g3⟩ => ⟨hr, cS cb M av' ov', ⟨av', ov', ?_, fun _ => Iff.rfl, by have := g2.size; omega⟩, g2.mono (fun b _ q => (h2 b).2 q), fun b hb => (g3 b hb).imp (fun q => (h2 b).2 q) id⟩
      rw [runS_snoc l k hk, step_2 _ _ hk2]
      exact g1
    · rintro k hk S W hf ⟨av, ov, h1, h2, h3⟩
      rw [hv1 k hk] at hf
      have hk2 : ¬ l[k].k = 2 := by simpa using hf
      have fin : ∀ (v : Bool) (e : Ending) (w' : World), e = .returned (.bool v) ∧ Below W.heap.size W w' → v = v2f l k → e = .returned (.bool (v2f l k)) ∧ Stp (CJ B cb M l) k S W w' := fun v e w' ⟨hr, hb⟩ hv => ⟨by rw [hr, hv], S, ⟨av, ov, h1.below hb, h2, by have := hb.size; omega⟩, KS.of hb, fun b hb => .inl hb⟩
      by_cases hk3 : l[k].k = 3
      · have h5 := endsOne_3 B cb M av ov _ _ _ l[k].a l[k].t W h1
        rw [← hk3] at h5
        exact h5.mono fun e w' h6 => fin _ e w' h6 (by rw [hv2 k hk]; simp [hk3])
      · exact (endsOne_no cb l[k] hk3 W).mono fun e w' h6 => fin _ e w' h6 (by rw [hv2 k hk]; simp [hk3])
    · rintro k S W hk hf hf2 ⟨av, ov, h1, h2, h3⟩
      rw [hv1 k hk] at hf
      rw [hv2 k hk] at hf2
      have hk2 : ¬ l[k].k = 2 := by simpa using hf
      have hs := step_no (runS (l.take k)) l[k] hk2 (fun q => by
        rw [q] at hf2
        simpa using hf2)
      refine ⟨av, ov, ?_, h2, h3⟩
      rw [runS_snoc l k hk, hs]
      exact h1
    · rintro k hk S W hf hf2 ⟨av, ov, h1, h2, h3⟩
      rw [hv2 k hk] at hf2
      simp only [Bool.and_eq_true, decide_eq_true_eq] at hf2
      obtain ⟨hk3, hso⟩ := hf2
      have hi := inv_run l k (Nat.le_of_lt hk)
      cases hd : down (pm (runS (l.take k)).1 (runS (l.take k)).2 (l[k].a, l[k].t)) (runS (l.take k)).2.length with
      | none => unfold fM at hso; rw [hd] at hso; simp at hso
      | some j =>
        have hjl := (down_some hd).1
        have hnl := hi.1.lt j hjl
        obtain ⟨ga, ac, rfl, hac⟩ := own_form h1.rows (by omega)
        obtain ⟨go, oc, rfl, hoc⟩ := own_form h1.opns (by omega)
        have h4 := end_any B cb M ga go ac oc _ _ l[k].k l[k].a l[k].t W h1 hi.1 j _ hd rfl (by have := hi.1.few; omega) hoc
        refine h4.mono fun e w' ⟨hr, g1, g2⟩ => ⟨hr, cS cb M (.slice (some ⟨ga, 0, none⟩) (runS (l.take k)).1.length ac) (.slice (some ⟨go, 0, none⟩) j oc), ⟨_, _, ?_, fun _ => Iff.rfl, by have := g2.size; omega⟩, g2.mono (fun b _ q => (h2 b).2 q), fun b hb => .inl ((h2 b).2 hb)⟩
        rw [runS_snoc l k hk, step_3 _ _ hk3 j hd]
        have hlt : ((runS (l.take k)).2.take j).length = j := by rw [List.length_take]; omega
        have hF : fM (endAll (runS (l.take k)).1 ((runS (l.take k)).2.getD j 0)) ((runS (l.take k)).2.take j) ((runS (l.take k)).2.take j).length = fM (runS (l.take k)).1 (runS (l.take k)).2 j := by
          funext x; rw [hlt, end_f _ _ _ _ _ (Nat.le_refl _)]
        rw [hF]
        exact g1
    · rintro e w' ⟨hr, S', ⟨av, ov, h1, h2, h3⟩, hk, _⟩
      rw [List.take_length] at h1
      exact ⟨hr, av, ov, _, h1, hk⟩
end Go.Proofs.YtapakbibofnhkaaDoor
