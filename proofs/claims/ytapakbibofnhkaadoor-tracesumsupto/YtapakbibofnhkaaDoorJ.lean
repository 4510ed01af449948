/-
  Lines: one more is counted; trace.Lines.
-/
import Derived.Test.YtapakbibofnhkaaDoorI
namespace Go.Proofs.YtapakbibofnhkaaDoor
open Go.RowKit Go.ChangeMaps

set_option maxRecDepth 100000 in
set_option maxHeartbeats 4000000 in
theorem count_any (B pb gc : Nat) (fv : Value) (s : ByteArray) (cs : List Int) (e : Ev) (w : World) (h : PageAt B pb gc fv s cs w) (hs : s.size ≤ 60000) (h0 : 0 ≤ e.a) (h1 : e.a ≤ s.size) (hb : ∀ x ∈ cs, 0 ≤ x ∧ x ≤ 4611686018427387904) :
    Calls Tryd.prog 21 #[.pointer (some ⟨pb, 0, none⟩), .agg #[.int .i64 e.k, .int .i64 e.a, .string e.t]] w fun r w' => r = .returned (.tuple #[]) ∧ PageAt B pb gc fv s (bump cs (nf s.data.toList e.a.toNat)) w' ∧ KS (· = gc) w w' := by
  have hps := heap_lt h.box
  have hgs := heap_lt h.row
  obtain ⟨m, hm⟩ : ∃ m, m = nf s.data.toList e.a.toNat := ⟨_, rfl⟩
  have hml : m ≤ nf s.data.toList s.size := by rw [hm]; have := nf_mono s.data.toList e.a.toNat; simpa using this
  have hcl := h.len
  have hmc : m < cs.length := by omega
  have hx := hb _ (List.getElem_mem hmc)
  have hnl : nf s.data.toList s.size ≤ 60000 := by have := feedsFrom_len (s.data.toList.take s.size) 0; unfold nf; simp at this ⊢; omega
  have hz : (feedsFrom s.data.toList 0).length = nf s.data.toList s.size := by unfold nf; rw [List.take_of_length_le (by simp)]
  have HBS : Hid (∀ W : World, Below w.heap.size w W → Calls Tryd.prog 32 #[fv, .int .i64 e.a] W fun r w' => r = .returned (.tuple #[.int .i64 (m : Int), .bool ((feedsFrom s.data.toList 0).contains e.a)]) ∧ ∃ q, w' = W.drewN q) := fun W hW => by
    have := bs_any B fv (feedsFrom s.data.toList 0) (feedsFrom_sorted _ _) (by omega) e.a W (by rw [hz]; exact own_below h.feeds hW (Nat.le_refl _))
    rw [countP_nf s.data.toList e.a h0 (by simpa using h1), ← hm] at this
    exact this
  have HH : Hid _ := h
  have hbx := h.box
  obtain ⟨fp, fc, hfv⟩ := own_slice h.feeds
  subst hfv
  have HM : Hid _ := hm
  generalize hX : cs[m] = x at hx
  have HX : Hid (cs[m] = x) := hX
  clear h hb hm hz hX hcl
  go_enter Tryd.func21, Tryd.ntmps21
  go_wp2_with fail
  obtain ⟨U, hU⟩ : ∃ W, W = w.alloc (.cells #[.int .i64 e.k, .int .i64 e.a, .string e.t] 33) := ⟨_, rfl⟩
  rw [← hU]
  have u0 : Below w.heap.size w U := by rw [hU]; exact below1 w _
  have e0 : U.heap[w.heap.size]? = some (.cells #[.int .i64 e.k, .int .i64 e.a, .string e.t] 33) := by rw [hU]; exact heap_alloc_new _ _
  have b0 := (u0.block _ hps).trans hbx
  have c0 := (cells_of e0).1
  have c1 := (cells_of b0).1
  have HU0 : Hid (Below w.heap.size w U) := u0
  clear hU hbx u0
  go_quiet ((go_at_call 32; exact Calls.quiet_of (HBS.out _ (below_drewN HU0.out _))))
  obtain ⟨V, hV⟩ : ∃ W, W = U.drewN nq := ⟨_, rfl⟩
  rw [← hV]
  have v0 : Below w.heap.size w V := by rw [hV]; exact below_drewN HU0.out _
  clear hV c0 c1 b0 e0
  have b1 := (v0.block _ hps).trans HH.out.box
  have g1 := (v0.block _ hgs).trans HH.out.row
  have c2 := (cells_of b1).1
  have HX2 : Hid ((cs.map (Value.int .i64)).toArray[m]? = some (.int .i64 x)) := by show _ = _; rw [← HX.out]; simp [hmc]
  have c3 := ((cells_of g1).1 m).trans HX2.out
  have f3 := (cells_of g1).2
  have HV : Hid (Below w.heap.size w V) := v0
  have HB1 : Hid _ := b1
  have HG1 : Hid _ := g1
  have i1 : (m : Int) < (nf s.data.toList s.size : Int) + 1 := by omega
  have i2 : m < nf s.data.toList s.size + 1 := by omega
  clear v0 b1 g1
  go_wp2_with fail
  refine bodyPost_end (results_none rfl _ _ _) rfl ⟨rfl, ?_, ?_⟩
  · rw [← HM.out]
    have hH := HH.out
    have hV := HV.out
    exact {
      box := (heap_set_other _ _ _ _ _ hH.pne).trans HB1.out
      feeds := own_kept (own_below hH.feeds hV (Nat.le_refl _)) (fun g hg => heap_set_other _ _ _ _ _ (fun q => hH.fne (q ▸ hg)))
      row := by
        have h1 := heap_set HG1.out m (.int .i64 (x + 1))
        have h2 : ((cs.map (Value.int .i64)).toArray.setIfInBounds m (.int .i64 (x + 1))) = ((bump cs m).map (Value.int .i64)).toArray := by
          unfold bump
          rw [List.getD_eq_getElem?_getD, List.getElem?_eq_getElem hmc, HX.out]
          simp [List.map_set]
        rw [h2] at h1
        exact h1
      pne := hH.pne
      fne := hH.fne
      len := by unfold bump; rw [List.length_set]; exact hH.len }
  · exact (KS.of HV.out).trans (KS.set (· = gc) _ _ _ _ rfl) (fun _ _ q => q)

theorem tally_snoc (s : ByteArray) (l : List Ev) (k : Nat) (hk : k < l.length) : tally s (l.take (k + 1)) = if hit s l[k] then bump (tally s (l.take k)) (nf s.data.toList l[k].a.toNat) else tally s (l.take k) := by
  rw [List.take_succ_eq_append_getElem hk]
  simp only [tally, List.foldl_append, List.foldl_cons, List.foldl_nil]
theorem bump_fit {cs : List Int} {k : Int} (h : ∀ x ∈ cs, 0 ≤ x ∧ x ≤ k) (hk : 0 ≤ k) (i : Nat) : ∀ x ∈ bump cs i, 0 ≤ x ∧ x ≤ k + 1 := by
  intro x hx
  unfold bump at hx
  rcases List.mem_or_eq_of_mem_set hx with h1 | h1
  · have := h x h1; omega
  · subst h1
    rw [List.getD_eq_getElem?_getD]
    cases hc : cs[i]? with
    | none => simp; omega
    | some y => have := h y (List.mem_of_getElem? hc); simp; omega
/-- What the counting keeps: the page with the counts of so many events. -/
def LJ (B pb gc : Nat) (fv : Value) (s : ByteArray) (l : List Ev) (k : Nat) (S : Nat → Prop) (W : World) : Prop := (∀ b, S b ↔ b = gc) ∧ PageAt B pb gc fv s (tally s (l.take k)) W ∧ ∀ x ∈ tally s (l.take k), 0 ≤ x ∧ x ≤ (k : Int)
theorem PageAt.below {B pb gc : Nat} {fv : Value} {s : ByteArray} {cs : List Int} {w w' : World} (h : PageAt B pb gc fv s cs w) (hb : Below w.heap.size w w') : PageAt B pb gc fv s cs w' := {
  box := (hb.block _ (heap_lt h.box)).trans h.box
  feeds := own_below h.feeds hb (Nat.le_refl _)
  row := (hb.block _ (heap_lt h.row)).trans h.row
  pne := h.pne
  fne := h.fne
  len := h.len }

set_option maxRecDepth 100000 in
set_option maxHeartbeats 4000000 in
theorem lines_big (s : ByteArray) (v : Value) (w : World) (hs : 60000 < s.size) : Calls Tryd.prog 13 #[.string s, v] w fun r w' => r = .returned (.slice none 0 0) ∧ w' = w := by
  have i1 : (60000 : Int) < s.size := by omega
  go_enter Tryd.func13, Tryd.ntmps13
  go_wp2_with fail
  go_ret
  exact ⟨rfl, rfl⟩

/-- ask, as Lines calls it. -/
theorem ask_lines (B pb gc qb : Nat) (fv : Value) (s : ByteArray) (l : List Ev) (pp : Option Addr) (c : Nat) (w : World) (hs : s.size ≤ 60000) (he : EvsAt w pp l) (hne : ∀ b f, pp = some ⟨b, f, none⟩ → l ≠ [] → b ≠ gc) (hl : l.length * 32 ≤ 140737488355328) (hP : PageAt B pb gc fv s (List.replicate (nf s.data.toList s.size + 1) 0) w) (hq : w.heap[qb]? = some (.cells #[.func (.func 20) #[.pointer (some ⟨pb, 0, none⟩)] #[], .func (.func 21) #[.pointer (some ⟨pb, 0, none⟩)] #[]] 44)) :
    Calls Tryd.prog 19 #[.slice pp l.length c, .slice (some ⟨qb, 0, none⟩) 1 1] w fun r w' => r = .returned (.tuple #[]) ∧ PageAt B pb gc fv s (tally s l) w' ∧ (∀ x ∈ tally s l, 0 ≤ x ∧ x ≤ (l.length : Int)) ∧ KS (· = gc) w w' := by
  have hz : ∀ x ∈ List.replicate (nf s.data.toList s.size + 1) (0 : Int), 0 ≤ x ∧ x ≤ ((0 : Nat) : Int) := fun x hx => by
    have := List.eq_of_mem_replicate hx; omega
  have hgq : qb ≠ gc := fun q => by
    have h1 := hP.row
    rw [← q, hq] at h1
    simp at h1
  by_cases h0 : l = []
  · subst h0
    exact (ask_none pp c _ w).mono fun e w' ⟨hr, hw⟩ => by subst hw; exact ⟨hr, hP, hz, KS.refl _ _⟩
  · obtain ⟨b0, f0, rfl, hb0, _⟩ := he.nonempty (List.length_pos_iff.2 h0)
    have hm : l.length ≤ maxLen := by unfold maxLen; omega
    have hv : ∀ k (hk : k < l.length), ((l[k]?).elim false (hit s)) = hit s l[k] := fun k hk => by rw [List.getElem?_eq_getElem hk]; rfl
    refine (ask1_any (LJ B pb gc fv s l) (fun k => (l[k]?).elim false (hit s)) l b0 f0 c pb qb (· = gc) w hm he hb0 (hne b0 f0 rfl h0) hq hgq ⟨fun _ => Iff.rfl, hP, hz⟩ ?_ ?_ ?_ ?_ ?_).mono ?_
    · rintro k S W o ⟨h1, h2, h3⟩
      exact ⟨h1, h2.below (below1 W o), h3⟩
    · rintro k S W ⟨h1, h2, h3⟩ b hb
      rw [(h1 b).1 hb]
      exact heap_lt h2.row
    · rintro k hk S W ⟨h1, h2, h3⟩
      refine (begun_any s fv _ pb l[k] W h2.box).mono fun e w' ⟨hr, hb⟩ => ⟨?_, S, ⟨h1, h2.below hb, h3⟩, KS.of hb, fun b hb => .inl hb⟩
      rw [hr, hv k hk]
    · rintro k S W hk hf ⟨h1, h2, h3⟩
      rw [hv k hk] at hf
      have ht := tally_snoc s l k hk
      rw [if_neg (by rw [hf]; simp)] at ht
      exact ⟨h1, by rw [ht]; exact h2, by rw [ht]; exact fun x hx => by have := h3 x hx; omega⟩
    · rintro k hk S W hf ⟨h1, h2, h3⟩
      rw [hv k hk] at hf
      have ht := tally_snoc s l k hk
      rw [if_pos hf] at ht
      have hh : 0 ≤ l[k].a ∧ l[k].a ≤ s.size := by
        unfold hit at hf
        simp only [Bool.and_eq_true, decide_eq_true_eq] at hf
        exact ⟨hf.1.2, hf.2⟩
      refine (count_any B pb gc fv s _ l[k] W h2 hs hh.1 hh.2 (fun x hx => by have := h3 x hx; omega)).mono fun e w' ⟨hr, hp, hk2⟩ => ⟨hr, S, ⟨h1, by rw [ht]; exact hp, ?_⟩, hk2.mono (fun b _ q => (h1 b).2 q), fun b hb => .inl hb⟩
      rw [ht]
      intro x hx
      have := bump_fit h3 (by omega) _ x hx
      omega
    · rintro e w' ⟨hr, S', ⟨h1, h2, h3⟩, hk, _⟩
      rw [List.take_length] at h2 h3
      exact ⟨hr, h2, h3, hk⟩

set_option maxRecDepth 100000 in
set_option maxHeartbeats 4000000 in
theorem lines_any (s : ByteArray) (l : List Ev) (pp : Option Addr) (c : Nat) (w : World) (hs : s.size ≤ 60000) (he : EvsAt w pp l) (hl : l.length * 32 ≤ 140737488355328) :
    Calls Tryd.prog 13 #[.string s, .slice pp l.length c] w fun r w' => ∃ gc, r = .returned (.slice (some ⟨gc, 0, none⟩) (nf s.data.toList s.size + 1) (nf s.data.toList s.size + 1)) ∧ Below w.heap.size w w' ∧ w.heap.size ≤ gc ∧ w'.heap[gc]? = some (.cells ((tally s l).map (Value.int .i64)).toArray 3) ∧ (∀ x ∈ tally s l, 0 ≤ x ∧ x ≤ (l.length : Int)) ∧ (tally s l).length = nf s.data.toList s.size + 1 := by
  have i1 : ¬ (60000 : Int) < s.size := by omega
  have HE : Hid (EvsAt w pp l) := he
  clear he
  go_enter Tryd.func13, Tryd.ntmps13
  go_wp2_with fail
  refine (pageOf_any s hs _).mono ?_
  rintro _ U ⟨gc, fv, rfl, u0, hgc, hP⟩
  have HP : Hid _ := hP
  have HU : Hid _ := u0
  have huz : w.heap.size < U.heap.size := heap_lt hP.box
  clear hP u0
  go_wp2_with fail
  obtain ⟨V, hV⟩ : ∃ W, W = U.alloc (.cells #[.func (.func 20) #[.pointer (some ⟨w.heap.size, 0, none⟩)] #[], .func (.func 21) #[.pointer (some ⟨w.heap.size, 0, none⟩)] #[]] 44) := ⟨_, rfl⟩
  rw [← hV]
  have v0 : Below U.heap.size U V := by rw [hV]; exact below1 U _
  have hq : V.heap[U.heap.size]? = some (.cells #[.func (.func 20) #[.pointer (some ⟨w.heap.size, 0, none⟩)] #[], .func (.func 21) #[.pointer (some ⟨w.heap.size, 0, none⟩)] #[]] 44) := by rw [hV]; exact heap_alloc_new _ _
  clear hV
  have wv : Below w.heap.size w V := HU.out.trans (v0.mono (Nat.le_of_lt huz))
  refine (ask_lines (w.heap.size + 1) w.heap.size gc U.heap.size fv s l pp c V hs (HE.out.below wv (Nat.le_refl _)) (fun b f hb hn => ?_) hl (HP.out.below v0) hq).mono ?_
  · obtain ⟨b', f', hb', hlt, _⟩ := HE.out.nonempty (List.length_pos_iff.2 hn)
    rw [hb] at hb'
    simp only [Option.some.injEq, Addr.mk.injEq, and_true] at hb'
    omega
  rintro _ X ⟨rfl, hPX, hbd, hk⟩
  have HX : Hid (PageAt (w.heap.size + 1) w.heap.size gc fv s (tally s l) X ∧ Below w.heap.size w X ∧ ∀ x ∈ tally s l, 0 ≤ x ∧ x ≤ (l.length : Int)) := ⟨hPX, wv.trans (hk.below (fun b hb => by omega) wv.size), hbd⟩
  have cx := (cells_of hPX.box).1
  clear hPX hbd hk wv v0 hq
  go_wp2_with fail
  go_ret
  exact ⟨gc, rfl, HX.out.2.1, Nat.le_of_lt hgc, HX.out.1.row, HX.out.2.2, HX.out.1.len⟩
end Go.Proofs.YtapakbibofnhkaaDoor
