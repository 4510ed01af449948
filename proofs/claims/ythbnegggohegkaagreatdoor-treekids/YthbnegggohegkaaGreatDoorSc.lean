/-
  Plain facts on a text's tokens: the reading from the front, one token at a time.
-/
import Derived.Test.YthbnegggohegkaaGreatDoorK
namespace Go.Proofs.YthbnegggohegkaaGreatDoor
open Go.RowKit

def scanGo (l : Bytes) : Nat → Nat → List Tok → Except (Nat × Nat) (List Tok)
  | 0, _, ts => .ok (feed ts l.length)
  | f + 1, k, ts =>
    if k < l.length then
      if (l.getD k 0).toNat = 32 ∨ (l.getD k 0).toNat = 9 then scanGo l f (k + 1) ts
      else if (l.getD k 0).toNat = 10 then scanGo l f (k + 1) (feed ts k)
      else if [47, 47].isPrefixOf (l.drop k) then scanGo l f (k + spanB lineN (l.drop k)) ts
      else match tokSpec l k (l.getD k 0).toNat with
        | .error e => .error e
        | .ok (kd, t, n) => scanGo l f n (ts ++ [(kd, t, k)])
    else .ok (feed ts l.length)

/-- The tokens from k on, behind those that were read. -/
def scanAt (l : Bytes) (k : Nat) (ts : List Tok) : Except (Nat × Nat) (List Tok) := scanGo l (l.length + 1) k ts
def scanSpec (l : Bytes) : Except (Nat × Nat) (List Tok) := if 60000 < l.length then .error (13, 0) else scanAt l 0 []

theorem litGo_fwd (l : Bytes) (src : Nat) : ∀ (f k : Nat) (acc t : Bytes) (n : Nat), litGo l src f k acc = .ok (t, n) → k < n ∧ n ≤ l.length ∧ (l.getD (n - 1) 0).toNat = 34 := by
  intro f
  induction f with
  | zero => intro k acc t n h; simp [litGo] at h
  | succ f ih =>
    intro k acc t n h
    simp only [litGo] at h
    by_cases hk : k < l.length
    · rw [if_pos hk] at h
      by_cases h1 : (l.getD k 0).toNat = 10
      · rw [if_pos h1] at h; cases h
      rw [if_neg h1] at h
      by_cases h2 : (l.getD k 0).toNat = 34
      · rw [if_pos h2] at h
        have := Except.ok.inj h
        have hn : k + 1 = n := congrArg Prod.snd this
        subst hn
        exact ⟨by omega, by omega, by rw [Nat.add_sub_cancel]; exact h2⟩
      rw [if_neg h2] at h
      by_cases h3 : (l.getD k 0).toNat = 92
      · rw [if_pos h3] at h
        by_cases h4 : (esc (l.drop k)).2 = 0
        · rw [if_pos h4] at h; cases h
        rw [if_neg h4] at h
        have := ih _ _ _ _ h
        exact ⟨by omega, this.2⟩
      · rw [if_neg h3] at h
        have := ih _ _ _ _ h
        exact ⟨by omega, this.2⟩
    · rw [if_neg hk] at h; cases h

theorem spanB_mem (q : Nat → Bool) (l : Bytes) (j : Nat) (h : j < spanB q l) : q (l.getD j 0).toNat = true := by
  induction l generalizing j with
  | nil => simp [spanB_nil] at h
  | cons b l ih =>
    rw [spanB_cons] at h
    by_cases hb : q b.toNat = true
    · rw [if_pos hb] at h
      cases j with
      | zero => simpa using hb
      | succ j => simpa using ih j (by omega)
    · rw [if_neg hb] at h; omega
theorem spanB_pos (q : Nat → Bool) (l : Bytes) (h : 0 < l.length) (hq : q (l.getD 0 0).toNat = true) : 0 < spanB q l := by
  cases l with
  | nil => simp at h
  | cons b l => rw [spanB_cons, if_pos (by simpa using hq)]; omega
theorem getD_drop (l : Bytes) (a j : Nat) : (l.drop a).getD j 0 = l.getD (a + j) 0 := by
  rw [List.getD_eq_getElem?_getD, List.getElem?_drop, ← List.getD_eq_getElem?_getD]

theorem letterN_lt (n : Nat) (h : letterN n = true) : n < 128 := by
  by_cases h2 : 128 ≤ n
  · rw [letterN_high n h2] at h; cases h
  · omega
theorem digitN_lt (n : Nat) (h : digitN n = true) : n < 128 := by
  by_cases h2 : 128 ≤ n
  · rw [digitN_high n h2] at h; cases h
  · omega
theorem partN_lt (n : Nat) (h : partN n = true) : n < 128 := by
  unfold partN at h
  rw [Bool.or_eq_true] at h
  exact h.elim (letterN_lt n) (digitN_lt n)

theorem signLen_last (l : Bytes) (h : signLen l ≠ 0) : (l.getD (signLen l - 1) 0).toNat < 128 := by
  have hex : ∃ x, signTab.find? (fun x => x.isPrefixOf l) = some x ∧ signLen l = x.length := by
    unfold signLen at *
    cases h1 : signTab.find? (fun x => x.isPrefixOf l) with
    | none => rw [h1] at h; simp at h
    | some x => exact ⟨x, rfl, rfl⟩
  obtain ⟨x, hx, hl⟩ := hex
  have hp := List.find?_some hx
  have hm := List.mem_of_find?_eq_some hx
  rw [List.isPrefixOf_iff_prefix] at hp
  obtain ⟨r, rfl⟩ := hp
  rw [hl] at h ⊢
  have hall : ∀ y ∈ signTab, ∀ b ∈ y, b.toNat < 128 := by decide
  have e : (x ++ r).getD (x.length - 1) 0 = x.getD (x.length - 1) 0 := by
    rw [List.getD_eq_getElem?_getD, List.getElem?_append_left (by omega), ← List.getD_eq_getElem?_getD]
  rw [e, List.getD_eq_getElem?_getD, List.getElem?_eq_getElem (show x.length - 1 < x.length by omega)]
  exact hall x hm _ (List.getElem_mem _)

/-- A token ends behind its beginning, within the text, with a byte below 128. -/
theorem tok_fwd (l : Bytes) (k kd n : Nat) (t : Bytes) (hk : k < l.length) (h : tokSpec l k (l.getD k 0).toNat = .ok (kd, t, n)) : k < n ∧ n ≤ l.length ∧ (l.getD (n - 1) 0).toNat < 128 := by
  have hdl : 0 < (l.drop k).length := by simp; omega
  have hd0 : (l.drop k).getD 0 0 = l.getD k 0 := by rw [getD_drop]; rfl
  unfold tokSpec at h
  by_cases c1 : (l.getD k 0).toNat = 59
  · rw [if_pos c1] at h
    have hn : k + 1 = n := congrArg (fun x => x.2.2) (Except.ok.inj h)
    subst hn
    exact ⟨by omega, by omega, by rw [Nat.add_sub_cancel, c1]; decide⟩
  rw [if_neg c1] at h
  by_cases c2 : (l.getD k 0).toNat = 34
  · rw [if_pos c2] at h
    unfold textSpec at h
    cases hl : lit l k (k + 1) [] with
    | error e => rw [hl] at h; cases h
    | ok p =>
      obtain ⟨t', n'⟩ := p
      rw [hl] at h
      have hn : n' = n := congrArg (fun x => x.2.2) (Except.ok.inj h)
      subst hn
      have := litGo_fwd l k _ _ _ _ _ hl
      exact ⟨by omega, this.2.1, by rw [this.2.2]; decide⟩
  rw [if_neg c2] at h
  by_cases c3 : letterN (l.getD k 0).toNat = true
  · rw [if_pos c3] at h
    have hp : 0 < spanB partN (l.drop k) := spanB_pos _ _ hdl (by rw [hd0, partN, c3]; rfl)
    have hle := spanB_le partN (l.drop k)
    simp only [nameSpec] at h
    by_cases h40 : 40 < spanB partN (l.drop k)
    · rw [if_pos h40] at h; cases h
    rw [if_neg h40] at h
    have hn : k + spanB partN (l.drop k) = n := congrArg (fun x => x.2.2) (Except.ok.inj h)
    subst hn
    refine ⟨by omega, by simp at hle; omega, ?_⟩
    have := spanB_mem partN (l.drop k) (spanB partN (l.drop k) - 1) (by omega)
    rw [getD_drop, show k + (spanB partN (l.drop k) - 1) = k + spanB partN (l.drop k) - 1 by omega] at this
    exact partN_lt _ this
  rw [if_neg c3] at h
  by_cases c4 : digitN (l.getD k 0).toNat = true
  · rw [if_pos c4] at h
    have hp : 0 < spanB digitN (l.drop k) := spanB_pos _ _ hdl (by rw [hd0]; exact c4)
    have hle := spanB_le digitN (l.drop k)
    unfold numSpec at h
    by_cases hb : numBad l k = true
    · rw [if_pos hb] at h; cases h
    rw [if_neg hb] at h
    have hn : numEnd l k = n := congrArg (fun x => x.2.2) (Except.ok.inj h)
    subst hn
    by_cases hm : 0 < partLen (l.drop (k + spanB digitN (l.drop k)))
    · have e : numEnd l k = k + spanB digitN (l.drop k) + 1 + partLen (l.drop (k + spanB digitN (l.drop k))) := if_pos hm
      have hpl := partLen_le _ hm
      rw [e]
      refine ⟨by omega, by simp at hpl; omega, ?_⟩
      have hdot : partLen (l.drop (k + spanB digitN (l.drop k))) = spanB digitN ((l.drop (k + spanB digitN (l.drop k))).drop 1) := by
        by_cases hh : (l.drop (k + spanB digitN (l.drop k))).head? = some 46
        · exact partLen_dot _ hh
        · rw [partLen_not _ hh] at hm; omega
      have := spanB_mem digitN ((l.drop (k + spanB digitN (l.drop k))).drop 1) (partLen (l.drop (k + spanB digitN (l.drop k))) - 1) (by rw [← hdot]; omega)
      rw [getD_drop, getD_drop, show k + spanB digitN (l.drop k) + (1 + (partLen (l.drop (k + spanB digitN (l.drop k))) - 1)) = k + spanB digitN (l.drop k) + 1 + partLen (l.drop (k + spanB digitN (l.drop k))) - 1 by omega] at this
      exact digitN_lt _ this
    · have e : numEnd l k = k + spanB digitN (l.drop k) := if_neg hm
      rw [e]
      refine ⟨by omega, by simp at hle; omega, ?_⟩
      have := spanB_mem digitN (l.drop k) (spanB digitN (l.drop k) - 1) (by omega)
      rw [getD_drop, show k + (spanB digitN (l.drop k) - 1) = k + spanB digitN (l.drop k) - 1 by omega] at this
      exact digitN_lt _ this
  rw [if_neg c4] at h
  simp only [signSpec] at h
  by_cases h0 : signLen (l.drop k) = 0
  · rw [if_pos h0] at h; cases h
  rw [if_neg h0] at h
  have hn : k + signLen (l.drop k) = n := congrArg (fun x => x.2.2) (Except.ok.inj h)
  subst hn
  have hle := signLen_le (l.drop k)
  refine ⟨by omega, by simp at hle; omega, ?_⟩
  have := signLen_last _ h0
  rw [getD_drop, show k + (signLen (l.drop k) - 1) = k + signLen (l.drop k) - 1 by omega] at this
  exact this

theorem slash_fwd (l : Bytes) (k : Nat) (h : [47, 47].isPrefixOf (l.drop k) = true) : 0 < spanB lineN (l.drop k) := by
  rw [List.isPrefixOf_iff_prefix] at h
  obtain ⟨r, hr⟩ := h
  rw [← hr]
  exact spanB_pos _ _ (by simp) (by simp [lineN])

theorem scanGo_fuel (l : Bytes) : ∀ (f g k : Nat) (ts : List Tok), l.length < k + f → l.length < k + g → scanGo l f k ts = scanGo l g k ts := by
  intro f
  induction f with
  | zero =>
    intro g k ts hf hg
    cases g with
    | zero => rfl
    | succ g => simp only [scanGo]; rw [if_neg (by omega)]
  | succ f ih =>
    intro g k ts hf hg
    cases g with
    | zero => simp only [scanGo]; rw [if_neg (by omega)]
    | succ g =>
      simp only [scanGo]
      by_cases hk : k < l.length
      · rw [if_pos hk, if_pos hk]
        by_cases h1 : (l.getD k 0).toNat = 32 ∨ (l.getD k 0).toNat = 9
        · rw [if_pos h1, if_pos h1]; exact ih _ _ _ (by omega) (by omega)
        rw [if_neg h1, if_neg h1]
        by_cases h2 : (l.getD k 0).toNat = 10
        · rw [if_pos h2, if_pos h2]; exact ih _ _ _ (by omega) (by omega)
        rw [if_neg h2, if_neg h2]
        by_cases h3 : [47, 47].isPrefixOf (l.drop k) = true
        · rw [if_pos h3, if_pos h3]
          have := slash_fwd l k h3
          exact ih _ _ _ (by omega) (by omega)
        rw [if_neg h3, if_neg h3]
        cases h4 : tokSpec l k (l.getD k 0).toNat with
        | error e => rfl
        | ok p =>
          obtain ⟨kd, t, n⟩ := p
          have := tok_fwd l k kd n t hk h4
          exact ih _ _ _ (by omega) (by omega)
      · rw [if_neg hk, if_neg hk]

theorem scan_end (l : Bytes) (k : Nat) (ts : List Tok) (h : ¬ k < l.length) : scanAt l k ts = .ok (feed ts l.length) := by
  rw [scanAt, scanGo, if_neg h]
theorem scan_blank (l : Bytes) (k : Nat) (ts : List Tok) (h : k < l.length) (h1 : (l.getD k 0).toNat = 32 ∨ (l.getD k 0).toNat = 9) : scanAt l k ts = scanAt l (k + 1) ts := by
  rw [scanAt, scanGo, if_pos h, if_pos h1]
  exact scanGo_fuel _ _ _ _ _ (by omega) (by omega)
theorem scan_feed (l : Bytes) (k : Nat) (ts : List Tok) (h : k < l.length) (h1 : (l.getD k 0).toNat = 10) : scanAt l k ts = scanAt l (k + 1) (feed ts k) := by
  rw [scanAt, scanGo, if_pos h, if_neg (by omega), if_pos h1]
  exact scanGo_fuel _ _ _ _ _ (by omega) (by omega)
theorem scan_remark (l : Bytes) (k : Nat) (ts : List Tok) (h : k < l.length) (h0 : ¬ ((l.getD k 0).toNat = 32 ∨ (l.getD k 0).toNat = 9)) (h1 : (l.getD k 0).toNat ≠ 10) (h2 : [47, 47].isPrefixOf (l.drop k) = true) :
    scanAt l k ts = scanAt l (k + spanB lineN (l.drop k)) ts := by
  rw [scanAt, scanGo, if_pos h, if_neg h0, if_neg h1, if_pos h2]
  have := slash_fwd l k h2
  exact scanGo_fuel _ _ _ _ _ (by omega) (by omega)
theorem scan_wrong (l : Bytes) (k : Nat) (ts : List Tok) (e : Nat × Nat) (h : k < l.length) (h0 : ¬ ((l.getD k 0).toNat = 32 ∨ (l.getD k 0).toNat = 9)) (h1 : (l.getD k 0).toNat ≠ 10) (h2 : [47, 47].isPrefixOf (l.drop k) = false)
    (h3 : tokSpec l k (l.getD k 0).toNat = .error e) : scanAt l k ts = .error e := by
  rw [scanAt, scanGo, if_pos h, if_neg h0, if_neg h1, if_neg (by rw [h2]; decide), h3]
theorem scan_tok (l : Bytes) (k kd n : Nat) (t : Bytes) (ts : List Tok) (h : k < l.length) (h0 : ¬ ((l.getD k 0).toNat = 32 ∨ (l.getD k 0).toNat = 9)) (h1 : (l.getD k 0).toNat ≠ 10) (h2 : [47, 47].isPrefixOf (l.drop k) = false)
    (h3 : tokSpec l k (l.getD k 0).toNat = .ok (kd, t, n)) : scanAt l k ts = scanAt l n (ts ++ [(kd, t, k)]) := by
  rw [scanAt, scanGo, if_pos h, if_neg h0, if_neg h1, if_neg (by rw [h2]; decide), h3]
  have := tok_fwd l k kd n t h h3
  exact scanGo_fuel _ _ _ _ _ (by omega) (by omega)

theorem feed_length (ts : List Tok) (a : Nat) : (feed ts a).length ≤ ts.length + 1 := by
  unfold feed
  split
  · omega
  · split <;> simp

/-- Where the reading by runes stands: at pos, what is ahead of nx has been read. -/
def ScInv (l : Bytes) (pos nx : Nat) (ts : List Tok) : Prop :=
  (pos < nx → nx = l.length ∨ (l.getD nx 0).toNat < 128 ∨ (l.getD (nx - 1) 0).toNat < 128) ∧ scanAt l (max pos nx) ts = scanAt l 0 []

theorem ScInv.start (l : Bytes) : ScInv l 0 0 [] := ⟨fun h => by omega, by simp⟩
theorem ScInv.at {l : Bytes} {pos nx : Nat} {ts : List Tok} (h : ScInv l pos nx ts) (hp : ¬ pos < nx) : scanAt l 0 [] = scanAt l pos ts := by
  rw [← h.2, Nat.max_eq_left (by omega)]
theorem ScInv.skip {l : Bytes} {pos nx d : Nat} {ts : List Tok} (h : ScInv l pos nx ts) (hp : pos < nx) (hd : pos + d ≤ l.length) (h1 : (l.getD pos 0).toNat < 128 → d = 1) (hr : ∀ j, pos < j → j < pos + d → 128 ≤ (l.getD j 0).toNat) : ScInv l (pos + d) nx ts := by
  have hle : pos + d ≤ nx := by
    rcases Nat.lt_or_ge nx (pos + d) with hlt | hge
    · exfalso
      rcases h.1 hp with e | e | e
      · omega
      · have := hr nx hp hlt; omega
      · by_cases hpe : pos = nx - 1
        · rw [← hpe] at e
          have := h1 e
          omega
        · have := hr (nx - 1) (by omega) (by omega); omega
    · exact hge
  refine ⟨fun _ => h.1 hp, ?_⟩
  rw [Nat.max_eq_right hle, ← h.2, Nat.max_eq_right (by omega)]
theorem ScInv.blank {l : Bytes} {pos nx : Nat} {ts : List Tok} (h : ScInv l pos nx ts) (hp : ¬ pos < nx) (hk : pos < l.length) (h1 : (l.getD pos 0).toNat = 32 ∨ (l.getD pos 0).toNat = 9) : ScInv l (pos + 1) nx ts := by
  refine ⟨fun h2 => by omega, ?_⟩
  rw [Nat.max_eq_left (by omega), h.at hp, scan_blank l pos ts hk h1]
theorem ScInv.feed {l : Bytes} {pos nx : Nat} {ts : List Tok} (h : ScInv l pos nx ts) (hp : ¬ pos < nx) (hk : pos < l.length) (h1 : (l.getD pos 0).toNat = 10) : ScInv l (pos + 1) nx (feed ts pos) := by
  refine ⟨fun h2 => by omega, ?_⟩
  rw [Nat.max_eq_left (by omega), h.at hp, scan_feed l pos ts hk h1]
theorem spanB_next (q : Nat → Bool) (l : Bytes) (h : spanB q l < l.length) : q (l.getD (spanB q l) 0).toNat = false := by
  induction l with
  | nil => simp at h
  | cons b l ih =>
    rw [spanB_cons] at h ⊢
    by_cases hb : q b.toNat = true
    · rw [if_pos hb] at h ⊢
      simpa using ih (by simpa using h)
    · rw [if_neg hb]; simpa using hb
theorem ScInv.remark {l : Bytes} {pos nx d n : Nat} {ts : List Tok} (h : ScInv l pos nx ts) (hp : ¬ pos < nx) (hk : pos < l.length) (hd : d = 1) (h0 : ¬ ((l.getD pos 0).toNat = 32 ∨ (l.getD pos 0).toNat = 9)) (h1 : (l.getD pos 0).toNat ≠ 10)
    (h2 : [47, 47].isPrefixOf (l.drop pos) = true) (hn : n = spanB lineN (l.drop pos)) : ScInv l (pos + d) (pos + n) ts := by
  have hf := slash_fwd l pos h2
  have hle := spanB_le lineN (l.drop pos)
  simp at hle
  refine ⟨fun _ => ?_, ?_⟩
  · by_cases he : pos + n = l.length
    · exact .inl he
    · have := spanB_next lineN (l.drop pos) (by simp; omega)
      rw [getD_drop, ← hn] at this
      refine .inr (.inl ?_)
      simp [lineN] at this
      rw [List.getD_eq_getElem?_getD, this]; decide
  · rw [Nat.max_eq_right (by omega), h.at hp, scan_remark l pos ts hk h0 h1 h2, hn]
theorem ScInv.tok {l : Bytes} {pos nx d kd n : Nat} {t : Bytes} {ts : List Tok} (h : ScInv l pos nx ts) (hp : ¬ pos < nx) (hk : pos < l.length) (hd : pos + d ≤ n) (h0 : ¬ ((l.getD pos 0).toNat = 32 ∨ (l.getD pos 0).toNat = 9)) (h1 : (l.getD pos 0).toNat ≠ 10)
    (h2 : [47, 47].isPrefixOf (l.drop pos) = false) (h3 : tokSpec l pos (l.getD pos 0).toNat = .ok (kd, t, n)) : ScInv l (pos + d) n (ts ++ [(kd, t, pos)]) := by
  have hf := tok_fwd l pos kd n t hk h3
  refine ⟨fun _ => .inr (.inr hf.2.2), ?_⟩
  rw [Nat.max_eq_right (by omega), h.at hp, scan_tok l pos kd n t ts hk h0 h1 h2 h3]

/-- A token begins with a byte below 128. -/
theorem tok_first (l : Bytes) (k kd n : Nat) (t : Bytes) (h : tokSpec l k (l.getD k 0).toNat = .ok (kd, t, n)) : (l.getD k 0).toNat < 128 := by
  by_cases hh : (l.getD k 0).toNat < 128
  · exact hh
  exfalso
  unfold tokSpec at h
  rw [if_neg (by omega), if_neg (by omega), if_neg (by rw [letterN_high _ (by omega)]; decide), if_neg (by rw [digitN_high _ (by omega)]; decide)] at h
  simp only [signSpec] at h
  have h0 : signLen (l.drop k) = 0 := by
    refine signLen_not _ fun j hj => ?_
    rw [Bool.eq_false_iff]
    intro h1
    rw [List.isPrefixOf_iff_prefix] at h1
    obtain ⟨r, hr⟩ := h1
    have hall : ∀ j, j < 42 → 0 < (signL j).length ∧ ((signL j).getD 0 0).toNat < 128 := by decide
    have h2 := hall j hj
    have e : (l.drop k).getD 0 0 = (signL j).getD 0 0 := by
      rw [← hr, List.getD_eq_getElem?_getD, List.getElem?_append_left h2.1, ← List.getD_eq_getElem?_getD]
    rw [getD_drop] at e
    simp only [Nat.add_zero] at e
    rw [e] at hh
    omega
  rw [if_pos h0] at h
  cases h
end Go.Proofs.YthbnegggohegkaaGreatDoor
