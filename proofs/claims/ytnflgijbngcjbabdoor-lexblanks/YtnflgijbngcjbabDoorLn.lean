/-
  Plain facts: a text, a line feed and a text: the tokens of the one, and of the other, further on.
-/
import Derived.Test.YtnflgijbngcjbabDoorSc
namespace Go.Proofs.YtnflgijbngcjbabDoor
open Go.RowKit

/-! ### A line feed behind a text changes nothing ahead of it -/

theorem spanB_app (q : Nat → Bool) (hq : q 10 = false) (a t : Bytes) : spanB q (a ++ 10 :: t) = spanB q a := by
  induction a with
  | nil => rw [List.nil_append, spanB_cons, spanB_nil, if_neg (by show ¬ q 10 = true; rw [hq]; decide)]
  | cons b a ih => rw [List.cons_append, spanB_cons, spanB_cons, ih]

theorem prefix_app (x a t : Bytes) (hx : 10 ∉ x) : x.isPrefixOf (a ++ 10 :: t) = x.isPrefixOf a := by
  induction x generalizing a with
  | nil => simp [List.isPrefixOf]
  | cons c x ih =>
    simp only [List.mem_cons, not_or] at hx
    cases a with
    | nil =>
      have : (c == 10) = false := by simpa using fun h : c = 10 => hx.1 h.symm
      simp [List.isPrefixOf, this]
    | cons b a => simp only [List.cons_append, List.isPrefixOf]; rw [ih a hx.2]

theorem signLen_app (a t : Bytes) : signLen (a ++ 10 :: t) = signLen a := by
  unfold signLen
  have h : ∀ x ∈ signTab, x.isPrefixOf (a ++ 10 :: t) = x.isPrefixOf a := by
    intro x hx
    have : ∀ x ∈ signTab, 10 ∉ x := by decide
    exact prefix_app x a t (this x hx)
  have : signTab.find? (fun x => x.isPrefixOf (a ++ 10 :: t)) = signTab.find? (fun x => x.isPrefixOf a) := by
    generalize signTab = l at h
    induction l with
    | nil => rfl
    | cons x l ih =>
      rw [List.find?_cons, List.find?_cons, h x (by simp), ih (fun y hy => h y (by simp [hy]))]
  rw [this]

theorem partLen_app (a t : Bytes) : partLen (a ++ 10 :: t) = partLen a := by
  cases a with
  | nil => rw [partLen_not _ (by simp), partLen_nil _ rfl]
  | cons b a =>
    by_cases hb : b = 46
    · subst hb
      show spanB digitN (a ++ 10 :: t) = spanB digitN a
      exact spanB_app digitN rfl a t
    · rw [partLen_not _ (by simpa using hb), partLen_not _ (by simpa using hb)]

theorem getD_left (a b : Bytes) (k : Nat) (h : k < a.length) : (a ++ b).getD k 0 = a.getD k 0 := by
  rw [List.getD_eq_getElem?_getD, List.getElem?_append_left h, ← List.getD_eq_getElem?_getD]
theorem getD_at10 (a t : Bytes) : (a ++ 10 :: t).getD a.length 0 = 10 := by
  rw [List.getD_eq_getElem?_getD, List.getElem?_append_right (Nat.le_refl _)]; simp
theorem drop_left (s t : Bytes) (k : Nat) (h : k ≤ s.length) : (s ++ 10 :: t).drop k = s.drop k ++ 10 :: t := by
  rw [List.drop_append_of_le_length h]

theorem esc_app (a t : Bytes) (ha : 0 < a.length) : esc (a ++ 10 :: t) = esc a := by
  have hl : (a ++ 10 :: t).length = a.length + 1 + t.length := by simp; omega
  have s10 : six (10 : UInt8).toNat = -1 := by decide
  by_cases h1 : a.length < 2
  · have he : esc a = (0, 0) := by unfold esc; rw [if_pos h1]
    have h11 : a.length = 1 := by omega
    have hg : (a ++ 10 :: t).getD 1 0 = 10 := by rw [← h11]; exact getD_at10 a t
    rw [he, esc_of _ 10 (by omega) (by rw [hg]; rfl)]
    rfl
  · have g1 : (a ++ 10 :: t).getD 1 0 = a.getD 1 0 := getD_left _ _ 1 (by omega)
    rw [esc_of (a ++ 10 :: t) (a.getD 1 0).toNat (by omega) (by rw [g1]), esc_of a (a.getD 1 0).toNat h1 rfl]
    by_cases h4 : a.length < 4
    · have hL : (if (a ++ 10 :: t).length < 4 then (0, 0) else if six ((a ++ 10 :: t).getD 2 0).toNat < 0 ∨ six ((a ++ 10 :: t).getD 3 0).toNat < 0 then (0, 0) else ((16 * six ((a ++ 10 :: t).getD 2 0).toNat + six ((a ++ 10 :: t).getD 3 0).toNat).toNat, 4)) = ((0, 0) : Nat × Nat) := by
        by_cases h5 : (a ++ 10 :: t).length < 4
        · rw [if_pos h5]
        · rw [if_neg h5, if_pos]
          have : a.length = 2 ∨ a.length = 3 := by omega
          rcases this with h | h
          · left; rw [← h, getD_at10, s10]; decide
          · right; rw [← h, getD_at10, s10]; decide
      rw [hL, if_pos h4]
    · rw [getD_left a _ 2 (by omega), getD_left a _ 3 (by omega), if_neg (show ¬ (a ++ 10 :: t).length < 4 by omega), if_neg h4]

theorem lit_app (s t : Bytes) (src : Nat) : ∀ (d k : Nat) (acc : Bytes), k + d = s.length → lit (s ++ 10 :: t) src k acc = lit s src k acc := by
  intro d
  induction d using Nat.strongRecOn with
  | ind d ih =>
    intro k acc hk
    have hl : (s ++ 10 :: t).length = s.length + 1 + t.length := by simp; omega
    by_cases hlt : k < s.length
    · have hg : (s ++ 10 :: t).getD k 0 = s.getD k 0 := getD_left _ _ k hlt
      have hdl : (s ++ 10 :: t).drop k = s.drop k ++ 10 :: t := drop_left s t k (by omega)
      have he : esc ((s ++ 10 :: t).drop k) = esc (s.drop k) := by rw [hdl]; exact esc_app _ t (by simp; omega)
      by_cases h1 : (s.getD k 0).toNat = 10
      · rw [lit_feed _ _ _ _ (by omega) (by rw [hg]; exact h1), lit_feed _ _ _ _ hlt h1]
      by_cases h2 : (s.getD k 0).toNat = 34
      · rw [lit_quote _ _ _ _ (by omega) (by rw [hg]; exact h2), lit_quote _ _ _ _ hlt h2]
      by_cases h3 : (s.getD k 0).toNat = 92
      · by_cases h4 : (esc (s.drop k)).2 = 0
        · rw [lit_none _ _ _ _ (by omega) (by rw [hg]; exact h3) (by rw [he]; exact h4), lit_none _ _ _ _ hlt h3 h4]
        · have hf := esc_fits (s.drop k)
          simp at hf
          rw [lit_esc _ _ k (esc (s.drop k)).1 (esc (s.drop k)).2 _ (by omega) (by rw [hg]; exact h3) (by rw [he]) h4, lit_esc s _ k (esc (s.drop k)).1 (esc (s.drop k)).2 _ hlt h3 rfl h4]
          exact ih (d - (esc (s.drop k)).2) (by omega) _ _ (by omega)
      · rw [lit_plain _ _ _ _ (by omega) (by rw [hg]; exact h1) (by rw [hg]; exact h2) (by rw [hg]; exact h3), lit_plain s _ _ _ hlt h1 h2 h3, hg]
        exact ih (d - 1) (by omega) _ _ (by omega)
    · obtain rfl : k = s.length := by omega
      rw [lit_feed _ _ _ _ (by omega) (by rw [getD_at10]; rfl), lit_end s _ _ _ (by omega)]

theorem take_left (a b : Bytes) (n : Nat) (h : n ≤ a.length) : (a ++ b).take n = a.take n := List.take_append_of_le_length h

theorem tok_app (s t : Bytes) (k c : Nat) (hk : k < s.length) : tokSpec (s ++ 10 :: t) k c = tokSpec s k c := by
  have hdl : (s ++ 10 :: t).drop k = s.drop k ++ 10 :: t := drop_left s t k (by omega)
  have hlen : (s.drop k).length = s.length - k := by simp
  unfold tokSpec
  by_cases c1 : c = 59
  · rw [if_pos c1, if_pos c1]
  rw [if_neg c1, if_neg c1]
  by_cases c2 : c = 34
  · rw [if_pos c2, if_pos c2, textSpec, textSpec, lit_app s t k (s.length - (k + 1)) (k + 1) [] (by omega)]
  rw [if_neg c2, if_neg c2]
  by_cases c3 : letterN c = true
  · rw [if_pos c3, if_pos c3]
    have hn := spanB_le partN (s.drop k)
    simp only [nameSpec]
    rw [hdl, spanB_app partN rfl, take_left _ _ _ hn]
  rw [if_neg c3, if_neg c3]
  by_cases c4 : digitN c = true
  · rw [if_pos c4, if_pos c4]
    have hn := spanB_le digitN (s.drop k)
    have e1 : spanB digitN ((s ++ 10 :: t).drop k) = spanB digitN (s.drop k) := by rw [hdl, spanB_app digitN rfl]
    have e2 : partLen ((s ++ 10 :: t).drop (k + spanB digitN (s.drop k))) = partLen (s.drop (k + spanB digitN (s.drop k))) := by
      rw [drop_left s t _ (by omega), partLen_app]
    have hend : numEnd s k ≤ s.length := by
      unfold numEnd
      simp only
      by_cases hm : 0 < partLen (s.drop (k + spanB digitN (s.drop k)))
      · rw [if_pos hm]; have := partLen_le _ hm; simp at this; omega
      · rw [if_neg hm]; omega
    have hge : k ≤ numEnd s k := by
      unfold numEnd
      simp only
      split <;> omega
    have e3 : numEnd (s ++ 10 :: t) k = numEnd s k := by unfold numEnd; simp only; rw [e1, e2]
    have e4 : numBad (s ++ 10 :: t) k = numBad s k := by
      unfold numBad
      simp only
      rw [e1, e2, e3, hdl, take_left _ _ _ hn, List.getElem?_append_left hk, drop_left s t _ hend, spanB_app partN rfl]
    unfold numSpec
    rw [e4, e1, e2, e3, hdl, take_left _ _ _ (by omega)]
  rw [if_neg c4, if_neg c4]
  simp only [signSpec]
  have hn := signLen_le (s.drop k)
  rw [hdl, signLen_app, take_left _ _ _ hn]

/-- Ahead of the line feed the two texts are read alike. -/
theorem scan_app (s t : Bytes) : ∀ (d k : Nat) (ts : List Tok), k + d = s.length →
    (∀ e, scanAt s k ts = .error e → scanAt (s ++ 10 :: t) k ts = .error e) ∧ (∀ us, scanAt s k ts = .ok us → scanAt (s ++ 10 :: t) k ts = scanAt (s ++ 10 :: t) (s.length + 1) us) := by
  intro d
  induction d using Nat.strongRecOn with
  | ind d ih =>
    intro k ts hk
    have hl : (s ++ 10 :: t).length = s.length + 1 + t.length := by simp; omega
    by_cases hlt : k < s.length
    · have hg : (s ++ 10 :: t).getD k 0 = s.getD k 0 := getD_left _ _ k hlt
      have hdl : (s ++ 10 :: t).drop k = s.drop k ++ 10 :: t := drop_left s t k (by omega)
      by_cases h1 : (s.getD k 0).toNat = 32 ∨ (s.getD k 0).toNat = 9
      · rw [scan_blank s k ts hlt h1, scan_blank _ k ts (by omega) (by rw [hg]; exact h1)]
        exact ih (d - 1) (by omega) _ _ (by omega)
      by_cases h2 : (s.getD k 0).toNat = 10
      · rw [scan_feed s k ts hlt h2, scan_feed _ k ts (by omega) (by rw [hg]; exact h2)]
        exact ih (d - 1) (by omega) _ _ (by omega)
      have hpre : [47, 47].isPrefixOf ((s ++ 10 :: t).drop k) = [47, 47].isPrefixOf (s.drop k) := by rw [hdl]; exact prefix_app _ _ _ (by decide)
      cases h3 : [47, 47].isPrefixOf (s.drop k) with
      | true =>
        have hf := slash_fwd s k h3
        have hle := spanB_le lineN (s.drop k)
        simp at hle
        rw [scan_remark s k ts hlt h1 h2 h3, scan_remark _ k ts (by omega) (by rw [hg]; exact h1) (by rw [hg]; exact h2) (by rw [hpre]; exact h3), hdl, spanB_app lineN rfl]
        exact ih (d - spanB lineN (s.drop k)) (by omega) _ _ (by omega)
      | false =>
        have htk : tokSpec (s ++ 10 :: t) k ((s ++ 10 :: t).getD k 0).toNat = tokSpec s k (s.getD k 0).toNat := by rw [hg]; exact tok_app s t k _ hlt
        cases h4 : tokSpec s k (s.getD k 0).toNat with
        | error e =>
          rw [scan_wrong s k ts e hlt h1 h2 h3 h4, scan_wrong _ k ts e (by omega) (by rw [hg]; exact h1) (by rw [hg]; exact h2) (by rw [hpre]; exact h3) (by rw [htk]; exact h4)]
          exact ⟨fun e' h => h, fun us h => (by cases h)⟩
        | ok q =>
          obtain ⟨kd, x, n⟩ := q
          have hf := tok_fwd s k kd n x hlt h4
          rw [scan_tok s k kd n x ts hlt h1 h2 h3 h4, scan_tok _ k kd n x ts (by omega) (by rw [hg]; exact h1) (by rw [hg]; exact h2) (by rw [hpre]; exact h3) (by rw [htk]; exact h4)]
          exact ih (s.length - n) (by omega) _ _ (by omega)
    · obtain rfl : k = s.length := by omega
      rw [scan_end s _ ts (by omega), scan_feed _ _ ts (by omega) (by rw [getD_at10]; rfl)]
      exact ⟨fun e h => (by cases h), fun us h => (by rw [← Except.ok.inj h])⟩

/-! ### Further on -/

def shE (n : Nat) : Except (Nat × Nat) (Bytes × Nat) → Except (Nat × Nat) (Bytes × Nat)
  | .error (c, p) => .error (c, n + p)
  | .ok (t, k) => .ok (t, n + k)
def shT (n : Nat) : Except (Nat × Nat) (Nat × Bytes × Nat) → Except (Nat × Nat) (Nat × Bytes × Nat)
  | .error (c, p) => .error (c, n + p)
  | .ok (kd, t, k) => .ok (kd, t, n + k)
def sh (n : Nat) (ts : List Tok) : List Tok := ts.map fun x => (x.1, x.2.1, n + x.2.2)

theorem drop_right (p t : Bytes) (k : Nat) : (p ++ t).drop (p.length + k) = t.drop k := by rw [← List.drop_drop, List.drop_left]
theorem getD_right (p t : Bytes) (k : Nat) : (p ++ t).getD (p.length + k) 0 = t.getD k 0 := by
  rw [List.getD_eq_getElem?_getD, List.getElem?_append_right (by omega), Nat.add_sub_cancel_left, ← List.getD_eq_getElem?_getD]

theorem lit_sh (p t : Bytes) (src : Nat) : ∀ (d k : Nat) (acc : Bytes), t.length ≤ k + d → lit (p ++ t) (p.length + src) (p.length + k) acc = shE p.length (lit t src k acc) := by
  intro d
  induction d using Nat.strongRecOn with
  | ind d ih =>
    intro k acc hk
    have hl : (p ++ t).length = p.length + t.length := by simp
    by_cases hlt : k < t.length
    · have hg : (p ++ t).getD (p.length + k) 0 = t.getD k 0 := getD_right p t k
      have hdl : (p ++ t).drop (p.length + k) = t.drop k := drop_right p t k
      by_cases h1 : (t.getD k 0).toNat = 10
      · rw [lit_feed _ _ _ _ (by omega) (by rw [hg]; exact h1), lit_feed t _ _ _ hlt h1]; rfl
      by_cases h2 : (t.getD k 0).toNat = 34
      · rw [lit_quote _ _ _ _ (by omega) (by rw [hg]; exact h2), lit_quote t _ _ _ hlt h2]; rfl
      by_cases h3 : (t.getD k 0).toNat = 92
      · by_cases h4 : (esc (t.drop k)).2 = 0
        · rw [lit_none _ _ _ _ (by omega) (by rw [hg]; exact h3) (by rw [hdl]; exact h4), lit_none t _ _ _ hlt h3 h4]; rfl
        · rw [lit_esc _ _ (p.length + k) (esc (t.drop k)).1 (esc (t.drop k)).2 _ (by omega) (by rw [hg]; exact h3) (by rw [hdl]) h4, lit_esc t _ k (esc (t.drop k)).1 (esc (t.drop k)).2 _ hlt h3 rfl h4, Nat.add_assoc]
          exact ih (d - (esc (t.drop k)).2) (by omega) _ _ (by omega)
      · rw [lit_plain _ _ _ _ (by omega) (by rw [hg]; exact h1) (by rw [hg]; exact h2) (by rw [hg]; exact h3), lit_plain t _ _ _ hlt h1 h2 h3, hg, Nat.add_assoc]
        exact ih (d - 1) (by omega) _ _ (by omega)
    · rw [lit_end _ _ _ _ (by omega), lit_end t _ _ _ hlt]; rfl

theorem tok_sh (p t : Bytes) (k c : Nat) : tokSpec (p ++ t) (p.length + k) c = shT p.length (tokSpec t k c) := by
  have hdl : (p ++ t).drop (p.length + k) = t.drop k := drop_right p t k
  unfold tokSpec
  by_cases c1 : c = 59
  · rw [if_pos c1, if_pos c1]; rfl
  rw [if_neg c1, if_neg c1]
  by_cases c2 : c = 34
  · rw [if_pos c2, if_pos c2, textSpec, textSpec]
    have := lit_sh p t k t.length (k + 1) [] (by omega)
    rw [← Nat.add_assoc] at this
    rw [this]
    cases lit t k (k + 1) [] with
    | error e => rfl
    | ok q => rfl
  rw [if_neg c2, if_neg c2]
  by_cases c3 : letterN c = true
  · rw [if_pos c3, if_pos c3]
    simp only [nameSpec]
    rw [hdl]
    split
    · rfl
    · simp only [shT, Nat.add_assoc]
  rw [if_neg c3, if_neg c3]
  by_cases c4 : digitN c = true
  · rw [if_pos c4, if_pos c4]
    have e2 : (p ++ t).drop (p.length + k + spanB digitN (t.drop k)) = t.drop (k + spanB digitN (t.drop k)) := by rw [Nat.add_assoc]; exact drop_right p t _
    have e3 : numEnd (p ++ t) (p.length + k) = p.length + numEnd t k := by
      unfold numEnd
      simp only
      rw [hdl, e2]
      split <;> omega
    have e4 : numBad (p ++ t) (p.length + k) = numBad t k := by
      unfold numBad
      simp only
      rw [hdl, e2, e3, drop_right p t, List.getElem?_append_right (by omega), Nat.add_sub_cancel_left]
    unfold numSpec
    rw [e4, hdl, e2, e3, Nat.add_sub_add_left]
    split
    · rfl
    · rfl
  rw [if_neg c4, if_neg c4]
  simp only [signSpec]
  rw [hdl]
  split
  · rfl
  · simp only [shT, Nat.add_assoc]

theorem feed_sh (n : Nat) (us ts : List Tok) (a : Nat) (hu : ∀ a, feed us a = us) : feed (us ++ sh n ts) (n + a) = us ++ sh n (feed ts a) := by
  rcases List.eq_nil_or_concat ts with rfl | ⟨init, x, rfl⟩
  · simp [sh, feed_nil, hu]
  · rw [List.concat_eq_append, feed_snoc]
    have e : us ++ sh n (init ++ [x]) = (us ++ sh n init) ++ [(x.1, x.2.1, n + x.2.2)] := by simp [sh]
    rw [e, feed_snoc]
    simp only
    split
    · simp [sh]
    · simp [sh]

def shS (n : Nat) (us : List Tok) : Except (Nat × Nat) (List Tok) → Except (Nat × Nat) (List Tok)
  | .error (c, p) => .error (c, n + p)
  | .ok vs => .ok (us ++ sh n vs)

theorem scan_sh (p t : Bytes) (us : List Tok) (hu : ∀ a, feed us a = us) : ∀ (d k : Nat) (ts : List Tok), t.length ≤ k + d → scanAt (p ++ t) (p.length + k) (us ++ sh p.length ts) = shS p.length us (scanAt t k ts) := by
  intro d
  induction d using Nat.strongRecOn with
  | ind d ih =>
    intro k ts hk
    have hl : (p ++ t).length = p.length + t.length := by simp
    by_cases hlt : k < t.length
    · have hg : (p ++ t).getD (p.length + k) 0 = t.getD k 0 := getD_right p t k
      have hdl : (p ++ t).drop (p.length + k) = t.drop k := drop_right p t k
      by_cases h1 : (t.getD k 0).toNat = 32 ∨ (t.getD k 0).toNat = 9
      · rw [scan_blank t k ts hlt h1, scan_blank _ _ _ (by omega) (by rw [hg]; exact h1), Nat.add_assoc]
        exact ih (d - 1) (by omega) _ _ (by omega)
      by_cases h2 : (t.getD k 0).toNat = 10
      · rw [scan_feed t k ts hlt h2, scan_feed _ _ _ (by omega) (by rw [hg]; exact h2), feed_sh _ _ _ _ hu, Nat.add_assoc]
        exact ih (d - 1) (by omega) _ _ (by omega)
      cases h3 : [47, 47].isPrefixOf (t.drop k) with
      | true =>
        have hf := slash_fwd t k h3
        rw [scan_remark t k ts hlt h1 h2 h3, scan_remark _ _ _ (by omega) (by rw [hg]; exact h1) (by rw [hg]; exact h2) (by rw [hdl]; exact h3), hdl, Nat.add_assoc]
        exact ih (d - spanB lineN (t.drop k)) (by omega) _ _ (by omega)
      | false =>
        have htk : tokSpec (p ++ t) (p.length + k) ((p ++ t).getD (p.length + k) 0).toNat = shT p.length (tokSpec t k (t.getD k 0).toNat) := by rw [hg]; exact tok_sh p t k _
        cases h4 : tokSpec t k (t.getD k 0).toNat with
        | error e =>
          obtain ⟨c, q⟩ := e
          rw [h4] at htk
          rw [scan_wrong t k ts (c, q) hlt h1 h2 h3 h4, scan_wrong _ _ _ (c, p.length + q) (by omega) (by rw [hg]; exact h1) (by rw [hg]; exact h2) (by rw [hdl]; exact h3) htk]
          rfl
        | ok q =>
          obtain ⟨kd, x, n⟩ := q
          have hf := tok_fwd t k kd n x hlt h4
          rw [h4] at htk
          rw [scan_tok t k kd n x ts hlt h1 h2 h3 h4, scan_tok _ _ kd (p.length + n) x _ (by omega) (by rw [hg]; exact h1) (by rw [hg]; exact h2) (by rw [hdl]; exact h3) htk]
          have e : us ++ sh p.length ts ++ [(kd, x, p.length + k)] = us ++ sh p.length (ts ++ [(kd, x, k)]) := by simp [sh]
          rw [e]
          exact ih (t.length - n) (by omega) _ _ (by omega)
    · rw [scan_end t _ ts hlt, scan_end _ _ _ (by omega), hl, feed_sh _ _ _ _ hu]
      rfl

/-- Behind a line's end nothing is fed once more. -/
theorem feed_feed (ts : List Tok) (a b : Nat) : feed (feed ts a) b = feed ts a := by
  rcases List.eq_nil_or_concat ts with rfl | ⟨init, x, rfl⟩
  · rfl
  · rw [List.concat_eq_append, feed_snoc]
    by_cases h : endsB x.1 x.2.1 = true
    · rw [if_pos h, feed_snoc]
      rfl
    · rw [if_neg h, feed_snoc, if_neg h]

theorem scan_fed (l : Bytes) : ∀ (d k : Nat) (ts us : List Tok), l.length ≤ k + d → scanAt l k ts = .ok us → ∀ a, feed us a = us := by
  intro d
  induction d using Nat.strongRecOn with
  | ind d ih =>
    intro k ts us hk h
    by_cases hlt : k < l.length
    · by_cases h1 : (l.getD k 0).toNat = 32 ∨ (l.getD k 0).toNat = 9
      · rw [scan_blank l k ts hlt h1] at h; exact ih (d - 1) (by omega) _ _ _ (by omega) h
      by_cases h2 : (l.getD k 0).toNat = 10
      · rw [scan_feed l k ts hlt h2] at h; exact ih (d - 1) (by omega) _ _ _ (by omega) h
      cases h3 : [47, 47].isPrefixOf (l.drop k) with
      | true =>
        have hf := slash_fwd l k h3
        rw [scan_remark l k ts hlt h1 h2 h3] at h; exact ih (d - spanB lineN (l.drop k)) (by omega) _ _ _ (by omega) h
      | false =>
        cases h4 : tokSpec l k (l.getD k 0).toNat with
        | error e => rw [scan_wrong l k ts e hlt h1 h2 h3 h4] at h; cases h
        | ok q =>
          obtain ⟨kd, x, n⟩ := q
          have hf := tok_fwd l k kd n x hlt h4
          rw [scan_tok l k kd n x ts hlt h1 h2 h3 h4] at h
          exact ih (l.length - n) (by omega) _ _ _ (by omega) h
    · rw [scan_end l _ ts hlt] at h
      intro a
      rw [← Except.ok.inj h, feed_feed]

/-! ### Where something is wrong -/

theorem litGo_place (l : Bytes) (src : Nat) : ∀ (f k : Nat) (acc : Bytes) (c p : Nat), litGo l src f k acc = .error (c, p) → p = src ∨ p < l.length := by
  intro f
  induction f with
  | zero => intro k acc c p h; simp only [litGo] at h; exact .inl (congrArg Prod.snd (Except.error.inj h)).symm
  | succ f ih =>
    intro k acc c p h
    simp only [litGo] at h
    by_cases hk : k < l.length
    · rw [if_pos hk] at h
      by_cases h1 : (l.getD k 0).toNat = 10
      · rw [if_pos h1] at h; exact .inl (congrArg Prod.snd (Except.error.inj h)).symm
      rw [if_neg h1] at h
      by_cases h2 : (l.getD k 0).toNat = 34
      · rw [if_pos h2] at h; cases h
      rw [if_neg h2] at h
      by_cases h3 : (l.getD k 0).toNat = 92
      · rw [if_pos h3] at h
        by_cases h4 : (esc (l.drop k)).2 = 0
        · rw [if_pos h4] at h
          have : k = p := congrArg Prod.snd (Except.error.inj h)
          omega
        rw [if_neg h4] at h
        exact ih _ _ _ _ h
      · rw [if_neg h3] at h; exact ih _ _ _ _ h
    · rw [if_neg hk] at h; exact .inl (congrArg Prod.snd (Except.error.inj h)).symm

theorem tok_place (l : Bytes) (k c c' p : Nat) (hk : k < l.length) (h : tokSpec l k c = .error (c', p)) : p < l.length := by
  unfold tokSpec at h
  by_cases c1 : c = 59
  · rw [if_pos c1] at h; cases h
  rw [if_neg c1] at h
  by_cases c2 : c = 34
  · rw [if_pos c2, textSpec] at h
    cases hl : lit l k (k + 1) [] with
    | error e =>
      obtain ⟨a, b⟩ := e
      rw [hl] at h
      have e1 : b = p := congrArg Prod.snd (Except.error.inj h)
      have := litGo_place l k _ _ _ _ _ hl
      omega
    | ok q => rw [hl] at h; cases h
  rw [if_neg c2] at h
  by_cases c3 : letterN c = true
  · rw [if_pos c3] at h
    simp only [nameSpec] at h
    split at h
    · have e1 : k = p := congrArg Prod.snd (Except.error.inj h)
      omega
    · cases h
  rw [if_neg c3] at h
  by_cases c4 : digitN c = true
  · rw [if_pos c4, numSpec] at h
    split at h
    · have e1 : k = p := congrArg Prod.snd (Except.error.inj h)
      omega
    · cases h
  rw [if_neg c4] at h
  simp only [signSpec] at h
  split at h
  · have e1 : k = p := congrArg Prod.snd (Except.error.inj h)
    omega
  · cases h

theorem scan_place (l : Bytes) : ∀ (d k : Nat) (ts : List Tok) (c p : Nat), l.length ≤ k + d → scanAt l k ts = .error (c, p) → p < l.length := by
  intro d
  induction d using Nat.strongRecOn with
  | ind d ih =>
    intro k ts c p hk h
    by_cases hlt : k < l.length
    · by_cases h1 : (l.getD k 0).toNat = 32 ∨ (l.getD k 0).toNat = 9
      · rw [scan_blank l k ts hlt h1] at h; exact ih (d - 1) (by omega) _ _ _ _ (by omega) h
      by_cases h2 : (l.getD k 0).toNat = 10
      · rw [scan_feed l k ts hlt h2] at h; exact ih (d - 1) (by omega) _ _ _ _ (by omega) h
      cases h3 : [47, 47].isPrefixOf (l.drop k) with
      | true =>
        have hf := slash_fwd l k h3
        rw [scan_remark l k ts hlt h1 h2 h3] at h; exact ih (d - spanB lineN (l.drop k)) (by omega) _ _ _ _ (by omega) h
      | false =>
        cases h4 : tokSpec l k (l.getD k 0).toNat with
        | error e =>
          obtain ⟨a, b⟩ := e
          rw [scan_wrong l k ts (a, b) hlt h1 h2 h3 h4] at h
          have e1 : b = p := congrArg Prod.snd (Except.error.inj h)
          have := tok_place l k _ a b hlt h4
          omega
        | ok q =>
          obtain ⟨kd, x, n⟩ := q
          have hf := tok_fwd l k kd n x hlt h4
          rw [scan_tok l k kd n x ts hlt h1 h2 h3 h4] at h
          exact ih (l.length - n) (by omega) _ _ _ _ (by omega) h
    · rw [scan_end l _ ts hlt] at h; cases h

theorem spec_place (l : Bytes) (c p : Nat) (hl : l.length ≤ 60000) (h : scanSpec l = .error (c, p)) : p < l.length := by
  unfold scanSpec at h
  rw [if_neg (by omega)] at h
  exact scan_place l l.length 0 [] c p (by omega) h

/-- Line by line: what is wrong with the first. -/
theorem lines_first (s t : Bytes) (e : Nat × Nat) (hl : s.length + 1 + t.length ≤ 60000) (h : scanSpec s = .error e) : scanSpec (s ++ 10 :: t) = .error e := by
  unfold scanSpec at *
  rw [if_neg (by omega)] at h
  rw [if_neg (by simp; omega)]
  exact (scan_app s t s.length 0 [] (by omega)).1 e h
theorem lines_rest (s t : Bytes) (us : List Tok) (hl : s.length + 1 + t.length ≤ 60000) (h : scanSpec s = .ok us) : scanSpec (s ++ 10 :: t) = shS (s.length + 1) us (scanSpec t) := by
  unfold scanSpec at *
  rw [if_neg (by omega)] at h
  rw [if_neg (by simp; omega), if_neg (by omega), (scan_app s t s.length 0 [] (by omega)).2 us h]
  have := scan_sh (s ++ [10]) t us (scan_fed s s.length 0 [] us (by omega) h) t.length 0 [] (by omega)
  rw [Nat.add_zero] at this
  have e1 : (s ++ [10]).length = s.length + 1 := by simp
  have e2 : s ++ [10] ++ t = s ++ 10 :: t := by simp
  have e3 : us ++ sh (s ++ [10]).length [] = us := by simp [sh]
  rw [e3, e1, e2] at this
  exact this
end Go.Proofs.YtnflgijbngcjbabDoor
