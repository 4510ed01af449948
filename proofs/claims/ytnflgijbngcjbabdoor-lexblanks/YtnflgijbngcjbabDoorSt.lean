/-
  Plain facts: each token of a text stands there, and nothing but blanks, line feeds and remarks stands between.
-/
import Derived.Test.YtnflgijbngcjbabDoorLn
import Derived.Test.YtnflgijbngcjbabDoorM
namespace Go.Proofs.YtnflgijbngcjbabDoor
open Go.RowKit

/-- What stands between two tokens: blanks, line feeds, remarks. -/
inductive Gap : Bytes → Prop
  | nil : Gap []
  | blank (b : UInt8) (r : Bytes) (hb : b.toNat = 32 ∨ b.toNat = 9 ∨ b.toNat = 10) (h : Gap r) : Gap (b :: r)
  | remark (r m : Bytes) (hr : ∀ b ∈ r, b.toNat ≠ 10) (hm : m = [] ∨ ∃ m', m = 10 :: m') (h : Gap m) : Gap (47 :: 47 :: (r ++ m))

/-- A token that stands at its place, and how many bytes it has there. -/
inductive Fits (l : Bytes) : Tok → Nat → Prop
  | sep (a : Nat) (h : a < l.length) (hb : (l.getD a 0).toNat = 59 ∨ (l.getD a 0).toNat = 10) : Fits l (1, [], a) 1
  | fin : Fits l (1, [], l.length) 0
  | text (a n : Nat) (t : Bytes) (h : a < l.length) (hq : (l.getD a 0).toNat = 34) (hl : lit l a (a + 1) [] = .ok (t, a + n)) : Fits l (6, t, a) n
  | plain (k a : Nat) (t : Bytes) (hk : k = 2 ∨ k = 3 ∨ k = 4 ∨ k = 5 ∨ k = 7) (h0 : 0 < t.length) (hle : a + t.length ≤ l.length) (ht : (l.drop a).take t.length = t) (hn : isName t = (k == 2)) (hw : isWord t = (k == 3)) : Fits l (k, t, a) t.length

inductive St (l : Bytes) : Nat → List Tok → Prop
  | fin (k : Nat) (h : l.length ≤ k) : St l k []
  | blank (k : Nat) (rest : List Tok) (h : k < l.length) (hb : (l.getD k 0).toNat = 32 ∨ (l.getD k 0).toNat = 9 ∨ (l.getD k 0).toNat = 10) (r : St l (k + 1) rest) : St l k rest
  | remark (k : Nat) (rest : List Tok) (h : k < l.length) (hp : [47, 47].isPrefixOf (l.drop k) = true) (r : St l (k + spanB lineN (l.drop k)) rest) : St l k rest
  | tok (k : Nat) (t : Tok) (n : Nat) (rest : List Tok) (ha : t.2.2 = k) (hf : Fits l t n) (r : St l (k + n) rest) : St l k (t :: rest)

theorem isWord_letter (t : Bytes) (h : isWord t = true) : letterN (t.getD 0 0).toNat = true := by
  unfold isWord at h
  rw [List.any_eq_true] at h
  obtain ⟨x, hx, he⟩ := h
  have key : ∀ x ∈ wordTab, letterN (x.1.getD 0 0).toNat = true := by decide
  rw [← beq_iff_eq.1 he]
  exact key x hx

theorem take_first (l : Bytes) (k m : Nat) (hm : 0 < m) : ((l.drop k).take m).getD 0 0 = l.getD k 0 := by
  rw [List.getD_eq_getElem?_getD, List.getElem?_take_of_lt hm, List.getElem?_drop, Nat.add_zero, ← List.getD_eq_getElem?_getD]

theorem span_take (q : Nat → Bool) (l : Bytes) : spanB q (l.take (spanB q l)) = (l.take (spanB q l)).length := by
  refine spanB_all q _ fun b hb => ?_
  obtain ⟨i, hi, rfl⟩ := List.getElem_of_mem hb
  have h1 : i < spanB q l := by rw [List.length_take] at hi; omega
  have h2 : i < l.length := by rw [List.length_take] at hi; omega
  have := spanB_mem q l i h1
  rw [List.getD_eq_getElem?_getD, List.getElem?_eq_getElem h2] at this
  rw [List.getElem_take]
  exact this

theorem plain_fits (l : Bytes) (k kd n : Nat) (hkn : k < n) (hn : n ≤ l.length) (hkd : kd = 4 ∨ kd = 5 ∨ kd = 7) (hl : letterN (l.getD k 0).toNat = false) :
    Fits l (kd, (l.drop k).take (n - k), k) (n - k) := by
  have hlen : ((l.drop k).take (n - k)).length = n - k := by rw [List.length_take, List.length_drop]; omega
  have hf := take_first l k (n - k) (by omega)
  have hw : isWord ((l.drop k).take (n - k)) = false := by
    cases h : isWord ((l.drop k).take (n - k)) with
    | false => rfl
    | true => have := isWord_letter _ h; rw [hf, hl] at this; cases this
  have hnm : isName ((l.drop k).take (n - k)) = false := by
    unfold isName
    rw [hf, hl]; simp
  have := Fits.plain (l := l) kd k ((l.drop k).take (n - k)) (by omega) (by omega) (by omega) (by rw [hlen]) (by rw [hnm]; rcases hkd with rfl | rfl | rfl <;> rfl) (by rw [hw]; rcases hkd with rfl | rfl | rfl <;> rfl)
  rw [hlen] at this
  exact this

theorem tok_fits (l : Bytes) (k kd n : Nat) (t : Bytes) (hk : k < l.length) (h : tokSpec l k (l.getD k 0).toNat = .ok (kd, t, n)) : Fits l (kd, t, k) (n - k) := by
  have hfw := tok_fwd l k kd n t hk h
  unfold tokSpec at h
  by_cases c1 : (l.getD k 0).toNat = 59
  · rw [if_pos c1] at h
    have e := Except.ok.inj h
    have e1 : 1 = kd := congrArg Prod.fst e
    have e2 : ([] : Bytes) = t := congrArg (fun x => x.2.1) e
    have e3 : k + 1 = n := congrArg (fun x => x.2.2) e
    subst e1 e2 e3
    rw [Nat.add_sub_cancel_left]
    exact .sep k hk (.inl c1)
  rw [if_neg c1] at h
  by_cases c2 : (l.getD k 0).toNat = 34
  · rw [if_pos c2] at h
    unfold textSpec at h
    cases hl : lit l k (k + 1) [] with
    | error e => rw [hl] at h; cases h
    | ok p =>
      obtain ⟨t', n'⟩ := p
      rw [hl] at h
      have e := Except.ok.inj h
      have e1 : 6 = kd := congrArg Prod.fst e
      have e2 : t' = t := congrArg (fun x => x.2.1) e
      have e3 : n' = n := congrArg (fun x => x.2.2) e
      subst e1 e2 e3
      exact .text k (n' - k) t' hk c2 (by rw [hl, Nat.add_sub_cancel' (by omega)])
  rw [if_neg c2] at h
  by_cases c3 : letterN (l.getD k 0).toNat = true
  · rw [if_pos c3] at h
    simp only [nameSpec] at h
    by_cases h40 : 40 < spanB partN (l.drop k)
    · rw [if_pos h40] at h; cases h
    rw [if_neg h40] at h
    have e := Except.ok.inj h
    have e1 : (if isWord ((l.drop k).take (spanB partN (l.drop k))) then 3 else 2) = kd := congrArg Prod.fst e
    have e2 : (l.drop k).take (spanB partN (l.drop k)) = t := congrArg (fun x => x.2.1) e
    have e3 : k + spanB partN (l.drop k) = n := congrArg (fun x => x.2.2) e
    have hs := span_take partN (l.drop k)
    have hle := spanB_le partN (l.drop k)
    rw [e2] at e1 hs
    have hlen : t.length = spanB partN (l.drop k) := by rw [← e2, List.length_take]; omega
    have hf : t.getD 0 0 = l.getD k 0 := by rw [← e2]; exact take_first l k _ (by omega)
    have htt : (l.drop k).take t.length = t := by rw [hlen]; exact e2
    have hdl : (l.drop k).length = l.length - k := List.length_drop
    have hne : t ≠ [] := fun he => by rw [he] at hlen; simp at hlen; omega
    rw [← e3, Nat.add_sub_cancel_left, ← hlen]
    cases hw : isWord t with
    | true =>
      rw [hw, if_pos rfl] at e1
      rw [← e1]
      exact .plain 3 k t (by omega) (by omega) (by omega) htt (by unfold isName; rw [hw]; simp) (by rw [hw]; rfl)
    | false =>
      rw [hw, if_neg (by simp)] at e1
      rw [← e1]
      refine .plain 2 k t (by omega) (by omega) (by omega) htt ?_ (by rw [hw]; rfl)
      unfold isName
      rw [hw, hf, c3, decide_eq_true hs, decide_eq_true hne, decide_eq_true (show t.length ≤ 40 by omega)]
      rfl
  rw [if_neg c3] at h
  have hl0 : letterN (l.getD k 0).toNat = false := by simpa using c3
  by_cases c4 : digitN (l.getD k 0).toNat = true
  · rw [if_pos c4] at h
    unfold numSpec at h
    by_cases hb : numBad l k = true
    · rw [if_pos hb] at h; cases h
    rw [if_neg hb] at h
    have e := Except.ok.inj h
    have e1 : (if 0 < partLen (l.drop (k + spanB digitN (l.drop k))) then 5 else 4) = kd := congrArg Prod.fst e
    have e2 : (l.drop k).take (numEnd l k - k) = t := congrArg (fun x => x.2.1) e
    have e3 : numEnd l k = n := congrArg (fun x => x.2.2) e
    rw [e3] at e2
    rw [← e2]
    exact plain_fits l k kd n hfw.1 hfw.2.1 (by split at e1 <;> omega) hl0
  rw [if_neg c4] at h
  simp only [signSpec] at h
  by_cases h0 : signLen (l.drop k) = 0
  · rw [if_pos h0] at h; cases h
  rw [if_neg h0] at h
  have e := Except.ok.inj h
  have e1 : 7 = kd := congrArg Prod.fst e
  have e2 : (l.drop k).take (signLen (l.drop k)) = t := congrArg (fun x => x.2.1) e
  have e3 : k + signLen (l.drop k) = n := congrArg (fun x => x.2.2) e
  have e4 : signLen (l.drop k) = n - k := by omega
  rw [e4] at e2
  rw [← e2]
  exact plain_fits l k kd n hfw.1 hfw.2.1 (by omega) hl0

theorem feed_two (ts : List Tok) (a : Nat) : feed ts a = ts ∨ feed ts a = ts ++ [(1, [], a)] := by
  unfold feed
  split
  · exact .inl rfl
  · split
    · exact .inr rfl
    · exact .inl rfl

theorem st_of (l : Bytes) : ∀ (d k : Nat) (ts us : List Tok), l.length ≤ k + d → k ≤ l.length → scanAt l k ts = .ok us → ∃ rest, us = ts ++ rest ∧ St l k rest := by
  intro d
  induction d with
  | zero =>
    intro k ts us hd hk h
    rw [scan_end l k ts (by omega)] at h
    have hk' : k = l.length := by omega
    rcases feed_two ts l.length with e | e
    · rw [e] at h; exact ⟨[], by rw [← Except.ok.inj h]; simp, .fin k (by omega)⟩
    · rw [e] at h
      exact ⟨[(1, [], l.length)], (Except.ok.inj h).symm, .tok k _ 0 [] hk'.symm .fin (.fin _ (by omega))⟩
  | succ d ih =>
    intro k ts us hd hk h
    by_cases hlt : k < l.length
    · by_cases c1 : (l.getD k 0).toNat = 32 ∨ (l.getD k 0).toNat = 9
      · rw [scan_blank l k ts hlt c1] at h
        obtain ⟨rest, e, hs⟩ := ih (k + 1) ts us (by omega) (by omega) h
        exact ⟨rest, e, .blank k rest hlt (by omega) hs⟩
      by_cases c2 : (l.getD k 0).toNat = 10
      · rw [scan_feed l k ts hlt c2] at h
        obtain ⟨rest, e, hs⟩ := ih (k + 1) _ us (by omega) (by omega) h
        rcases feed_two ts k with e' | e'
        · rw [e'] at e; exact ⟨rest, e, .blank k rest hlt (by omega) hs⟩
        · rw [e', List.append_assoc] at e
          exact ⟨_, e, .tok k (1, [], k) 1 rest rfl (.sep k hlt (.inr c2)) hs⟩
      cases c3 : [47, 47].isPrefixOf (l.drop k) with
      | true =>
        rw [scan_remark l k ts hlt c1 c2 c3] at h
        have h1 := slash_fwd l k c3
        have h2 := spanB_le lineN (l.drop k)
        rw [List.length_drop] at h2
        obtain ⟨rest, e, hs⟩ := ih _ ts us (by omega) (by omega) h
        exact ⟨rest, e, .remark k rest hlt c3 hs⟩
      | false =>
        cases h4 : tokSpec l k (l.getD k 0).toNat with
        | error e => rw [scan_wrong l k ts e hlt c1 c2 c3 h4] at h; cases h
        | ok p =>
          obtain ⟨kd, t, n⟩ := p
          rw [scan_tok l k kd n t ts hlt c1 c2 c3 h4] at h
          have hf := tok_fwd l k kd n t hlt h4
          obtain ⟨rest, e, hs⟩ := ih n _ us (by omega) hf.2.1 h
          rw [List.append_assoc] at e
          refine ⟨_, e, .tok k (kd, t, k) (n - k) rest rfl (tok_fits l k kd n t hlt h4) ?_⟩
          rw [show k + (n - k) = n by omega]; exact hs
    · rw [scan_end l k ts hlt] at h
      have hk' : k = l.length := by omega
      rcases feed_two ts l.length with e | e
      · rw [e] at h; exact ⟨[], by rw [← Except.ok.inj h]; simp, .fin k (by omega)⟩
      · rw [e] at h
        exact ⟨[(1, [], l.length)], (Except.ok.inj h).symm, .tok k _ 0 [] hk'.symm .fin (.fin _ (by omega))⟩

theorem st_spec (l : Bytes) (us : List Tok) (h : scanSpec l = .ok us) : St l 0 us := by
  unfold scanSpec at h
  split at h
  · cases h
  · obtain ⟨rest, e, hs⟩ := st_of l l.length 0 [] us (by omega) (by omega) h
    rw [e]; exact hs

theorem fits_le (l : Bytes) (t : Tok) (n : Nat) (h : Fits l t n) : t.2.2 ≤ l.length ∧ t.2.2 + n ≤ l.length := by
  cases h with
  | sep a h _ => exact ⟨by simp; omega, by simp; omega⟩
  | fin => simp
  | text a n t h hq hl =>
    have := litGo_fwd l a _ _ _ _ _ hl
    exact ⟨by simp; omega, this.2.1⟩
  | plain k a t hk h0 hle _ _ _ => exact ⟨by simp; omega, hle⟩

/-- A piece that begins with a byte, or with a remark. -/
theorem gap_blank (l : Bytes) (k a : Nat) (h : k < l.length) (hka : k < a) (hb : (l.getD k 0).toNat = 32 ∨ (l.getD k 0).toNat = 9 ∨ (l.getD k 0).toNat = 10) (g : Gap ((l.drop (k + 1)).take (a - (k + 1)))) : Gap ((l.drop k).take (a - k)) := by
  rw [List.drop_eq_getElem_cons h, show a - k = (a - (k + 1)) + 1 by omega, List.take_succ_cons]
  have e : l[k] = l.getD k 0 := by rw [List.getD_eq_getElem?_getD, List.getElem?_eq_getElem h]; rfl
  rw [e]
  exact .blank _ _ hb g

theorem gap_remark (l : Bytes) (k a : Nat) (hp : [47, 47].isPrefixOf (l.drop k) = true) (hka : k + spanB lineN (l.drop k) ≤ a) (ha : a ≤ l.length) (g : Gap ((l.drop (k + spanB lineN (l.drop k))).take (a - (k + spanB lineN (l.drop k))))) : Gap ((l.drop k).take (a - k)) := by
  obtain ⟨n, hn⟩ : ∃ n, n = spanB lineN (l.drop k) := ⟨_, rfl⟩
  have hmem := spanB_mem lineN (l.drop k)
  have hnext := spanB_next lineN (l.drop k)
  rw [← hn] at hka g hmem hnext
  have hp' := hp
  rw [List.isPrefixOf_iff_prefix] at hp'
  obtain ⟨r, hr⟩ := hp'
  have hd0 : (l.drop k).getD 0 0 = 47 := by rw [← hr]; rfl
  have hd1 : (l.drop k).getD 1 0 = 47 := by rw [← hr]; rfl
  have hlen2 : 2 ≤ (l.drop k).length := by rw [← hr]; simp
  have hn2 : 2 ≤ n := by
    rcases Nat.lt_or_ge n 2 with h | h
    · exfalso
      have h1 := hnext (by omega)
      have : n = 0 ∨ n = 1 := by omega
      rcases this with e | e
      · rw [e, hd0] at h1; cases h1
      · rw [e, hd1] at h1; cases h1
    · exact h
  have e1 : (l.drop k).take (a - k) = (l.drop k).take n ++ (l.drop (k + n)).take (a - (k + n)) := by
    rw [show a - k = n + (a - (k + n)) by omega, List.take_add, List.drop_drop]
  have e2 : (l.drop k).take n = 47 :: 47 :: r.take (n - 2) := by
    rw [← hr, show n = (n - 2) + 1 + 1 by omega]; rfl
  rw [e1, e2]
  refine .remark (r.take (n - 2)) _ ?_ ?_ g
  · intro b hb
    obtain ⟨i, hi, rfl⟩ := List.getElem_of_mem hb
    rw [List.length_take] at hi
    have h1 := hmem (i + 2) (by omega)
    have e3 : (l.drop k).getD (i + 2) 0 = r[i]'(by omega) := by
      rw [← hr, List.getD_eq_getElem?_getD]
      show ((47 :: 47 :: r)[i + 2]?).getD 0 = _
      rw [List.getElem?_cons_succ, List.getElem?_cons_succ, List.getElem?_eq_getElem (by omega)]; rfl
    rw [e3] at h1
    rw [List.getElem_take]
    intro hc
    rw [lineN, hc] at h1; cases h1
  · by_cases h : k + n < a
    · right
      have h1 := hnext (by rw [List.length_drop]; omega)
      rw [getD_drop] at h1
      have hb : l.getD (k + n) 0 = 10 := by
        have : (l.getD (k + n) 0).toNat = 10 := by simpa [lineN] using h1
        exact UInt8.toNat_inj.1 this
      refine ⟨(l.drop (k + n + 1)).take (a - (k + n) - 1), ?_⟩
      rw [List.drop_eq_getElem_cons (show k + n < l.length by omega), show a - (k + n) = (a - (k + n) - 1) + 1 by omega, List.take_succ_cons]
      congr 1
      rw [← hb, List.getD_eq_getElem?_getD, List.getElem?_eq_getElem (by omega)]; rfl
    · left
      rw [show a - (k + n) = 0 by omega, List.take_zero]

theorem st_next (l : Bytes) (k : Nat) (ts : List Tok) (h : St l k ts) : k ≤ l.length → ∀ (t : Tok) (rest : List Tok), ts = t :: rest →
    k ≤ t.2.2 ∧ t.2.2 ≤ l.length ∧ Gap ((l.drop k).take (t.2.2 - k)) ∧ ∃ n, Fits l t n ∧ t.2.2 + n ≤ l.length ∧ St l (t.2.2 + n) rest := by
  induction h with
  | fin k h => intro _ t rest e; cases e
  | blank k rest' h hb r ih =>
    intro hk t rest e
    obtain ⟨h1, h2, h3, h4⟩ := ih (by omega) t rest e
    exact ⟨by omega, h2, gap_blank l k _ h (by omega) hb h3, h4⟩
  | remark k rest' h hp r ih =>
    intro hk t rest e
    have hs := spanB_le lineN (l.drop k)
    rw [List.length_drop] at hs
    obtain ⟨h1, h2, h3, h4⟩ := ih (by omega) t rest e
    exact ⟨by omega, h2, gap_remark l k _ hp h1 h2 h3, h4⟩
  | tok k t' n rest' ha hf r ih =>
    intro hk t rest e
    obtain ⟨rfl, rfl⟩ : t' = t ∧ rest' = rest := by injection e with e1 e2; exact ⟨e1, e2⟩
    have := fits_le l t' n hf
    subst ha
    exact ⟨Nat.le_refl _, this.1, by rw [Nat.sub_self, List.take_zero]; exact .nil, n, hf, this.2, r⟩

theorem st_end (l : Bytes) (k : Nat) (ts : List Tok) (h : St l k ts) : k ≤ l.length → ts = [] → Gap (l.drop k) := by
  induction h with
  | fin k h => intro _ _; rw [List.drop_eq_nil_of_le h]; exact .nil
  | blank k rest' h hb r ih =>
    intro hk e
    have g := ih (by omega) e
    have := gap_blank l k l.length h (by omega) hb (by rw [List.take_of_length_le (by simp)]; exact g)
    rw [List.take_of_length_le (by simp)] at this
    exact this
  | remark k rest' h hp r ih =>
    intro hk e
    have hs := spanB_le lineN (l.drop k)
    rw [List.length_drop] at hs
    have g := ih (by omega) e
    have := gap_remark l k l.length hp (by omega) (Nat.le_refl _) (by rw [List.take_of_length_le (by simp)]; exact g)
    rw [List.take_of_length_le (by simp)] at this
    exact this
  | tok k t' n rest' ha hf r ih => intro _ e; cases e
end Go.Proofs.YtnflgijbngcjbabDoor
