/-
  Plain facts: the reading of a text as a relation of its rest, both ways.
-/
import Derived.Test.YtnflgijbngcjbabDoorLn
namespace Go.Proofs.YtnflgijbngcjbabDoor
open Go.RowKit

theorem span_ends (q : Nat → Bool) (l : Bytes) (n : Nat) (hn : n ≤ l.length) (h : ∀ j, j < n → q (l.getD j 0).toNat = true) (hs : n = l.length ∨ q (l.getD n 0).toNat = false) : spanB q l = n := by
  rcases Nat.lt_trichotomy (spanB q l) n with h1 | h1 | h1
  · have := spanB_next q l (by omega)
    rw [h _ h1] at this; cases this
  · exact h1
  · have := spanB_mem q l n h1
    have h2 := spanB_le q l
    rcases hs with hs | hs
    · omega
    · rw [hs] at this; cases this

/-- The tokens of what is left, which begins at a place; e: the last token may end a line. -/
inductive Rd : Bool → Nat → Bytes → List Tok → Prop
  | fin0 (p : Nat) : Rd false p [] []
  | fin1 (p : Nat) : Rd true p [] [(1, [], p)]
  | blank (e : Bool) (p : Nat) (b : UInt8) (l : Bytes) (ts : List Tok) (hb : b.toNat = 32 ∨ b.toNat = 9) (r : Rd e (p + 1) l ts) : Rd e p (b :: l) ts
  | feed0 (p : Nat) (l : Bytes) (ts : List Tok) (r : Rd false (p + 1) l ts) : Rd false p (10 :: l) ts
  | feed1 (p : Nat) (l : Bytes) (ts : List Tok) (r : Rd false (p + 1) l ts) : Rd true p (10 :: l) ((1, [], p) :: ts)
  | remark (e : Bool) (p : Nat) (r m : Bytes) (ts : List Tok) (hr : ∀ b ∈ r, b.toNat ≠ 10) (hm : m = [] ∨ ∃ m', m = 10 :: m') (h : Rd e (p + 2 + r.length) m ts) : Rd e p (47 :: 47 :: (r ++ m)) ts
  | tok (e : Bool) (p : Nat) (x y : Bytes) (kd : Nat) (t : Bytes) (ts : List Tok) (hx : 0 < x.length) (ht : tokSpec (x ++ y) 0 (x.getD 0 0).toNat = .ok (kd, t, x.length))
      (h0 : ¬ ((x.getD 0 0).toNat = 32 ∨ (x.getD 0 0).toNat = 9)) (h1 : (x.getD 0 0).toNat ≠ 10) (hs : [47, 47].isPrefixOf (x ++ y) = false) (r : Rd (endsB kd t) (p + x.length) y ts) : Rd e p (x ++ y) ((kd, t, p) :: ts)

def lastE (ts : List Tok) : Bool :=
  match ts.getLast? with
  | none => false
  | some t => endsB t.1 t.2.1
theorem lastE_snoc (ts : List Tok) (t : Tok) : lastE (ts ++ [t]) = endsB t.1 t.2.1 := by simp [lastE]
theorem feed_lastE (ts : List Tok) (a : Nat) : feed ts a = if lastE ts then ts ++ [(1, [], a)] else ts := by
  unfold feed lastE
  cases ts.getLast? with
  | none => rfl
  | some t => rfl
theorem ends_end : endsB (1 : Nat) [] = false := by decide

theorem tok_rel (l : Bytes) (k c : Nat) (hk : k ≤ l.length) : tokSpec l k c = shT k (tokSpec (l.drop k) 0 c) := by
  have h := tok_sh (l.take k) (l.drop k) 0 c
  have hp : (l.take k).length = k := by rw [List.length_take]; omega
  rw [List.take_append_drop, hp, Nat.add_zero] at h
  exact h

theorem rd_of (l : Bytes) : ∀ (d k : Nat) (ts us : List Tok), l.length ≤ k + d → k ≤ l.length → scanAt l k ts = .ok us → ∃ rest, us = ts ++ rest ∧ Rd (lastE ts) k (l.drop k) rest := by
  intro d
  induction d with
  | zero =>
    intro k ts us hd hk h
    rw [scan_end l k ts (by omega), feed_lastE] at h
    have hk' : l.length = k := by omega
    rw [List.drop_eq_nil_of_le (by omega)]
    cases he : lastE ts with
    | false => rw [he] at h; exact ⟨[], by rw [← Except.ok.inj h]; simp, .fin0 k⟩
    | true => rw [he, hk'] at h; exact ⟨[(1, [], k)], (Except.ok.inj h).symm, .fin1 k⟩
  | succ d ih =>
    intro k ts us hd hk h
    by_cases hlt : k < l.length
    · have hgk : l[k] = l.getD k 0 := by rw [List.getD_eq_getElem?_getD, List.getElem?_eq_getElem hlt]; rfl
      have hdk : l.drop k = l.getD k 0 :: l.drop (k + 1) := by rw [List.drop_eq_getElem_cons hlt, hgk]
      by_cases c1 : (l.getD k 0).toNat = 32 ∨ (l.getD k 0).toNat = 9
      · rw [scan_blank l k ts hlt c1] at h
        obtain ⟨rest, e, hs⟩ := ih (k + 1) ts us (by omega) (by omega) h
        rw [hdk]
        exact ⟨rest, e, .blank _ k _ _ rest c1 hs⟩
      by_cases c2 : (l.getD k 0).toNat = 10
      · rw [scan_feed l k ts hlt c2] at h
        obtain ⟨rest, e, hs⟩ := ih (k + 1) _ us (by omega) (by omega) h
        have hb : l.getD k 0 = 10 := UInt8.toNat_inj.1 c2
        rw [hdk, hb]
        rw [feed_lastE] at e hs
        cases he : lastE ts with
        | false =>
          rw [he] at e hs
          simp only [Bool.false_eq_true, if_false] at e hs
          rw [he] at hs
          exact ⟨rest, e, .feed0 k _ rest hs⟩
        | true =>
          rw [he, if_pos rfl] at e hs
          rw [lastE_snoc, ends_end] at hs
          rw [List.append_assoc] at e
          exact ⟨_, e, .feed1 k _ rest hs⟩
      cases c3 : [47, 47].isPrefixOf (l.drop k) with
      | true =>
        rw [scan_remark l k ts hlt c1 c2 c3] at h
        have h1 := slash_fwd l k c3
        have h2 := spanB_le lineN (l.drop k)
        have hmem := spanB_mem lineN (l.drop k)
        have hnext := spanB_next lineN (l.drop k)
        rw [List.length_drop] at h2 hnext
        obtain ⟨rest, e, hs⟩ := ih _ ts us (by omega) (by omega) h
        refine ⟨rest, e, ?_⟩
        generalize spanB lineN (l.drop k) = n at h1 h2 hmem hnext hs
        have hp' := c3
        rw [List.isPrefixOf_iff_prefix] at hp'
        obtain ⟨r, hr⟩ := hp'
        have hd0 : (l.drop k).getD 0 0 = 47 := by rw [← hr]; rfl
        have hd1 : (l.drop k).getD 1 0 = 47 := by rw [← hr]; rfl
        have hlen2 : 2 + r.length = l.length - k := by rw [← List.length_drop, ← hr]; simp; omega
        have hn2 : 2 ≤ n := by
          rcases Nat.lt_or_ge n 2 with h | h
          · exfalso
            have h1 := hnext (by omega)
            have : n = 0 ∨ n = 1 := by omega
            rcases this with e | e
            · rw [e, hd0] at h1; cases h1
            · rw [e, hd1] at h1; cases h1
          · exact h
        have e1 : l.drop k = 47 :: 47 :: (r.take (n - 2) ++ l.drop (k + n)) := by
          have : l.drop (k + n) = r.drop (n - 2) := by
            rw [← List.drop_drop, ← hr, show n = (n - 2) + 1 + 1 by omega]; rfl
          rw [this, List.take_append_drop, ← hr]; rfl
        have hlt2 : (r.take (n - 2)).length = n - 2 := by rw [List.length_take]; omega
        have hm : l.drop (k + n) = [] ∨ ∃ m', l.drop (k + n) = 10 :: m' := by
          by_cases hkn : k + n < l.length
          · right
            have h1 := hnext (by omega)
            rw [getD_drop] at h1
            have hb : l.getD (k + n) 0 = 10 := by
              have : (l.getD (k + n) 0).toNat = 10 := by simpa [lineN] using h1
              exact UInt8.toNat_inj.1 this
            refine ⟨l.drop (k + n + 1), ?_⟩
            rw [List.drop_eq_getElem_cons hkn]
            congr 1
            rw [← hb, List.getD_eq_getElem?_getD, List.getElem?_eq_getElem hkn]; rfl
          · left; exact List.drop_eq_nil_of_le (by omega)
        have hrr : ∀ b ∈ r.take (n - 2), b.toNat ≠ 10 := by
          intro b hb
          obtain ⟨i, hi, rfl⟩ := List.getElem_of_mem hb
          rw [List.length_take] at hi
          have h1 := hmem (i + 2) (by omega)
          have e3 : (l.drop k).getD (i + 2) 0 = r[i]'(by omega) := by
            rw [← hr, List.getD_eq_getElem?_getD]
            show ((47 :: 47 :: r)[i + 2]?).getD 0 = _
            rw [List.getElem?_cons_succ, List.getElem?_cons_succ, List.getElem?_eq_getElem (by omega)]; rfl
          rw [e3] at h1
          rw [List.getElem_take]
          intro hc
          rw [lineN, hc] at h1; cases h1
        have := Rd.remark (lastE ts) k (r.take (n - 2)) (l.drop (k + n)) rest hrr hm (by rw [hlt2, show k + 2 + (n - 2) = k + n by omega]; exact hs)
        rw [← e1] at this
        exact this
      | false =>
        cases h4 : tokSpec l k (l.getD k 0).toNat with
        | error e => rw [scan_wrong l k ts e hlt c1 c2 c3 h4] at h; cases h
        | ok p =>
          obtain ⟨kd, t, n⟩ := p
          rw [scan_tok l k kd n t ts hlt c1 c2 c3 h4] at h
          have hf := tok_fwd l k kd n t hlt h4
          obtain ⟨rest, e, hs⟩ := ih n _ us (by omega) hf.2.1 h
          rw [List.append_assoc] at e
          refine ⟨_, e, ?_⟩
          rw [lastE_snoc] at hs
          have hx : ((l.drop k).take (n - k)).length = n - k := by rw [List.length_take, List.length_drop]; omega
          have hy : (l.drop k).take (n - k) ++ l.drop n = l.drop k := by
            have : l.drop n = (l.drop k).drop (n - k) := by rw [List.drop_drop]; congr 1; omega
            rw [this, List.take_append_drop]
          have hx0 : ((l.drop k).take (n - k)).getD 0 0 = l.getD k 0 := by
            rw [List.getD_eq_getElem?_getD, List.getElem?_take_of_lt (by omega), List.getElem?_drop, Nat.add_zero, ← List.getD_eq_getElem?_getD]
          have hrel : tokSpec (l.drop k) 0 (l.getD k 0).toNat = .ok (kd, t, n - k) := by
            rw [tok_rel l k _ hk] at h4
            cases hz : tokSpec (l.drop k) 0 (l.getD k 0).toNat with
            | error e => rw [hz] at h4; cases h4
            | ok q =>
              obtain ⟨kd', t', n'⟩ := q
              rw [hz] at h4
              simp only [shT] at h4
              have e' := Except.ok.inj h4
              have e1 : kd' = kd := congrArg Prod.fst e'
              have e2 : t' = t := congrArg (fun x => x.2.1) e'
              have e3 : k + n' = n := congrArg (fun x => x.2.2) e'
              rw [e1, e2, show n' = n - k by omega]
          have := Rd.tok (lastE ts) k ((l.drop k).take (n - k)) (l.drop n) kd t rest (by omega) (by rw [hy, hx, hx0]; exact hrel) (by rw [hx0]; exact c1) (by rw [hx0]; exact c2) (by rw [hy]; exact c3) (by rw [hx, show k + (n - k) = n by omega]; exact hs)
          rw [hy] at this
          exact this
    · rw [scan_end l k ts hlt, feed_lastE] at h
      have hk' : l.length = k := by omega
      rw [List.drop_eq_nil_of_le (by omega)]
      cases he : lastE ts with
      | false => rw [he] at h; exact ⟨[], by rw [← Except.ok.inj h]; simp, .fin0 k⟩
      | true => rw [he, hk'] at h; exact ⟨[(1, [], k)], (Except.ok.inj h).symm, .fin1 k⟩

theorem rd_spec (l : Bytes) (us : List Tok) (h : scanSpec l = .ok us) : Rd false 0 l us := by
  unfold scanSpec at h
  split at h
  · cases h
  · obtain ⟨rest, e, hs⟩ := rd_of l l.length 0 [] us (by omega) (by omega) h
    rw [e]; exact hs

theorem rd_back {e : Bool} {p : Nat} {m : Bytes} {us : List Tok} (h : Rd e p m us) : ∀ (l : Bytes) (ts : List Tok), l.drop p = m → p ≤ l.length → lastE ts = e → scanAt l p ts = .ok (ts ++ us) := by
  induction h with
  | fin0 p =>
    intro l ts hm hp he
    have hl : l.length = p := by have := congrArg List.length hm; simp at this; omega
    rw [scan_end l p ts (by omega), feed_lastE, he]; simp
  | fin1 p =>
    intro l ts hm hp he
    have hl : l.length = p := by have := congrArg List.length hm; simp at this; omega
    rw [scan_end l p ts (by omega), feed_lastE, he, hl]; rfl
  | blank e p b m us hb r ih =>
    intro l ts hm hp he
    have hlt : p < l.length := by have := congrArg List.length hm; simp at this; omega
    have hg : l.getD p 0 = b := by have := getD_drop l p 0; rw [hm] at this; exact this.symm
    have hd : l.drop (p + 1) = m := by rw [← List.drop_drop, hm]; rfl
    rw [scan_blank l p ts hlt (by rw [hg]; exact hb)]
    exact ih l ts hd hlt he
  | feed0 p m us r ih =>
    intro l ts hm hp he
    have hlt : p < l.length := by have := congrArg List.length hm; simp at this; omega
    have hg : l.getD p 0 = 10 := by have := getD_drop l p 0; rw [hm] at this; exact this.symm
    have hd : l.drop (p + 1) = m := by rw [← List.drop_drop, hm]; rfl
    rw [scan_feed l p ts hlt (by rw [hg]; rfl), feed_lastE, he]
    exact ih l ts hd hlt he
  | feed1 p m us r ih =>
    intro l ts hm hp he
    have hlt : p < l.length := by have := congrArg List.length hm; simp at this; omega
    have hg : l.getD p 0 = 10 := by have := getD_drop l p 0; rw [hm] at this; exact this.symm
    have hd : l.drop (p + 1) = m := by rw [← List.drop_drop, hm]; rfl
    rw [scan_feed l p ts hlt (by rw [hg]; rfl), feed_lastE, he, if_pos rfl, ih l _ hd hlt (by rw [lastE_snoc, ends_end]), List.append_assoc]
    rfl
  | remark e p r m us hr hmm h ih =>
    intro l ts hm hp he
    have hlt : p < l.length := by have := congrArg List.length hm; simp at this; omega
    have hg : l.getD p 0 = 47 := by have := getD_drop l p 0; rw [hm] at this; exact this.symm
    have hsp : spanB lineN (l.drop p) = 2 + r.length := by
      rw [hm]
      refine span_ends lineN _ _ (by simp; omega) ?_ ?_
      · intro j hj
        match j with
        | 0 => rfl
        | 1 => rfl
        | j + 2 =>
          show lineN ((r ++ m).getD j 0).toNat = true
          rw [List.getD_eq_getElem?_getD, List.getElem?_append_left (by omega), List.getElem?_eq_getElem (by omega)]
          have := hr _ (List.getElem_mem (l := r) (n := j) (by omega))
          simpa [lineN] using this
      · rcases hmm with rfl | ⟨m', rfl⟩
        · left; simp; omega
        · right
          rw [Nat.add_comm 2 r.length]
          show lineN ((r ++ 10 :: m').getD r.length 0).toNat = false
          rw [List.getD_eq_getElem?_getD, List.getElem?_append_right (Nat.le_refl _)]; simp [lineN]
    have hd : l.drop (p + 2 + r.length) = m := by
      rw [Nat.add_assoc, ← List.drop_drop, hm, show 2 + r.length = r.length + 2 by omega]
      show (r ++ m).drop r.length = m
      exact List.drop_left
    have hle : p + 2 + r.length ≤ l.length := by have := congrArg List.length hm; simp at this; omega
    rw [scan_remark l p ts hlt (by rw [hg]; decide) (by rw [hg]; decide) (by rw [hm]; rfl), hsp, ← Nat.add_assoc]
    exact ih l ts hd hle he
  | tok e p x y kd t us hx ht h0 h1 hs r ih =>
    intro l ts hm hp he
    have hll : l.length = p + x.length + y.length := by have := congrArg List.length hm; simp at this; omega
    have hlt : p < l.length := by omega
    have hg : l.getD p 0 = x.getD 0 0 := by
      have := getD_drop l p 0
      rw [hm] at this
      rw [Nat.add_zero] at this
      rw [← this, List.getD_eq_getElem?_getD, List.getElem?_append_left hx, ← List.getD_eq_getElem?_getD]
    have hd : l.drop (p + x.length) = y := by rw [← List.drop_drop, hm, List.drop_left]
    have htk : tokSpec l p (l.getD p 0).toNat = .ok (kd, t, p + x.length) := by
      rw [tok_rel l p _ hp, hm, hg, ht]; rfl
    rw [scan_tok l p kd (p + x.length) t ts hlt (by rw [hg]; exact h0) (by rw [hg]; exact h1) (by rw [hm]; exact hs) htk, ih l _ hd (by omega) (by rw [lastE_snoc]), List.append_assoc]
    rfl

theorem rd_scan (l : Bytes) (us : List Tok) (hl : l.length ≤ 60000) (h : Rd false 0 l us) : scanSpec l = .ok us := by
  unfold scanSpec
  rw [if_neg (by omega), rd_back h l [] rfl (by omega) rfl]; rfl
end Go.Proofs.YtnflgijbngcjbabDoor
