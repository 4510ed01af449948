/-
  Plain facts: a token stays what it is, whole; blanks and remarks ahead of tokens.
-/
import Derived.Test.YtnflgijbngcjbabDoorBm
import Derived.Test.YtnflgijbngcjbabDoorSu
namespace Go.Proofs.YtnflgijbngcjbabDoor
open Go.RowKit

theorem part_not_digit (n : Nat) (h : partN n = false) : digitN n = false := by
  unfold partN at h
  rw [Bool.or_eq_false_iff] at h
  exact h.2
theorem part_head (y : Bytes) (h : spanB partN y = 0) : ∀ b, y.head? = some b → partN b.toNat = false := by
  intro b hb
  cases y with
  | nil => cases hb
  | cons a y =>
    cases hb
    rw [spanB_cons] at h
    cases hq : partN b.toNat with
    | false => rfl
    | true => rw [hq, if_pos rfl] at h; omega

theorem part_near {e : Bool} {y Y : Bytes} (hn : Near e y Y) (hy : partLen y = 0) : partLen Y = 0 := by
  by_cases h46 : Y.head? = some 46
  · rw [partLen_dot Y h46]
    rcases hn with ⟨h, h2⟩ | h | h | ⟨-, h⟩
    · have hyh : y.head? = some 46 := h.symm.trans h46
      rw [partLen_dot y hyh] at hy
      refine span_zero _ _ fun b hb => ?_
      have e1 : ∀ z : Bytes, (z.drop 1).head? = z[1]? := fun z => by rw [List.head?_eq_getElem?, List.getElem?_drop]
      rw [e1] at hb
      rcases h2 h46 with h3 | h3 | h3 | h3
      · cases hq : digitN b.toNat with
        | false => rfl
        | true =>
          exfalso
          rw [h3, ← e1] at hb
          have := spanB_pos digitN (y.drop 1) (by cases hz : y.drop 1 with | nil => rw [hz] at hb; cases hb | cons => simp) (by cases hz : y.drop 1 with | nil => rw [hz] at hb; cases hb | cons a z => rw [hz] at hb; cases hb; exact hq)
          omega
      · rw [hb] at h3; cases h3; decide
      · rw [hb] at h3; cases h3; decide
      · rw [hb] at h3; cases h3; decide
    · rw [h46] at h; cases h
    · rw [h46] at h; cases h
    · rw [h46] at h; cases h
  · exact partLen_not Y h46

theorem num_near (x y Y : Bytes) (kd : Nat) (t : Bytes) {e : Bool} (hn : Near e y Y) (hx : 0 < x.length) (h : numSpec (x ++ y) 0 = .ok (kd, t, x.length)) : numSpec (x ++ Y) 0 = .ok (kd, t, x.length) := by
  have hbad : numBad (x ++ y) 0 = false := by
    cases hb : numBad (x ++ y) 0 with
    | false => rfl
    | true => unfold numSpec at h; rw [hb, if_pos rfl] at h; cases h
  have hend : numEnd (x ++ y) 0 = x.length := by
    unfold numSpec at h
    rw [hbad, if_neg (by decide)] at h
    exact congrArg (fun z => z.2.2) (Except.ok.inj h)
  have hpy : spanB partN y = 0 := by
    unfold numBad at hbad
    simp only [Bool.or_eq_false_iff] at hbad
    have := hbad.2
    rw [hend, List.drop_left] at this
    simpa using this
  have hyp := part_head y hpy
  have hYp : ∀ b, Y.head? = some b → partN b.toNat = false := near_kind partN (by decide) (by decide) (by decide) hn hyp
  have hYd : ∀ b, Y.head? = some b → digitN b.toNat = false := fun b hb => part_not_digit _ (hYp b hb)
  obtain ⟨n, hnn⟩ : ∃ n, n = spanB digitN (x ++ y) := ⟨_, rfl⟩
  have hend2 : (if 0 < partLen ((x ++ y).drop n) then n + 1 + partLen ((x ++ y).drop n) else n) = x.length := by
    have := hend
    unfold numEnd at this
    simp only [List.drop_zero, Nat.zero_add] at this
    rw [← hnn] at this
    exact this
  have hnx : n ≤ x.length := by split at hend2 <;> omega
  have hN : spanB digitN (x ++ Y) = n := by rw [hnn]; exact span_near digitN x y Y (by rw [← hnn]; exact hnx) hYd
  have hd : ∀ z : Bytes, (x ++ z).drop n = x.drop n ++ z := fun z => List.drop_append_of_le_length hnx
  have hM : partLen ((x ++ Y).drop n) = partLen ((x ++ y).drop n) := by
    rw [hd, hd]
    rw [hd] at hend2
    by_cases hnl : n = x.length
    · have hu : x.drop n = [] := List.drop_eq_nil_of_le (by omega)
      rw [hu, List.nil_append] at hend2 ⊢
      have hy0 : partLen y = 0 := by split at hend2 <;> omega
      rw [List.nil_append, hy0]
      exact part_near hn hy0
    · have hm0 : 0 < partLen (x.drop n ++ y) := by
        rcases Nat.eq_zero_or_pos (partLen (x.drop n ++ y)) with h | h
        · rw [h, if_neg (by omega)] at hend2; omega
        · exact h
      rw [if_pos hm0] at hend2
      cases hu : x.drop n with
      | nil => have := congrArg List.length hu; simp at this; omega
      | cons b u =>
        have hul : u.length + 1 = x.length - n := by rw [← List.length_drop, hu]; simp
        rw [hu] at hm0 hend2
        by_cases hb : b = 46
        · subst hb
          rw [partLen_dot _ rfl] at hend2 ⊢
          rw [partLen_dot _ rfl]
          show spanB digitN (u ++ Y) = spanB digitN (u ++ y)
          have e2 : ((46 :: u) ++ y).drop 1 = u ++ y := rfl
          rw [e2] at hend2
          exact span_near digitN u y Y (by omega) hYd
        · rw [partLen_not _ (by intro hc; exact hb (Option.some.inj hc))] at hm0; omega
  have hT : (x ++ Y).take n = (x ++ y).take n := by rw [List.take_append_of_le_length hnx, List.take_append_of_le_length hnx]
  have hF : (x ++ Y)[0]? = (x ++ y)[0]? := by rw [List.getElem?_append_left hx, List.getElem?_append_left hx]
  have hYs : spanB partN Y = 0 := span_zero _ _ hYp
  rw [← h]
  unfold numSpec numBad numEnd
  simp only [List.drop_zero, Nat.zero_add, Nat.sub_zero]
  rw [hN, ← hnn, hM, hT, hF, hend2, List.drop_left, List.drop_left, hYs, hpy, List.take_left, List.take_left]

theorem tok_near (x y Y : Bytes) (kd : Nat) (t : Bytes) (hx : 0 < x.length) (ht : tokSpec (x ++ y) 0 (x.getD 0 0).toNat = .ok (kd, t, x.length)) (hn : Near (endsB kd t) y Y) : tokSpec (x ++ Y) 0 (x.getD 0 0).toNat = .ok (kd, t, x.length) := by
  unfold tokSpec at ht ⊢
  by_cases c1 : (x.getD 0 0).toNat = 59
  · rw [if_pos c1] at ht ⊢; exact ht
  rw [if_neg c1] at ht ⊢
  by_cases c2 : (x.getD 0 0).toNat = 34
  · rw [if_pos c2] at ht ⊢
    unfold textSpec at ht ⊢
    cases hl : lit (x ++ y) 0 (0 + 1) [] with
    | error e => rw [hl] at ht; cases ht
    | ok p =>
      obtain ⟨t', n'⟩ := p
      rw [hl] at ht
      have e := Except.ok.inj ht
      have e1 : 6 = kd := congrArg Prod.fst e
      have e2 : t' = t := congrArg (fun x => x.2.1) e
      have e3 : n' = x.length := congrArg (fun x => x.2.2) e
      subst e1 e2 e3
      have h1 := (litGo_take (x ++ y) 0 _ _ _ _ _ hl x.length).1 (Nat.le_refl _)
      rw [List.take_left] at h1
      have h2 := litGo_ext x Y 0 _ _ _ _ _ h1
      have h3 : lit (x ++ Y) 0 (0 + 1) [] = .ok (t', x.length) := by
        have hf : (x ++ Y).length < 0 + 1 + ((x ++ y).length + 1 + Y.length) := by simp; omega
        unfold lit
        rw [litGo_fuel (x ++ Y) 0 _ ((x ++ y).length + 1 + Y.length) _ _ (by omega) hf]
        have h4 := litGo_ext x Y 0 ((x ++ y).length + 1 + Y.length) (0 + 1) [] t' x.length (by rw [← h1]; exact litGo_fuel x 0 _ _ _ _ (by simp; omega) (by simp; omega))
        exact h4
      rw [h3]
  rw [if_neg c2] at ht ⊢
  by_cases c3 : letterN (x.getD 0 0).toNat = true
  · rw [if_pos c3] at ht ⊢
    simp only [nameSpec, List.drop_zero, Nat.zero_add] at ht ⊢
    by_cases h40 : 40 < spanB partN (x ++ y)
    · rw [if_pos h40] at ht; cases ht
    have ht' := ht
    rw [if_neg h40] at ht
    have hspan : spanB partN (x ++ y) = x.length := congrArg (fun x => x.2.2) (Except.ok.inj ht)
    have hyp := head_of_span partN x y hspan
    have hYp : ∀ b, Y.head? = some b → partN b.toNat = false := near_kind partN (by decide) (by decide) (by decide) hn hyp
    rw [span_near partN x y Y (by omega) hYp, ← ht', hspan, List.take_left, List.take_left]
  rw [if_neg c3] at ht ⊢
  by_cases c4 : digitN (x.getD 0 0).toNat = true
  · rw [if_pos c4] at ht ⊢
    exact num_near x y Y kd t hn hx ht
  rw [if_neg c4] at ht ⊢
  simp only [signSpec, List.drop_zero, Nat.zero_add] at ht ⊢
  by_cases h0 : signLen (x ++ y) = 0
  · rw [if_pos h0] at ht; cases ht
  have ht' := ht
  rw [if_neg h0] at ht
  have hsl : signLen (x ++ y) = x.length := congrArg (fun x => x.2.2) (Except.ok.inj ht)
  rw [sign_near x y Y hn hx hsl, ← ht', hsl, List.take_left, List.take_left]

theorem slash_near (x y Y : Bytes) (kd : Nat) (t : Bytes) (hx : 0 < x.length) (ht : tokSpec (x ++ y) 0 (x.getD 0 0).toNat = .ok (kd, t, x.length)) (hn : Near (endsB kd t) y Y) (hs : [47, 47].isPrefixOf (x ++ y) = false) : [47, 47].isPrefixOf (x ++ Y) = false := by
  by_cases h2 : 2 ≤ x.length
  · rw [pre_app _ _ _ (by simpa using h2)] at hs ⊢; exact hs
  · cases x with
    | nil => simp at hx
    | cons c x =>
      have hx0 : x = [] := by cases x with | nil => rfl | cons => simp at h2
      subst hx0
      by_cases hc : c = 47
      · subst hc
        have hk : kd = 7 ∧ t = [47] := by
          unfold tokSpec at ht
          rw [if_neg (by decide), if_neg (by decide), if_neg (by decide), if_neg (by decide)] at ht
          simp only [signSpec, List.drop_zero, Nat.zero_add] at ht
          by_cases h0 : signLen ([47] ++ y) = 0
          · rw [if_pos h0] at ht; cases ht
          rw [if_neg h0] at ht
          have e := Except.ok.inj ht
          have e1 : 7 = kd := congrArg Prod.fst e
          have e2 : ([47] ++ y).take (signLen ([47] ++ y)) = t := congrArg (fun x => x.2.1) e
          have e3 : signLen ([47] ++ y) = 1 := congrArg (fun x => x.2.2) e
          rw [e3] at e2
          exact ⟨e1.symm, e2.symm⟩
        obtain ⟨rfl, rfl⟩ := hk
        have key : ∀ z : Bytes, [47, 47].isPrefixOf ([47] ++ z) = (z.head? == some 47) := fun z => by
          cases z with
          | nil => rfl
          | cons a z =>
            by_cases ha : a = 47
            · subst ha; rfl
            · have e1 : ((47 : UInt8) == a) = false := beq_eq_false_iff_ne.2 (Ne.symm ha)
              have e2 : (some a == some (47 : UInt8)) = false := beq_eq_false_iff_ne.2 (fun h => ha (Option.some.inj h))
              rw [List.head?_cons, e2]
              simp [List.isPrefixOf, e1]
        rw [key] at hs ⊢
        rcases hn with ⟨h, -⟩ | h | h | ⟨h, -⟩
        · rw [h]; exact hs
        · rw [h]; rfl
        · rw [h]; rfl
        · exact absurd h (by decide)
      · have : ∀ z : Bytes, [47, 47].isPrefixOf ([c] ++ z) = false := fun z => by simp [List.isPrefixOf]; intro h; exact absurd h.symm hc
        exact this Y
end Go.Proofs.YtnflgijbngcjbabDoor
