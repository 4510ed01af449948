/-
  The walk of the document's own token: a sign.
-/
import Derived.Test.YtnpiicceafgioaaDoorRF
namespace Go.Proofs.YtnpiicceafgioaaDoor
open Go.RowKit

theorem pre_take (x l : Bytes) : x.isPrefixOf l = (decide (x.length ≤ l.length) && (l.take x.length == x)) := by
  rw [Bool.eq_iff_iff, List.isPrefixOf_iff_prefix]
  simp only [Bool.and_eq_true, decide_eq_true_eq, beq_iff_eq]
  constructor
  · intro h; exact ⟨h.length_le, (List.prefix_iff_eq_take.1 h).symm⟩
  · intro h; exact List.prefix_iff_eq_take.2 h.2.symm
theorem signL_le (k : Nat) (h : k < 42) : (signL k).length ≤ 3 := by
  have : ∀ k, k < 42 → (signL k).length ≤ 3 := by decide
  exact this k h
theorem signL_pos (k : Nat) (h : k < 42) : 0 < (signL k).length := by
  have : ∀ k, k < 42 → 0 < (signL k).length := by decide
  exact this k h

theorem pre_at (s : ByteArray) (a k : Nat) (ha : a ≤ s.size) : (signL k).isPrefixOf (s.data.toList.drop a) = (decide (a + (signS k).size ≤ s.size) && ((s.extract a (a + (signS k).size)).toList == (signS k).toList)) := by
  rw [pre_take, signS_toList, signS_size, extract_add, ByteArray.toList_eq, List.length_drop]
  have hl : s.data.toList.length = s.size := by simp
  rw [hl]
  congr 1
  rw [decide_eq_decide]
  omega

set_option maxHeartbeats 2000000 in
theorem refToken_sign (s : ByteArray) (a : Nat) (w : World) (ha : a < s.size) (hlim : s.size ≤ 60000) (hc : letterN (s[a]'ha).toNat = false) (hd : digitN (s[a]'ha).toNat = false) (h34 : (((s[a]'ha).toNat : Int) == 34) = false) :
    Calls Tryd.prog 30 #[.string s, .int .i64 a] w fun e w' => RefTok w w' e a (signSpec s.data.toList a) := by
  obtain ⟨X, hX⟩ : ∃ X, X = signSpec s.data.toList a := ⟨_, rfl⟩
  have HX : Hid (X = signSpec s.data.toList a) := hX
  rw [← hX]
  clear hX
  go_enter Tryd.func30, Tryd.ntmps30
  go_wp2_with (first | (go_at_call 42; refine (refLetter_any _ _).mono ?_; rintro e w' ⟨rfl, rfl⟩) | (go_at_call 43; refine (refDigit_any _ _).mono ?_; rintro e w' ⟨rfl, rfl⟩))
  refine (refSigns_any _).mono ?_
  rintro r W ⟨rfl, hrow, hb2⟩
  obtain ⟨⟨x0, x1, x2⟩, y0, y1, y2⟩ := cells_two hb2
  have hza : w.heap.size < W.heap.size := (by (have := hb2.size; simp at this; omega))
  have hzb : w.heap.size + 1 < W.heap.size := (by (have := hb2.size; simp at this; omega))
  have HB : Hid (Below w.heap.size w W) := (((Below.refl _ _).alloc (Nat.le_refl _) _).alloc (by simp) _).trans (hb2.mono (by simp; omega))
  obtain ⟨-, hf2⟩ := bcell hb2
  have f0 : ∀ o, W.frozen? ⟨w.heap.size, o, none⟩ = false := fun o => (hf2 _ o (by simp; omega)).trans (by simp [go_sem])
  have f1 : ∀ o, W.frozen? ⟨w.heap.size + 1, o, none⟩ = false := fun o => (hf2 _ o (by simp)).trans (by simp [go_sem])
  have hsz : ((w.alloc (.cells #[.int .i64 0, .string ⟨#[]⟩, .int .i64 0] 48)).alloc (.cells #[.int .i64 0, .int .i64 0, .string ⟨#[]⟩] 26)).heap.size = w.heap.size + 1 + 1 := by simp
  rw [hsz] at hrow ⊢
  clear hb2 hf2 hsz
  go_wp2_with fail
  go_loopw [17] (fun i wr => ∃ k : Nat, k ≤ 42 ∧ i = .int .i64 k ∧ (∃ nd, wr = W.drewN nd) ∧ Hid (∀ j, j < k → (signL j).isPrefixOf (s.data.toList.drop a) = false)) (fun i _ => 42 - (intOf i).toNat)
  case atStart => exact ⟨0, by omega, rfl, ⟨0, rfl⟩, fun j hj => by omega⟩
  case round =>
    obtain ⟨k, hk, rfl, ⟨nd, rfl⟩, HN⟩ := hrel
    by_cases hlt : k < 42
    · have h1 := (hrow.cellAt k (by omega)).trans (signVals_get k hlt)
      have i1 : (k : Int) < 42 := by omega
      have z1 : Hid ((signS k).size = (signL k).length) := signS_size k
      have z2 : (signS k).size ≤ 3 := by rw [signS_size]; exact signL_le k hlt
      have HP : Hid ((signL k).isPrefixOf (s.data.toList.drop a) = (decide (a + (signS k).size ≤ s.size) && ((s.extract a (a + (signS k).size)).toList == (signS k).toList))) := pre_at s a k (by omega)
      by_cases hin : a + (signS k).size ≤ s.size
      · have i2 : decide ((a : Int) + (signS k).size ≤ s.size) = true := by simp; omega
        go_wp2_with fail
        go_quiet (fail)
        go_wp2_with fail
        · have hq : ((s.extract a (a + (signS k).size)).toList == (signS k).toList) = true := by assumption
          have hp : (signL k).isPrefixOf (s.data.toList.drop a) = true := by rw [HP.out, decide_eq_true hin, hq]; rfl
          have hsl := signLen_of _ k hlt hp HN.out
          have hsp : X = .ok (7, (s.data.toList.drop a).take (signS k).size, a + (signS k).size) := by
            rw [HX.out]; simp only [signSpec, hsl, z1.out]
            rw [if_neg (by have := signL_pos k hlt; omega)]
          have hv : signS k = ⟨((s.data.toList.drop a).take (signS k).size).toArray⟩ := by
            rw [← extract_add]
            rw [ByteArray.toList_eq, ByteArray.toList_eq] at hq
            exact (ByteArray.ext (Array.toList_inj.1 (eq_of_beq hq))).symm
          refine bodyPost_ret (v := .tuple #[.agg #[.int .i64 7, .string (signS k), .int .i64 a], .int .i64 ((a : Int) + (signS k).size), .agg #[.int .i64 0, .int .i64 0, .string ⟨#[]⟩]]) (by simp [results, Tryd.results30, go_sem, x0, x1, x2, y0, y1, y2]) rfl ?_
          rw [hsp]
          exact .ok 7 _ _ (by rw [← hv]; simp) (by first | exact below_tok (below_drewN HB.out _) _ _ _ _ _ _ | exact below_drewN (below_tok HB.out _ _ _ _ _ _) _)
        · have hq : ((s.extract a (a + (signS k).size)).toList == (signS k).toList) = false := by assumption
          have hp : (signL k).isPrefixOf (s.data.toList.drop a) = false := by rw [HP.out, hq, Bool.and_false]
          exact ⟨⟨k + 1, by omega, by go_num, ⟨nd + nq, rfl⟩, fun j hj => if e : j = k then by rw [e]; exact hp else HN.out j (by omega)⟩, by simp [intOf]; omega⟩
      · have i2 : decide ((a : Int) + (signS k).size ≤ s.size) = false := by simp; omega
        go_wp2_with fail
        go_quiet (fail)
        go_wp2_with fail
        have hp : (signL k).isPrefixOf (s.data.toList.drop a) = false := by rw [HP.out, decide_eq_false hin, Bool.false_and]
        exact ⟨⟨k + 1, by omega, by go_num, ⟨nd + nq, rfl⟩, fun j hj => if e : j = k then by rw [e]; exact hp else HN.out j (by omega)⟩, by simp [intOf]; omega⟩
    · go_wp2_with fail
      have hsp : X = .error (10, a) := by
        rw [HX.out]; simp only [signSpec, signLen_not _ (fun j hj => HN.out j (by omega))]
        rfl
      refine bodyPost_ret (v := .tuple #[.agg #[.int .i64 0, .string ⟨#[]⟩, .int .i64 0], .int .i64 0, .agg #[.int .i64 10, .int .i64 a, .string ⟨#[]⟩]]) (by simp [results, Tryd.results30, go_sem, x0, x1, x2, y0, y1, y2]) rfl ?_
      rw [hsp]
      exact .error 10 a 0 0 _ 0 rfl (by first | exact below_tok (below_drewN HB.out _) _ _ _ _ _ _ | exact below_drewN (below_tok HB.out _ _ _ _ _ _) _)

theorem refToken_any (s : ByteArray) (a : Nat) (w : World) (ha : a < s.size) (hlim : s.size ≤ 60000) (h59 : (s[a]'ha).toNat ≠ 59) :
    Calls Tryd.prog 30 #[.string s, .int .i64 a] w fun e w' => RefTok w w' e a (tokSpec s.data.toList a (s[a]'ha).toNat) := by
  rw [tokSpec, if_neg h59]
  by_cases h34 : (s[a]'ha).toNat = 34
  · rw [if_pos h34]
    exact refToken_text s a w ha hlim (by rw [h34]; decide) (by rw [h34]; decide) (by rw [h34]; rfl)
  · rw [if_neg h34]
    cases hl : letterN (s[a]'ha).toNat with
    | true => exact refToken_name s a w ha hlim hl
    | false =>
      rw [if_neg (by simp)]
      cases hd : digitN (s[a]'ha).toNat with
      | true => rw [if_pos rfl]; exact refToken_number s a w ha hlim hl hd
      | false => rw [if_neg (by simp)]; exact refToken_sign s a w ha hlim hl hd (beq_of_ne h34)
end Go.Proofs.YtnpiicceafgioaaDoor
