/-
  Plain facts: the literal of any bytes is read as these bytes; it is one token; its bytes are 32 to 126.
-/
import Derived.Test.YtnpiicceafgioaaDoorN
namespace Go.Proofs.YtnpiicceafgioaaDoor
open Go.RowKit

theorem six_hex (n : Nat) (h : n < 16) : six (hexD n).toNat = n := by
  have : ∀ n : Fin 16, six (hexD n.val).toNat = n.val := by decide
  exact this ⟨n, h⟩

theorem ofNat_toNat (b : UInt8) : UInt8.ofNat b.toNat = b := by simp

theorem drop_getD (l r : Bytes) (k j : Nat) (h : l.drop k = r) : l.getD (k + j) 0 = r.getD j 0 := by
  rw [← h, getD_drop]

theorem drop_lt (l r : Bytes) (k : Nat) (h : l.drop k = r) (hr : 0 < r.length) : k < l.length := by
  have := congrArg List.length h
  simp at this
  omega

/-- One byte of a literal. -/
theorem lit_byte (l : Bytes) (src k : Nat) (acc : Bytes) (b : UInt8) (rest : Bytes) (h : l.drop k = quoteB b ++ rest) :
    lit l src k acc = lit l src (k + (quoteB b).length) (acc ++ [b]) := by
  have hb := b.toNat_lt
  by_cases h1 : b.toNat = 34 ∨ b.toNat = 92
  · have hq : quoteB b = [92, b] := by unfold quoteB; rw [if_pos h1]
    rw [hq] at h ⊢
    have hk := drop_lt l _ k h (by simp)
    have h0 : (l.getD k 0).toNat = 92 := by
      have := drop_getD l _ k 0 h
      rw [Nat.add_zero] at this
      rw [this]; rfl
    have he : (b.toNat, 2) = esc (l.drop k) := by
      rw [h, esc_of _ b.toNat (by simp) rfl, if_neg (by omega), if_neg (by omega), if_pos (by omega)]
    rw [lit_esc l src k b.toNat 2 acc hk h0 he (by decide), ofNat_toNat]
    rfl
  by_cases h2 : b.toNat = 10
  · have hq : quoteB b = [92, 110] := by unfold quoteB; rw [if_neg h1, if_pos h2]
    rw [hq] at h ⊢
    have hk := drop_lt l _ k h (by simp)
    have h0 : (l.getD k 0).toNat = 92 := by
      have := drop_getD l _ k 0 h
      rw [Nat.add_zero] at this
      rw [this]; rfl
    have he : (10, 2) = esc (l.drop k) := by
      rw [h, esc_of _ 110 (by simp) rfl, if_pos rfl]
    have hbb : b = UInt8.ofNat 10 := UInt8.toNat_inj.1 (by rw [h2]; rfl)
    rw [lit_esc l src k 10 2 acc hk h0 he (by decide), ← hbb]
    rfl
  by_cases h3 : b.toNat = 9
  · have hq : quoteB b = [92, 116] := by unfold quoteB; rw [if_neg h1, if_neg h2, if_pos h3]
    rw [hq] at h ⊢
    have hk := drop_lt l _ k h (by simp)
    have h0 : (l.getD k 0).toNat = 92 := by
      have := drop_getD l _ k 0 h
      rw [Nat.add_zero] at this
      rw [this]; rfl
    have he : (9, 2) = esc (l.drop k) := by
      rw [h, esc_of _ 116 (by simp) rfl, if_neg (by decide), if_pos rfl]
    have hbb : b = UInt8.ofNat 9 := UInt8.toNat_inj.1 (by rw [h3]; rfl)
    rw [lit_esc l src k 9 2 acc hk h0 he (by decide), ← hbb]
    rfl
  by_cases h4 : b.toNat < 32 ∨ 126 < b.toNat
  · have hq : quoteB b = [92, 120, hexD (b.toNat / 16), hexD (b.toNat % 16)] := by unfold quoteB; rw [if_neg h1, if_neg h2, if_neg h3, if_pos h4]
    rw [hq] at h ⊢
    have hk := drop_lt l _ k h (by simp)
    have h0 : (l.getD k 0).toNat = 92 := by
      have := drop_getD l _ k 0 h
      rw [Nat.add_zero] at this
      rw [this]; rfl
    have g2 : (l.drop k).getD 2 0 = hexD (b.toNat / 16) := by rw [h]; rfl
    have g3 : (l.drop k).getD 3 0 = hexD (b.toNat % 16) := by rw [h]; rfl
    have e2 := six_hex (b.toNat / 16) (by omega)
    have e3 := six_hex (b.toNat % 16) (by omega)
    have he : (b.toNat, 4) = esc (l.drop k) := by
      rw [esc_num _ (by rw [h]; simp) (by rw [h]; rfl), if_neg (by rw [h]; simp), g2, g3, e2, e3, if_neg (by omega)]
      have : (16 * ((b.toNat / 16 : Nat) : Int) + ((b.toNat % 16 : Nat) : Int)).toNat = b.toNat := by omega
      rw [this]
    rw [lit_esc l src k b.toNat 4 acc hk h0 he (by decide), ofNat_toNat]
    rfl
  · have hq : quoteB b = [b] := by unfold quoteB; rw [if_neg h1, if_neg h2, if_neg h3, if_neg h4]
    rw [hq] at h ⊢
    have hk := drop_lt l _ k h (by simp)
    have h0 : l.getD k 0 = b := by
      have := drop_getD l _ k 0 h
      rw [Nat.add_zero] at this
      rw [this]; rfl
    rw [lit_plain l src k acc hk (by rw [h0]; exact h2) (by rw [h0]; omega) (by rw [h0]; omega), h0]
    rfl

theorem lit_quoted (l : Bytes) (src : Nat) : ∀ (m : Bytes) (k : Nat) (acc rest : Bytes), l.drop k = m.flatMap quoteB ++ 34 :: rest → lit l src k acc = .ok (acc ++ m, k + (m.flatMap quoteB).length + 1) := by
  intro m
  induction m with
  | nil =>
    intro k acc rest h
    have h' : l.drop k = 34 :: rest := by simpa using h
    have hk := drop_lt l _ k h' (by simp)
    have h0 : (l.getD k 0).toNat = 34 := by
      have := drop_getD l _ k 0 h'
      rw [Nat.add_zero] at this
      rw [this]; rfl
    rw [lit_quote l src k acc hk h0]
    simp
  | cons b m ih =>
    intro k acc rest h
    rw [List.flatMap_cons, List.append_assoc] at h
    rw [lit_byte l src k acc b _ h]
    have h2 : l.drop (k + (quoteB b).length) = m.flatMap quoteB ++ 34 :: rest := by
      rw [← List.drop_drop, h, List.drop_left]
    rw [ih _ _ rest h2, List.flatMap_cons, List.length_append, List.append_assoc]
    simp [Nat.add_assoc]

theorem quoteL_len (m : Bytes) : (quoteL m).length = (m.flatMap quoteB).length + 2 := by simp [quoteL]

theorem lit_quoteL (m rest : Bytes) : lit (quoteL m ++ rest) 0 1 [] = .ok (m, (quoteL m).length) := by
  rw [lit_quoted (quoteL m ++ rest) 0 m 1 [] rest (by simp [quoteL]), quoteL_len]
  simp
  omega

theorem unq_back (m : Bytes) (hm : m.length ≤ 65536) : unqSpec (quoteL m) = .ok m := by
  have h := lit_quoteL m []
  rw [List.append_nil] at h
  unfold unqSpec
  rw [if_pos (by simp [quoteL]), h]
  simp only
  rw [if_neg (by omega), if_neg (by omega)]

theorem unq_behind (m rest : Bytes) (hr : rest ≠ []) : unqSpec (quoteL m ++ rest) = .error (11, (quoteL m).length) := by
  have hpos : 0 < rest.length := List.length_pos_iff.2 hr
  unfold unqSpec
  rw [if_pos (by simp [quoteL]), lit_quoteL m rest]
  simp only
  rw [if_pos (by rw [List.length_append]; omega)]

theorem scan_back (m : Bytes) (h : (quoteL m).length ≤ 60000) : scanSpec (quoteL m) = .ok [(6, m, 0), (1, [], (quoteL m).length)] := by
  have hl := lit_quoteL m []
  rw [List.append_nil] at hl
  have hpos : 0 < (quoteL m).length := by rw [quoteL_len]; omega
  have hc : ((quoteL m).getD 0 0).toNat = 34 := rfl
  unfold scanSpec
  rw [if_neg (by omega), scan_tok (quoteL m) 0 6 (quoteL m).length m [] hpos (by rw [hc]; decide) (by rw [hc]; decide) (by simp [quoteL, List.isPrefixOf]) (by
    rw [hc, tokSpec, if_neg (by decide), if_pos rfl, textSpec, hl]), scan_end _ _ _ (by omega)]
  rfl

theorem hexD_ok (n : Nat) (h : n < 16) : 32 ≤ (hexD n).toNat ∧ (hexD n).toNat ≤ 126 := by
  have : ∀ n : Fin 16, 32 ≤ (hexD n.val).toNat ∧ (hexD n.val).toNat ≤ 126 := by decide
  exact this ⟨n, h⟩
theorem quoteB_ok (b c : UInt8) (h : c ∈ quoteB b) : 32 ≤ c.toNat ∧ c.toNat ≤ 126 := by
  have hb := b.toNat_lt
  have x1 := hexD_ok (b.toNat / 16) (by omega)
  have x2 := hexD_ok (b.toNat % 16) (by omega)
  unfold quoteB at h
  repeat' split at h
  all_goals simp at h
  · rcases h with rfl | rfl
    · decide
    · omega
  · rcases h with rfl | rfl <;> decide
  · rcases h with rfl | rfl <;> decide
  · rcases h with rfl | rfl | rfl | rfl
    · decide
    · decide
    · exact x1
    · exact x2
  · subst h; omega
theorem quoteL_ok (m : Bytes) (c : UInt8) (h : c ∈ quoteL m) : 32 ≤ c.toNat ∧ c.toNat ≤ 126 := by
  simp only [quoteL, List.mem_cons, List.mem_append, List.mem_flatMap, List.not_mem_nil, or_false] at h
  rcases h with rfl | ⟨b, _, hb⟩ | rfl
  · decide
  · exact quoteB_ok b c hb
  · decide
end Go.Proofs.YtnpiicceafgioaaDoor
