/-
  The walks of lex.sixteenth, lex.escapeByNumber and lex.escape, at every argument.
  Plain facts on a text's literal: what it says, and the place behind it, or what is wrong first.
-/
import Derived.Test.YthbnegggohegkaaGreatDoorEJ
import Derived.Deep.QuietTactic
import Derived.BigQuiet
namespace Go.Proofs.YthbnegggohegkaaGreatDoor
open Go.RowKit

def six (n : Nat) : Int := if 48 ≤ n ∧ n ≤ 57 then n - 48 else if 97 ≤ n ∧ n ≤ 102 then n - 87 else if 65 ≤ n ∧ n ≤ 70 then n - 55 else -1
theorem six_lt (n : Nat) : -1 ≤ six n ∧ six n ≤ 15 := by unfold six; split <;> (try split) <;> (try split) <;> omega

set_option maxHeartbeats 400000 in
theorem sixteenth_any (n : Nat) (w : World) (hn : n < 256) :
    Calls Tryz.prog 192 #[.int .u8 n] w fun e w' => e = .returned (.int .i64 (six n)) ∧ w' = w := by
  go_enter Tryz.func192, Tryz.ntmps192
  go_wp2
  all_goals go_ret
  all_goals refine ⟨congrArg (fun b => Ending.returned (.int .i64 b)) ?_, rfl⟩
  all_goals (unfold six; split <;> (try split) <;> (try split) <;> omega)

/-- The escape that stands there: its byte, and how many bytes it has; 0: it is none. -/
def esc (l : Bytes) : Nat × Nat :=
  if l.length < 2 then (0, 0) else
  if (l.getD 1 0).toNat = 110 then (10, 2) else
  if (l.getD 1 0).toNat = 116 then (9, 2) else
  if (l.getD 1 0).toNat = 92 ∨ (l.getD 1 0).toNat = 34 then ((l.getD 1 0).toNat, 2) else
  if (l.getD 1 0).toNat = 120 then
    if l.length < 4 then (0, 0) else
    if six (l.getD 2 0).toNat < 0 ∨ six (l.getD 3 0).toNat < 0 then (0, 0) else ((16 * six (l.getD 2 0).toNat + six (l.getD 3 0).toNat).toNat, 4)
  else (0, 0)

theorem getD_byte (s : ByteArray) (k : Nat) (h : k < s.size) : s.data.toList.getD k 0 = s[k]'h := by
  rw [List.getD_eq_getElem?_getD, List.getElem?_eq_getElem (by simpa using h)]; rfl

theorem two_digits (h o : Int) (h0 : 0 ≤ h) (h1 : h ≤ 15) (o0 : 0 ≤ o) (o1 : o ≤ 15) : bits BinOp.or IntKind.i64 (wrap64 (h * 16)) o % 256 = ((16 * h + o).toNat : Int) := by
  have key : ∀ a : Fin 16, ∀ b : Fin 16, bits BinOp.or IntKind.i64 (wrap64 ((a.val : Int) * 16)) (b.val : Int) % 256 = ((16 * (a.val : Int) + b.val).toNat : Int) := by decide +kernel
  have := key ⟨h.toNat, by omega⟩ ⟨o.toNat, by omega⟩
  simpa only [Int.toNat_of_nonneg h0, Int.toNat_of_nonneg o0] using this

set_option maxHeartbeats 1000000 in
theorem escNum_any (s : ByteArray) (w : World) (h4 : 4 ≤ s.size) :
    Calls Tryz.prog 191 #[.string s] w fun e w' => ∃ b n : Nat, e = .returned (.tuple #[.int .u8 b, .int .i64 n]) ∧
      Hid ((b, n) = if six (s.data.toList.getD 2 0).toNat < 0 ∨ six (s.data.toList.getD 3 0).toNat < 0 then (0, 0) else ((16 * six (s.data.toList.getD 2 0).toNat + six (s.data.toList.getD 3 0).toNat).toNat, 4)) ∧ Below w.heap.size w w' := by
  have h2 : (2 : Int) < (s.size : Int) := by omega
  have h3 : (3 : Int) < (s.size : Int) := by omega
  rw [getD_byte s 2 (by omega), getD_byte s 3 (by omega)]
  have l2 := (s[2]'(by omega)).toNat_lt
  have l3 := (s[3]'(by omega)).toNat_lt
  go_enter Tryz.func191, Tryz.ntmps191
  go_wp2_with fail
  go_quiet ((go_at_call 192; exact Calls.quiet_of_same (sixteenth_any _ _ (by omega))))
  go_wp2
  · go_ret2
    exact ⟨0, 0, rfl, ⟨rfl, rfl⟩, below_drewN (Below.refl _ _) _⟩
  · have hsx : 0 ≤ six (s[2]'(by omega)).toNat ∧ 0 ≤ six (s[3]'(by omega)).toNat := by assumption
    go_ret2
    exact ⟨_, 4, congrArg (fun x => Ending.returned (.tuple #[.int .u8 x, .int .i64 4])) (two_digits _ _ hsx.1 (six_lt _).2 hsx.2 (six_lt _).2), ⟨rfl, rfl⟩, below_drewN (Below.refl _ _) _⟩
  · go_ret2
    exact ⟨0, 0, rfl, ⟨rfl, rfl⟩, below_drewN (Below.refl _ _) _⟩

set_option maxHeartbeats 1000000 in
theorem escNum_short (s : ByteArray) (w : World) (h4 : s.size < 4) :
    Calls Tryz.prog 191 #[.string s] w fun e w' => e = .returned (.tuple #[.int .u8 0, .int .i64 0]) ∧ w' = w := by
  go_enter Tryz.func191, Tryz.ntmps191
  go_wp2
  go_ret2
  exact ⟨rfl, rfl⟩

theorem escNum_at (s : ByteArray) (w : World) :
    Calls Tryz.prog 191 #[.string s] w fun e w' => ∃ b n : Nat, e = .returned (.tuple #[.int .u8 b, .int .i64 n]) ∧
      Hid ((b, n) = if s.data.toList.length < 4 then (0, 0) else if six (s.data.toList.getD 2 0).toNat < 0 ∨ six (s.data.toList.getD 3 0).toNat < 0 then (0, 0) else ((16 * six (s.data.toList.getD 2 0).toNat + six (s.data.toList.getD 3 0).toNat).toNat, 4)) ∧ Below w.heap.size w w' := by
  by_cases h4 : s.size < 4
  · exact (escNum_short s w h4).mono fun _ _ ⟨he, hw⟩ => ⟨0, 0, he, by rw [if_pos (by simpa using h4)]; rfl, by subst hw; exact Below.refl _ _⟩
  · exact (escNum_any s w (by omega)).mono fun _ _ ⟨b, n, he, hx, hb⟩ => ⟨b, n, he, by rw [if_neg (by simpa using h4)]; exact hx, hb⟩

theorem esc_num (l : Bytes) (h2 : ¬ l.length < 2) (h : (l.getD 1 0).toNat = 120) : esc l = if l.length < 4 then (0, 0) else
    if six (l.getD 2 0).toNat < 0 ∨ six (l.getD 3 0).toNat < 0 then (0, 0) else ((16 * six (l.getD 2 0).toNat + six (l.getD 3 0).toNat).toNat, 4) := by
  unfold esc
  rw [if_neg h2, if_neg (by omega), if_neg (by omega), if_neg (by omega), if_pos h]
theorem esc_lt (l : Bytes) : (esc l).1 < 256 := by
  unfold esc
  have := (l.getD 1 0).toNat_lt
  have h2 := six_lt (l.getD 2 0).toNat
  have h3 := six_lt (l.getD 3 0).toNat
  repeat' split
  all_goals first | decide | (simp only; omega)

theorem esc_of (l : Bytes) (c : Nat) (h2 : ¬ l.length < 2) (hc : (l.getD 1 0).toNat = c) : esc l = if c = 110 then (10, 2) else if c = 116 then (9, 2) else if c = 92 ∨ c = 34 then (c, 2) else if c = 120 then
    (if l.length < 4 then (0, 0) else if six (l.getD 2 0).toNat < 0 ∨ six (l.getD 3 0).toNat < 0 then (0, 0) else ((16 * six (l.getD 2 0).toNat + six (l.getD 3 0).toNat).toNat, 4)) else (0, 0) := by
  subst hc
  unfold esc
  rw [if_neg h2]

theorem nat_of_beq {c : Nat} {k : Nat} (h : ((c : Int) == (k : Int)) = true) : c = k := by simp at h; omega
theorem nat_of_bne {c : Nat} {k : Nat} (h : ((c : Int) == (k : Int)) = false) : ¬ c = k := by simp at h; omega

set_option maxHeartbeats 1000000 in
theorem escape_any (s : ByteArray) (w : World) :
    Calls Tryz.prog 190 #[.string s] w fun e w' => ∃ b n : Nat, e = .returned (.tuple #[.int .u8 b, .int .i64 n]) ∧ Hid ((b, n) = esc s.data.toList) ∧ Below w.heap.size w w' := by
  by_cases h2 : s.size < 2
  · have HE : Hid (esc s.data.toList = (0, 0)) := by unfold esc; rw [if_pos (by simpa using h2)]; rfl
    go_enter Tryz.func190, Tryz.ntmps190
    go_wp2
    go_ret2
    exact ⟨0, 0, rfl, HE.out.symm, Below.refl _ _⟩
  · have h2' : (1 : Int) < (s.size : Int) := by omega
    have hl : ¬ s.data.toList.length < 2 := by simpa using h2
    have hg := getD_byte s 1 (by omega)
    have HL : Hid (¬ s.data.toList.length < 2) := hl
    have HG : Hid (s.data.toList.getD 1 0 = s[1]'(by omega)) := hg
    have hlt := (s[1]'(by omega)).toNat_lt
    clear hl hg
    go_enter Tryz.func190, Tryz.ntmps190
    go_wp2_with (go_at_call 191; refine (escNum_at _ _).mono ?_; rintro r w1 ⟨b, n, rfl, hx, hb⟩)
    · have q := (nat_of_beq (c := (s[1]'(by omega)).toNat) (k := 110) (by assumption))
      go_ret2
      exact ⟨10, 2, rfl, show _ = _ by rw [esc_of _ _ HL.out (congrArg UInt8.toNat HG.out), if_pos q], Below.refl _ _⟩
    · have q1 := (nat_of_bne (c := (s[1]'(by omega)).toNat) (k := 110) (by assumption))
      have q2 := (nat_of_beq (c := (s[1]'(by omega)).toNat) (k := 116) (by assumption))
      go_ret2
      exact ⟨9, 2, rfl, show _ = _ by rw [esc_of _ _ HL.out (congrArg UInt8.toNat HG.out), if_neg q1, if_pos q2], Below.refl _ _⟩
    · have q1 := (nat_of_bne (c := (s[1]'(by omega)).toNat) (k := 110) (by assumption))
      have q2 := (nat_of_bne (c := (s[1]'(by omega)).toNat) (k := 116) (by assumption))
      have q3 := (nat_of_beq (c := (s[1]'(by omega)).toNat) (k := 92) (by assumption))
      go_ret2
      exact ⟨_, 2, rfl, show _ = _ by rw [esc_of _ _ HL.out (congrArg UInt8.toNat HG.out), if_neg q1, if_neg q2, if_pos (Or.inl q3)], Below.refl _ _⟩
    · have q1 := (nat_of_bne (c := (s[1]'(by omega)).toNat) (k := 110) (by assumption))
      have q2 := (nat_of_bne (c := (s[1]'(by omega)).toNat) (k := 116) (by assumption))
      have q3 := (nat_of_beq (c := (s[1]'(by omega)).toNat) (k := 34) (by assumption))
      go_ret2
      exact ⟨_, 2, rfl, show _ = _ by rw [esc_of _ _ HL.out (congrArg UInt8.toNat HG.out), if_neg q1, if_neg q2, if_pos (Or.inr q3)], Below.refl _ _⟩
    · have q3 := (nat_of_beq (c := (s[1]'(by omega)).toNat) (k := 120) (by assumption))
      go_ret2
      exact ⟨b, n, rfl, hx.out.trans (esc_num _ HL.out ((congrArg UInt8.toNat HG.out).trans q3)).symm, hb⟩
    · have q1 := (nat_of_bne (c := (s[1]'(by omega)).toNat) (k := 110) (by assumption))
      have q2 := (nat_of_bne (c := (s[1]'(by omega)).toNat) (k := 116) (by assumption))
      have q3 := (nat_of_bne (c := (s[1]'(by omega)).toNat) (k := 92) (by assumption))
      have q4 := (nat_of_bne (c := (s[1]'(by omega)).toNat) (k := 34) (by assumption))
      have q5 := (nat_of_bne (c := (s[1]'(by omega)).toNat) (k := 120) (by assumption))
      go_ret2
      exact ⟨0, 0, rfl, show _ = _ by rw [esc_of _ _ HL.out (congrArg UInt8.toNat HG.out), if_neg q1, if_neg q2, if_neg (fun h => h.elim q3 q4), if_neg q5], Below.refl _ _⟩
end Go.Proofs.YthbnegggohegkaaGreatDoor
namespace Go.Proofs.YthbnegggohegkaaGreatDoor
open Go.RowKit

def litGo (l : Bytes) (src : Nat) : Nat → Nat → Bytes → Except (Nat × Nat) (Bytes × Nat)
  | 0, _, _ => .error (11, src)
  | f + 1, k, acc =>
    if k < l.length then
      if (l.getD k 0).toNat = 10 then .error (11, src)
      else if (l.getD k 0).toNat = 34 then .ok (acc, k + 1)
      else if (l.getD k 0).toNat = 92 then
        if (esc (l.drop k)).2 = 0 then .error (11, k) else litGo l src f (k + (esc (l.drop k)).2) (acc ++ [UInt8.ofNat (esc (l.drop k)).1])
      else litGo l src f (k + 1) (acc ++ [l.getD k 0])
    else .error (11, src)

/-- The literal that began at src, read on from k; acc: what it has said so far. -/
def lit (l : Bytes) (src k : Nat) (acc : Bytes) : Except (Nat × Nat) (Bytes × Nat) := litGo l src (l.length + 1) k acc

theorem litGo_fuel (l : Bytes) (src : Nat) : ∀ (f g k : Nat) (acc : Bytes), l.length < k + f → l.length < k + g → litGo l src f k acc = litGo l src g k acc := by
  intro f
  induction f with
  | zero =>
    intro g k acc hf hg
    cases g with
    | zero => rfl
    | succ g => simp only [litGo]; rw [if_neg (by omega)]
  | succ f ih =>
    intro g k acc hf hg
    cases g with
    | zero => simp only [litGo]; rw [if_neg (by omega)]
    | succ g =>
      simp only [litGo]
      by_cases hk : k < l.length
      · rw [if_pos hk, if_pos hk]
        by_cases h1 : (l.getD k 0).toNat = 10
        · rw [if_pos h1, if_pos h1]
        rw [if_neg h1, if_neg h1]
        by_cases h2 : (l.getD k 0).toNat = 34
        · rw [if_pos h2, if_pos h2]
        rw [if_neg h2, if_neg h2]
        by_cases h3 : (l.getD k 0).toNat = 92
        · rw [if_pos h3, if_pos h3]
          by_cases h4 : (esc (l.drop k)).2 = 0
          · rw [if_pos h4, if_pos h4]
          rw [if_neg h4, if_neg h4]
          exact ih _ _ _ (by omega) (by omega)
        · rw [if_neg h3, if_neg h3]
          exact ih _ _ _ (by omega) (by omega)
      · rw [if_neg hk, if_neg hk]

theorem lit_end (l : Bytes) (src k : Nat) (acc : Bytes) (h : ¬ k < l.length) : lit l src k acc = .error (11, src) := by
  rw [lit, litGo, if_neg h]
theorem lit_feed (l : Bytes) (src k : Nat) (acc : Bytes) (h : k < l.length) (h1 : (l.getD k 0).toNat = 10) : lit l src k acc = .error (11, src) := by
  rw [lit, litGo, if_pos h, if_pos h1]
theorem lit_quote (l : Bytes) (src k : Nat) (acc : Bytes) (h : k < l.length) (h1 : (l.getD k 0).toNat = 34) : lit l src k acc = .ok (acc, k + 1) := by
  rw [lit, litGo, if_pos h, if_neg (by omega), if_pos h1]
theorem lit_none (l : Bytes) (src k : Nat) (acc : Bytes) (h : k < l.length) (h1 : (l.getD k 0).toNat = 92) (h2 : (esc (l.drop k)).2 = 0) : lit l src k acc = .error (11, k) := by
  rw [lit, litGo, if_pos h, if_neg (by omega), if_neg (by omega), if_pos h1, if_pos h2]
theorem lit_esc (l : Bytes) (src k b n : Nat) (acc : Bytes) (h : k < l.length) (h1 : (l.getD k 0).toNat = 92) (he : (b, n) = esc (l.drop k)) (h2 : n ≠ 0) : lit l src k acc = lit l src (k + n) (acc ++ [UInt8.ofNat b]) := by
  rw [lit, litGo, if_pos h, if_neg (by omega), if_neg (by omega), if_pos h1, ← he, if_neg h2]
  exact litGo_fuel _ _ _ _ _ _ (by omega) (by omega)
theorem lit_plain (l : Bytes) (src k : Nat) (acc : Bytes) (h : k < l.length) (h1 : (l.getD k 0).toNat ≠ 10) (h2 : (l.getD k 0).toNat ≠ 34) (h3 : (l.getD k 0).toNat ≠ 92) : lit l src k acc = lit l src (k + 1) (acc ++ [l.getD k 0]) := by
  rw [lit, litGo, if_pos h, if_neg h1, if_neg h2, if_neg h3]
  exact litGo_fuel _ _ _ _ _ _ (by omega) (by omega)

/-- A run of plain bytes. -/
theorem lit_run (l : Bytes) (src : Nat) : ∀ (d k : Nat) (acc : Bytes), k + d ≤ l.length → (∀ j, k ≤ j → j < k + d → (l.getD j 0).toNat ≠ 10 ∧ (l.getD j 0).toNat ≠ 34 ∧ (l.getD j 0).toNat ≠ 92) →
    lit l src k acc = lit l src (k + d) (acc ++ (l.drop k).take d) := by
  intro d
  induction d with
  | zero => intro k acc _ _; simp
  | succ d ih =>
    intro k acc hk hp
    obtain ⟨h1, h2, h3⟩ := hp k (Nat.le_refl _) (by omega)
    rw [lit_plain l src k acc (by omega) h1 h2 h3, ih (k + 1) _ (by omega) (fun j hj hj2 => hp j (by omega) (by omega))]
    have e : (l.drop k).take (d + 1) = l.getD k 0 :: (l.drop (k + 1)).take d := by
      rw [List.drop_eq_getElem_cons (show k < l.length by omega), List.take_succ_cons, List.getD_eq_getElem?_getD, List.getElem?_eq_getElem (show k < l.length by omega)]
      rfl
    rw [e, List.append_assoc]
    congr 1
    omega

theorem esc_fits (l : Bytes) : (esc l).2 ≤ l.length := by
  unfold esc
  repeat' split
  all_goals first | (simp; done) | (simp only; omega)

/-- The bytes of an escape are all below 128. -/
theorem esc_ascii (l : Bytes) (h0 : (l.getD 0 0).toNat = 92) (j : Nat) (hj : j < (esc l).2) : (l.getD j 0).toNat < 128 := by
  have s2 : 0 ≤ six (l.getD 2 0).toNat → (l.getD 2 0).toNat < 128 := by unfold six; repeat' split <;> omega
  have s3 : 0 ≤ six (l.getD 3 0).toNat → (l.getD 3 0).toNat < 128 := by unfold six; repeat' split <;> omega
  unfold esc at hj
  repeat' split at hj
  all_goals (
    simp only at hj
    first
      | omega
      | (have : j = 0 ∨ j = 1 := by omega
         rcases this with rfl | rfl <;> omega)
      | (have : j = 0 ∨ j = 1 ∨ j = 2 ∨ j = 3 := by omega
         rcases this with rfl | rfl | rfl | rfl
         · omega
         · omega
         · exact s2 (by omega)
         · exact s3 (by omega)))
end Go.Proofs.YthbnegggohegkaaGreatDoor
