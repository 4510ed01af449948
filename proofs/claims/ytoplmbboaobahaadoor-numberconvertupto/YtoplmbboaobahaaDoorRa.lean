/-
  The walks of digits, plain and Int at any text, and of the second Int.
-/
import Derived.Test.YtoplmbboaobahaaDoorV
namespace Go.Proofs.YtoplmbboaobahaaDoor
open Go.RowKit

attribute [local go_sem] refold2 cell3_0 cell3_1 b28_0 b28_01 b28_012 b28_013 b28_014 b35_01 b35_0 b35 mkI69

/-- Something stands there, and no 0 ahead of more. -/
def plainB : List UInt8 → Bool
  | [] => false
  | [_] => true
  | c :: _ => c != 48

set_option maxRecDepth 100000 in
set_option maxHeartbeats 1000000 in
theorem digits_long (s : ByteArray) (w : World) (hs : 19 < s.size) : Calls Tryd.prog 59 #[.string s] w fun r w' => r = .returned (.tuple #[.int .u64 0, .bool false]) ∧ w' = w := by
  have h : (19 : Int) < s.size := by omega
  clear hs
  go_enter Tryd.func59, Tryd.ntmps59
  go_wp2
  refine bodyPost_ret (v := .tuple #[.int .u64 0, .bool false]) (by simp [results, Tryd.results59, go_sem]) rfl ⟨rfl, rfl⟩

set_option maxRecDepth 100000 in
set_option maxHeartbeats 1000000 in
theorem plain_any (s : ByteArray) (w : World) : Calls Tryd.prog 60 #[.string s] w fun r w' => r = .returned (.bool (plainB s.data.toList)) ∧ w' = w := by
  obtain ⟨⟨l⟩⟩ := s
  match l with
  | [] =>
    go_enter Tryd.func60, Tryd.ntmps60
    go_wp2
    go_ret
    exact ⟨rfl, rfl⟩
  | c :: r =>
    by_cases h0 : c :: r = [48]
    · rw [h0]
      go_enter Tryd.func60, Tryd.ntmps60
      go_wp2
      go_ret
      exact ⟨rfl, rfl⟩
    · have hsz : 0 < (⟨(c :: r).toArray⟩ : ByteArray).size := by simp [ByteArray.size]
      have hne : (⟨(c :: r).toArray⟩ : ByteArray).toList.isEmpty = false := by rw [ByteArray.toList_eq]; rfl
      have hl : (⟨(c :: r).toArray⟩ : ByteArray).toList = c :: r := by rw [ByteArray.toList_eq]
      have hne2 : ((c :: r) == [48]) = false := by
        cases h : ((c :: r) == [48]) with
        | false => rfl
        | true => exact absurd (eq_of_beq h) h0
      have hget : ∀ h, ((⟨(c :: r).toArray⟩ : ByteArray)[0]'h).toNat = c.toNat := fun _ => rfl
      by_cases h3 : c.toNat = 48
      · have hv : plainB (⟨(c :: r).toArray⟩ : ByteArray).data.toList = false := by
          show plainB (c :: r) = false
          have hc : c = 48 := UInt8.toNat_inj.mp h3
          cases r with
          | nil => rw [hc] at h0; exact absurd rfl h0
          | cons x xs => rw [hc]; rfl
        rw [hv]
        have h4 : ((c.toNat : Int) != 48) = false := by simp; omega
        have h5 : (c.toNat : Int) = 48 := by omega
        clear hv h3 h0
        generalize (⟨(c :: r).toArray⟩ : ByteArray) = s at hsz hne hl hget
        go_enter Tryd.func60, Tryd.ntmps60
        go_wp2
        go_ret
        exact ⟨rfl, rfl⟩
      · have hv : plainB (⟨(c :: r).toArray⟩ : ByteArray).data.toList = true := by
          show plainB (c :: r) = true
          have hc : c ≠ 48 := fun e => h3 (by rw [e]; rfl)
          cases r with
          | nil => rfl
          | cons x xs => show (c != 48) = true; simpa using hc
        rw [hv]
        have h4 : ((c.toNat : Int) != 48) = true := by simp; omega
        clear hv h0
        generalize (⟨(c :: r).toArray⟩ : ByteArray) = s at hsz hne hl hget
        go_enter Tryd.func60, Tryd.ntmps60
        go_wp2
        go_ret
        exact ⟨rfl, rfl⟩

/-- What stands in a literal of an int. -/
def intLit (l : List UInt8) : Option Nat := if l.length ≤ 19 ∧ digB l = true ∧ plainB l = true ∧ digN l ≤ 9223372036854775807 then some (digN l) else none

/-- An int, or nothing, as Int answers it. -/
def litI : Option Nat → Value
  | some n => .tuple #[.agg #[.int .i64 2, .string ⟨#[105, 110, 116]⟩, .int .i64 n, .int .u64 0, .string ⟨#[]⟩, .int .i64 0, .int .i64 0, .int .i64 0, .int .i64 0, .slice none 0 0, .slice none 0 0], .bool true]
  | none => .tuple #[.agg #[.int .i64 0, .string ⟨#[]⟩, .int .i64 0, .int .u64 0, .string ⟨#[]⟩, .int .i64 0, .int .i64 0, .int .i64 0, .int .i64 0, .slice none 0 0, .slice none 0 0], .bool false]

set_option maxRecDepth 100000 in
set_option maxHeartbeats 1000000 in
theorem int_good (s : ByteArray) (u : Nat) (w : World) (hu : u ≤ 9223372036854775807)
    (HD : Hid (∀ W, Calls Tryd.prog 59 #[.string s] W fun r w' => r = .returned (.tuple #[.int .u64 u, .bool true]) ∧ w' = W))
    (HP : Hid (∀ W, Calls Tryd.prog 60 #[.string s] W fun r w' => r = .returned (.bool true) ∧ w' = W)) :
    Calls Tryd.prog 22 #[.string s] w fun r w' => r = .returned (.tuple #[.agg #[.int .i64 2, .string ⟨#[105, 110, 116]⟩, .int .i64 u, .int .u64 0, .string ⟨#[]⟩, .int .i64 0, .int .i64 0, .int .i64 0, .int .i64 0, .slice none 0 0, .slice none 0 0], .bool true]) ∧ Below w.heap.size w w' := by
  have h1 : ¬ (9223372036854775807 : Int) < u := by omega
  go_enter Tryd.func22, Tryd.ntmps22
  go_wp2_with (first
    | (go_at_call 59; refine (HD.out _).mono ?_; rintro r w' ⟨rfl, rfl⟩)
    | (go_at_call 60; refine (HP.out _).mono ?_; rintro r w' ⟨rfl, rfl⟩)
    | (go_at_call 35; refine (intOf_any _ _ _ (by decide)).mono ?_; simp only [dat, D]; rintro r w' ⟨rfl, hb⟩; obtain ⟨hc, hf⟩ := bcell hb; have hz : w.heap.size < w'.heap.size := by (have := hb.size; simp at this; omega)))
  refine bodyPost_ret (v := .tuple #[.agg #[.int .i64 2, .string ⟨#[105, 110, 116]⟩, .int .i64 u, .int .u64 0, .string ⟨#[]⟩, .int .i64 0, .int .i64 0, .int .i64 0, .int .i64 0, .slice none 0 0, .slice none 0 0], .bool true]) (by simp [results, Tryd.results22, go_sem, hc]) rfl ⟨rfl, ?_⟩
  exact bset ((below1 w _).trans (hb.mono (by simp))) (Nat.le_refl _) _ _ _ _ _ _ _ _ _ _ _

set_option maxRecDepth 100000 in
set_option maxHeartbeats 1000000 in
theorem int_bad (s : ByteArray) (u : Nat) (b p : Bool) (w : World) (hu : b = false ∨ p = false ∨ 9223372036854775807 < u)
    (HD : Hid (∀ W, Calls Tryd.prog 59 #[.string s] W fun r w' => r = .returned (.tuple #[.int .u64 u, .bool b]) ∧ w' = W))
    (HP : Hid (∀ W, Calls Tryd.prog 60 #[.string s] W fun r w' => r = .returned (.bool p) ∧ w' = W)) :
    Calls Tryd.prog 22 #[.string s] w fun r w' => r = .returned (.tuple #[.agg #[.int .i64 0, .string ⟨#[]⟩, .int .i64 0, .int .u64 0, .string ⟨#[]⟩, .int .i64 0, .int .i64 0, .int .i64 0, .int .i64 0, .slice none 0 0, .slice none 0 0], .bool false]) ∧ Below w.heap.size w w' := by
  cases b with
  | false =>
    clear hu HP
    go_enter Tryd.func22, Tryd.ntmps22
    go_wp2_with (go_at_call 59; refine (HD.out _).mono ?_; rintro r w' ⟨rfl, rfl⟩)
    refine bodyPost_ret (v := .tuple #[.agg #[.int .i64 0, .string ⟨#[]⟩, .int .i64 0, .int .u64 0, .string ⟨#[]⟩, .int .i64 0, .int .i64 0, .int .i64 0, .int .i64 0, .slice none 0 0, .slice none 0 0], .bool false]) (by simp [results, Tryd.results22, go_sem]) rfl ⟨rfl, ?_⟩
    exact below1 w _
  | true =>
    cases p with
    | false =>
      clear hu
      go_enter Tryd.func22, Tryd.ntmps22
      go_wp2_with (first
        | (go_at_call 59; refine (HD.out _).mono ?_; rintro r w' ⟨rfl, rfl⟩)
        | (go_at_call 60; refine (HP.out _).mono ?_; rintro r w' ⟨rfl, rfl⟩))
      refine bodyPost_ret (v := .tuple #[.agg #[.int .i64 0, .string ⟨#[]⟩, .int .i64 0, .int .u64 0, .string ⟨#[]⟩, .int .i64 0, .int .i64 0, .int .i64 0, .int .i64 0, .slice none 0 0, .slice none 0 0], .bool false]) (by simp [results, Tryd.results22, go_sem]) rfl ⟨rfl, ?_⟩
      exact below1 w _
    | true =>
      have h1 : (9223372036854775807 : Int) < u := by
        rcases hu with h | h | h
        · cases h
        · cases h
        · omega
      clear hu
      go_enter Tryd.func22, Tryd.ntmps22
      go_wp2_with (first
        | (go_at_call 59; refine (HD.out _).mono ?_; rintro r w' ⟨rfl, rfl⟩)
        | (go_at_call 60; refine (HP.out _).mono ?_; rintro r w' ⟨rfl, rfl⟩))
      refine bodyPost_ret (v := .tuple #[.agg #[.int .i64 0, .string ⟨#[]⟩, .int .i64 0, .int .u64 0, .string ⟨#[]⟩, .int .i64 0, .int .i64 0, .int .i64 0, .int .i64 0, .slice none 0 0, .slice none 0 0], .bool false]) (by simp [results, Tryd.results22, go_sem]) rfl ⟨rfl, ?_⟩
      exact below1 w _

theorem int_any (s : ByteArray) (w : World) : Calls Tryd.prog 22 #[.string s] w fun r w' => r = .returned (litI (intLit s.data.toList)) ∧ Below w.heap.size w w' := by
  have hlen : s.data.toList.length = s.size := by rw [Array.length_toList]; rfl
  by_cases hs : s.size ≤ 19
  · by_cases h : digB s.data.toList = true ∧ plainB s.data.toList = true ∧ digN s.data.toList ≤ 9223372036854775807
    · obtain ⟨h1, h2, h3⟩ := h
      have e : intLit s.data.toList = some (digN s.data.toList) := by unfold intLit; rw [if_pos ⟨by omega, h1, h2, h3⟩]
      rw [e]
      exact int_good s _ w h3 (fun W => by have := digits_any s W hs; rw [h1] at this; exact this) (fun W => by have := plain_any s W; rw [h2] at this; exact this)
    · have e : intLit s.data.toList = none := by unfold intLit; rw [if_neg (fun hh => h hh.2)]
      rw [e]
      refine int_bad s _ _ _ w ?_ (fun W => digits_any s W hs) (fun W => plain_any s W)
      cases hb : digB s.data.toList with
      | false => exact .inl rfl
      | true =>
        cases hp : plainB s.data.toList with
        | false => exact .inr (.inl rfl)
        | true => exact .inr (.inr (Nat.lt_of_not_le fun h3 => h ⟨hb, hp, h3⟩))
  · have e : intLit s.data.toList = none := by unfold intLit; rw [if_neg (fun hh => hs (by omega))]
    rw [e]
    exact int_bad s 0 false _ w (.inl rfl) (fun W => digits_long s W (by omega)) (fun W => plain_any s W)

/-- The second Int's loop. -/
def rdig : List UInt8 → Nat → Option Nat
  | [], n => some n
  | c :: cs, n => if 48 ≤ c.toNat ∧ c.toNat ≤ 57 then (if n ≤ (9223372036854775807 - (c.toNat - 48)) / 10 then rdig cs (n * 10 + (c.toNat - 48)) else none) else none

theorem dig_mono : ∀ (l : List UInt8) (n r : Nat), dig l n = some r → n ≤ r
  | [], n, r, h => by simp only [dig, Option.some.injEq] at h; omega
  | c :: cs, n, r, h => by
    unfold dig at h
    split at h
    · have := dig_mono cs _ r h; omega
    · cases h

theorem rdig_dig : ∀ (l : List UInt8) (n : Nat), rdig l n = if 9223372036854775807 < n then rdig l n else (dig l n).bind fun r => if r ≤ 9223372036854775807 then some r else none
  | [], n => by
    split
    · rfl
    · rename_i h
      show some n = (some n).bind _
      rw [Option.bind_some, if_pos (by omega)]
  | c :: cs, n => by
    split
    · rfl
    · rename_i h
      unfold rdig dig
      split
      · rename_i hc
        split
        · rename_i hn
          rw [rdig_dig cs, if_neg (by omega)]
        · rename_i hn
          cases hd : dig cs (n * 10 + (c.toNat - 48)) with
          | none => rfl
          | some r =>
            have := dig_mono _ _ _ hd
            rw [Option.bind_some, if_neg (by omega)]
      · rfl

/-- What the second Int answers. -/
def rInt (l : List UInt8) : Option Nat := if l.length < 1 ∨ 19 < l.length ∨ plainB l = false then none else rdig l 0

theorem rInt_eq (l : List UInt8) : rInt l = intLit l := by
  unfold rInt intLit
  by_cases h1 : l.length < 1
  · have : l = [] := by cases l with
      | nil => rfl
      | cons => simp at h1
    subst this; rfl
  by_cases h2 : 19 < l.length
  · rw [if_pos (.inr (.inl h2)), if_neg (fun h => by omega)]
  cases h3 : plainB l with
  | false => rw [if_pos (.inr (.inr rfl)), if_neg (fun h => by cases h.2.2.1)]
  | true =>
    rw [if_neg (fun h => by rcases h with h | h | h; exact h1 h; exact h2 h; cases h), rdig_dig, if_neg (by omega)]
    unfold digB digN
    cases hd : dig l 0 with
    | none => simp
    | some r =>
      by_cases h4 : r ≤ 9223372036854775807
      · rw [Option.bind_some, if_pos h4, if_pos ⟨by omega, rfl, rfl, h4⟩]; rfl
      · rw [Option.bind_some, if_neg h4, if_neg (fun h => h4 h.2.2.2)]
end Go.Proofs.YtoplmbboaobahaaDoor
