/-
  The walk of NumberRing.
-/
import Derived.Test.YtoplmbboaobahaaDoorL
namespace Go.Proofs.YtoplmbboaobahaaDoor
open Go.RowKit

attribute [local go_sem] refold2 cell3_0 cell3_1 b28_0 b28_01 b28_012 b28_013 b28_014 b35_01 b35_0 b35 mkI69

/-- What does answers of two ints. -/
def Does (t u : ByteArray) (a b c : Int) : Prop := ∀ W, Calls Tryd.prog 30 #[.string t, .string u, .int .i64 a, .int .i64 b] W fun r w' => r = .returned (.tuple #[.int .i64 c, .bool true]) ∧ Below W.heap.size W w'

theorem does_eq (o : IOp) (t : ByteArray) (a b c : Int) (ht : t.size ≤ 140737488351232) (hok : o.ok b) (hc : o.val a b = c) : Does t o.txt a b c := fun W => hc ▸ does_any o t a b W ht hok

/-- What Unary answers of an int. -/
def Un (t u : ByteArray) (a c : Int) : Prop := ∀ W, Calls Tryd.prog 10 #[.string u, .agg #[.int .i64 2, .string t, .int .i64 a, .int .u64 0, .string ⟨#[]⟩, .int .i64 0, .int .i64 0, .int .i64 0, .int .i64 0, .slice none 0 0, .slice none 0 0]] W fun r w' => r = .returned (.tuple #[.agg #[.int .i64 2, .string t, .int .i64 c, .int .u64 0, .string ⟨#[]⟩, .int .i64 0, .int .i64 0, .int .i64 0, .int .i64 0, .slice none 0 0, .slice none 0 0], .nilIface]) ∧ Below W.heap.size W w'

/-- Shifts. -/
def sl (a : Int) (k : Nat) : Int := wr (a * 2 ^ k)
def sr (a : Int) (k : Nat) : Int := a.fdiv (2 ^ k)

theorem un_eq (g : Bool) (t : ByteArray) (a c : Int) (ht : t.size ≤ 140737488351232) (hc : UnV g a = c) : Un t (UnT g) a c := fun W => hc ▸ unary_int g t a 0 ⟨#[]⟩ 0 0 0 0 (.slice none 0 0) (.slice none 0 0) W ht

set_option maxRecDepth 100000 in
set_option maxHeartbeats 8000000 in
theorem ringLaw_any (t : ByteArray) (a b sh : Int) (w : World) (ht : t.size ≤ 140737488351232) (ha0 : -9223372036854775808 ≤ a) (ha1 : a ≤ 9223372036854775807) (hs0 : -9223372036854775808 ≤ sh) (hs1 : sh ≤ 9223372036854775807) :
    Calls Tryd.prog 8 #[.string t, .int .i64 a, .int .i64 b, .int .i64 sh] w fun r w' => r = .returned (.bool true) ∧ Below w.heap.size w w' := by
  obtain ⟨sum, hsum⟩ : ∃ x, x = wr (a + b) := ⟨_, rfl⟩
  obtain ⟨m, hm⟩ : ∃ x, x = wr (-b) := ⟨_, rfl⟩
  obtain ⟨v, hv⟩ : ∃ x, x = -1 - a := ⟨_, rfl⟩
  have h1 : Hid (Does t ⟨#[43]⟩ a b sum) := does_eq .add t a b sum ht trivial hsum.symm
  have h2 : Hid (Does t ⟨#[45]⟩ sum b a) := does_eq .sub t sum b a ht trivial (by rw [hsum]; exact ring1 a b ha0 ha1)
  have h3 : Hid (Un t ⟨#[45]⟩ b m) := un_eq true t b m ht hm.symm
  have h4 : Hid (Does t ⟨#[43]⟩ sum m a) := does_eq .add t sum m a ht trivial (by rw [hsum, hm]; exact ring2 a b ha0 ha1)
  have h5 : Hid (Un t ⟨#[94]⟩ a v) := un_eq false t a v ht ((not_i64 a ha0 ha1).trans hv.symm)
  have h6 : Hid (Does t ⟨#[94]⟩ a (-1) v) := does_eq .xor t a (-1) v ht trivial ((not_i64' a ha0 ha1).trans hv.symm)
  have h7 : Hid (Does t ⟨#[43]⟩ a v (-1)) := does_eq .add t a v (-1) ht trivial (by rw [hv]; exact ring3 a)
  have hq : Hid (b ≠ 0 → ∃ over rest times, Does t ⟨#[47]⟩ a b over ∧ Does t ⟨#[37]⟩ a b rest ∧ Does t ⟨#[42]⟩ over b times ∧ Does t ⟨#[43]⟩ times rest a ∧ (rest ≠ 0 → (rest < 0 ↔ a < 0))) := fun hb =>
    ⟨_, a.tmod b, _, does_eq .quo t a b _ ht hb rfl, does_eq .rem t a b _ ht hb rfl, does_eq .mul t _ b _ ht trivial rfl, does_eq .add t _ _ a ht trivial (ring4 a b ha0 ha1), fun h => by have := ring5 a b h; simpa using this⟩
  have hsh : Hid (∀ n : Nat, n < 70 → Does t ⟨#[60, 60]⟩ a n (sl a n) ∧ Does t ⟨#[62, 62]⟩ a n (sr a n)) := fun n hn =>
    ⟨does_eq .shl t a n _ ht ⟨by omega, by omega⟩ (shl_end a n), does_eq .shr t a n _ ht ⟨by omega, by omega⟩ (shr_end a n ha0 ha1)⟩
  have hst : Hid (∀ k : Nat, Does t ⟨#[60, 60]⟩ (sl a k) 1 (sl a (k + 1)) ∧ Does t ⟨#[62, 62]⟩ (sr a k) 1 (sr a (k + 1))) := fun k =>
    ⟨does_eq .shl t _ 1 _ ht ⟨by decide, by decide⟩ (shl_step a k), does_eq .shr t _ 1 _ ht ⟨by decide, by decide⟩ (shr_step a k)⟩
  have hstart : sl a 0 = a ∧ sr a 0 = a := by
    unfold sl sr
    rw [show (2 : Int) ^ 0 = 1 by decide, Int.mul_one]; exact ⟨wr_id a ha0 ha1, Int.fdiv_one a⟩
  have HP : Hid (∀ W, Calls Tryd.prog 32 #[.int .i64 sh, .int .i64 70] W fun r w' => ∃ n : Nat, r = .returned (.int .i64 n) ∧ n < 70 ∧ w' = W) := fun W => pick70 sh W hs0 hs1
  have HST : Hid _ := hstart
  clear hsum hm hv ht hs0 hs1 hstart ha0 ha1
  go_enter Tryd.func8, Tryd.ntmps8
  go_wp2_with fail
  refine (known_any _).mono ?_
  rintro r w1 ⟨rfl, b1⟩
  go_wp2_with fail
  refine (h1.out _).mono ?_
  rintro r w2 ⟨rfl, b2⟩
  go_wp2_with fail
  refine (h2.out _).mono ?_
  rintro r w3 ⟨rfl, b3⟩
  go_wp2_with fail
  refine (of_any _ _ _).mono ?_
  simp only [dat, D]
  rintro r w4 ⟨rfl, b4⟩
  go_wp2_with fail
  refine (h3.out _).mono ?_
  rintro r w5 ⟨rfl, b5⟩
  have q5 : Below w.heap.size w w5 := b1.trans ((b2.trans ((b3.trans ((b4.trans (b5.mono b4.size)).mono b3.size)).mono b2.size)).mono b1.size)
  clear b1 b2 b3 b4 b5
  go_wp2_with fail
  refine (h4.out _).mono ?_
  rintro r w6 ⟨rfl, b6⟩
  have q6 : Below w.heap.size w w6 := q5.trans (((below1 w5 _).trans (b6.mono (by simp))).mono q5.size)
  clear b6
  go_wp2_with fail
  refine (of_any _ _ _).mono ?_
  simp only [dat, D]
  rintro r w7 ⟨rfl, b7⟩
  go_wp2_with fail
  refine (h5.out _).mono ?_
  rintro r w8 ⟨rfl, b8⟩
  have q8 : Below w.heap.size w w8 := q6.trans ((b7.trans (b8.mono b7.size)).mono q6.size)
  clear b7 b8
  go_wp2_with fail
  refine (h6.out _).mono ?_
  rintro r w9 ⟨rfl, b9⟩
  have z9 : w8.heap.size < w9.heap.size := by have := b9.size; simp at this; omega
  have A1 : w9.heap[w8.heap.size]? = some (.cells #[.int .i64 2, .string t, .int .i64 v, .int .u64 0, .string ⟨#[]⟩, .int .i64 0, .int .i64 0, .int .i64 0, .int .i64 0, .slice none 0 0, .slice none 0 0] 28 (0, 0)) := (b9.block _ (by simp)).trans (heap_alloc_new _ _)
  have q9 : Below w.heap.size w w9 := q8.trans (((below1 w8 _).trans (b9.mono (by simp))).mono q8.size)
  have f9 := row_at A1 2
  simp only [List.getElem?_toArray, List.getElem?_cons_zero, List.getElem?_cons_succ] at f9
  have hA1 : Hid _ := A1
  clear A1 b9
  go_wp2_with fail
  refine (h7.out _).mono ?_
  rintro r w10 ⟨rfl, b10⟩
  have f10 := row_at ((b10.block _ z9).trans hA1.out) 2
  simp only [List.getElem?_toArray, List.getElem?_cons_zero, List.getElem?_cons_succ] at f10
  have q10 : Below w.heap.size w w10 := q9.trans (b10.mono q9.size)
  clear b10 f9 q5 q6 q8 q9 z9
  by_cases hb : b = 0
  · subst hb
    go_wp2_with fail
    refine (HP.out _).mono ?_
    rintro r w20 ⟨n, rfl, hn, rfl⟩
    go_wp2_with fail
    go_loopw [8, 33, 34, 35, 36, 37, 38, 39] (fun _ l r i _ _ _ _ W => ∃ k : Nat, k ≤ n ∧ i = .int .i64 k ∧ l = .int .i64 (sl a k) ∧ r = .int .i64 (sr a k) ∧ Below w.heap.size w W) (fun _ _ _ i _ _ _ _ _ => n - (intOf i).toNat)
    case atStart => exact ⟨0, Nat.zero_le _, rfl, by rw [HST.out.1], by rw [HST.out.2], q10⟩
    case round =>
      obtain ⟨k, hk, rfl, rfl, rfl, qk⟩ := hrel
      by_cases hlt : k < n
      · obtain ⟨s1, s2⟩ := hst.out k
        have s1 : Hid _ := s1
        have s2 : Hid _ := s2
        go_wp2_with fail
        refine (s1.out _).mono ?_
        rintro r w21 ⟨rfl, b21⟩
        go_wp2_with fail
        refine (s2.out _).mono ?_
        rintro r w22 ⟨rfl, b22⟩
        have q22 := qk.trans ((b21.trans (b22.mono b21.size)).mono qk.size)
        clear b21 b22
        go_wp2_with fail
        exact ⟨⟨k + 1, by omega, congrArg (Value.int .i64) (by omega), rfl, rfl, q22⟩, by simp [intOf]; omega⟩
      · have e : k = n := by omega
        subst e
        obtain ⟨s1, s2⟩ := hsh.out k hn
        have s1 : Hid _ := s1
        have s2 : Hid _ := s2
        go_wp2_with fail
        refine (s1.out _).mono ?_
        rintro r w21 ⟨rfl, b21⟩
        go_wp2_with fail
        refine (s2.out _).mono ?_
        rintro r w22 ⟨rfl, b22⟩
        have q22 := qk.trans ((b21.trans (b22.mono b21.size)).mono qk.size)
        clear b21 b22
        go_wp2_with fail
        go_ret
        exact ⟨rfl, q22⟩
  · obtain ⟨over, rest, times, k1, k2, k3, k4, k5⟩ := hq.out hb
    have k1 : Hid _ := k1
    have k2 : Hid _ := k2
    have k3 : Hid _ := k3
    have k4 : Hid _ := k4
    go_wp2_with fail
    refine (k1.out _).mono ?_
    rintro r w11 ⟨rfl, b11⟩
    go_wp2_with fail
    refine (k2.out _).mono ?_
    rintro r w12 ⟨rfl, b12⟩
    go_wp2_with fail
    refine (k3.out _).mono ?_
    rintro r w13 ⟨rfl, b13⟩
    go_wp2_with fail
    refine (k4.out _).mono ?_
    rintro r w14 ⟨rfl, b14⟩
    have q14 : Below w.heap.size w w14 := q10.trans ((b11.trans ((b12.trans ((b13.trans (b14.mono b13.size)).mono b12.size)).mono b11.size)).mono q10.size)
    clear b11 b12 b13 b14 q10
    have q10 := q14
    clear q14
    go_wp2_with fail
    all_goals
      refine (HP.out _).mono ?_
      rintro r w20 ⟨n, rfl, hn, rfl⟩
      go_wp2_with fail
      go_loopw [8, 33, 34, 35, 36, 37, 38, 39] (fun _ l r i _ _ _ _ W => ∃ k : Nat, k ≤ n ∧ i = .int .i64 k ∧ l = .int .i64 (sl a k) ∧ r = .int .i64 (sr a k) ∧ Below w.heap.size w W) (fun _ _ _ i _ _ _ _ _ => n - (intOf i).toNat)
      case atStart => exact ⟨0, Nat.zero_le _, rfl, by rw [HST.out.1], by rw [HST.out.2], q10⟩
      case round =>
        obtain ⟨k, hk, rfl, rfl, rfl, qk⟩ := hrel
        by_cases hlt : k < n
        · obtain ⟨s1, s2⟩ := hst.out k
          have s1 : Hid _ := s1
          have s2 : Hid _ := s2
          go_wp2_with fail
          refine (s1.out _).mono ?_
          rintro r w21 ⟨rfl, b21⟩
          go_wp2_with fail
          refine (s2.out _).mono ?_
          rintro r w22 ⟨rfl, b22⟩
          have q22 := qk.trans ((b21.trans (b22.mono b21.size)).mono qk.size)
          clear b21 b22
          go_wp2_with fail
          exact ⟨⟨k + 1, by omega, congrArg (Value.int .i64) (by omega), rfl, rfl, q22⟩, by simp [intOf]; omega⟩
        · have e : k = n := by omega
          subst e
          obtain ⟨s1, s2⟩ := hsh.out k hn
          have s1 : Hid _ := s1
          have s2 : Hid _ := s2
          go_wp2_with fail
          refine (s1.out _).mono ?_
          rintro r w21 ⟨rfl, b21⟩
          go_wp2_with fail
          refine (s2.out _).mono ?_
          rintro r w22 ⟨rfl, b22⟩
          have q22 := qk.trans ((b21.trans (b22.mono b21.size)).mono qk.size)
          clear b21 b22
          go_wp2_with fail
          go_ret
          exact ⟨rfl, q22⟩
end Go.Proofs.YtoplmbboaobahaaDoor
