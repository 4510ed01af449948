/-
  How two data of one kind stand to each other; the walk of NumberOrder.
-/
import Derived.Test.YtoplmbboaobahabDoorQ
import Derived.Test.YtoplmbboaobahabDoorK
namespace Go.Proofs.YtoplmbboaobahabDoor
section
open Ieee

/-- Is it a NaN, by its bits? -/
def isNan (x : Nat) : Bool := decide (9218868437227405312 < x % 9223372036854775808)

theorem read_double (x : Nat) : double.read x =
    if x % 9223372036854775808 < 4503599627370496 then .number (x / 9223372036854775808 % 2 == 1) (x % 9223372036854775808) (-1074)
    else if x % 9223372036854775808 < 9218868437227405312 then
      .number (x / 9223372036854775808 % 2 == 1) (4503599627370496 + x % 9223372036854775808 % 4503599627370496) (-1074 + (x % 9223372036854775808 / 4503599627370496 - 1 : Nat))
    else if x % 9223372036854775808 = 9218868437227405312 then .infinity (x / 9223372036854775808 % 2 == 1)
    else .nan (x / 9223372036854775808 % 2 == 1) (x % 9223372036854775808 - 9218868437227405312) := rfl

theorem read_isNan (x : Nat) : (double.read x).isNaN = isNan x := by
  rw [read_double]; unfold isNan
  split
  · simp [Datum.isNaN]; omega
  · split
    · simp [Datum.isNaN]; omega
    · split
      · simp [Datum.isNaN]; omega
      · simp [Datum.isNaN]; omega

theorem compare_swap_int (a b : Int) : compare b a = (compare a b).swap := by
  simp only [compare, compareOfLessAndEq]
  by_cases h1 : a < b
  · have : ¬ b < a := by omega
    have h3 : ¬ b = a := by omega
    simp [h1, this, h3]
  · by_cases h2 : a = b
    · subst h2; simp
    · have : b < a := by omega
      simp [h1, h2, this]

theorem order_swap_datum (d e : Datum) : e.order d = (d.order e).map Ordering.swap := by
  cases d with
  | nan s f => cases e <;> rfl
  | infinity s =>
    cases e with
    | nan => rfl
    | infinity t => cases s <;> cases t <;> rfl
    | number t n j => cases s <;> rfl
  | number s m i =>
    cases e with
    | nan => rfl
    | infinity t => cases t <;> rfl
    | number t n j =>
      simp only [Datum.order, Option.map_some, Option.some.injEq]
      rw [Int.min_comm j i]
      exact compare_swap_int _ _

theorem order_none_datum (d e : Datum) : d.order e = none ↔ d.isNaN = true ∨ e.isNaN = true := by
  cases d <;> cases e <;> simp [Datum.order, Datum.isNaN]

theorem order_swap (x y : Nat) : double.order y x = (double.order x y).map Ordering.swap := order_swap_datum _ _

theorem order_none (x y : Nat) : double.order x y = none ↔ isNan x = true ∨ isNan y = true := by
  rw [← read_isNan, ← read_isNan]; exact order_none_datum _ _

end
theorem less_swap : ∀ (a b : List UInt8), Op.bytesLess b a = !(Op.bytesLess a b || a == b)
  | [], [] => by decide
  | [], y :: ys => by simp [Op.bytesLess]
  | x :: xs, [] => by simp [Op.bytesLess]
  | x :: xs, y :: ys => by
    have ih := less_swap xs ys
    simp only [Op.bytesLess, ih, List.cons_beq_cons]
    by_cases h1 : x = y
    · subst h1; simp
    · by_cases h2 : x < y
      · have h3 : ¬ y < x := fun h => by have := UInt8.lt_irrefl x; exact this (UInt8.lt_trans h2 h)
        have h4 : (y == x) = false := by simpa using fun e => h1 e.symm
        have h5 : (x == y) = false := by simpa using h1
        simp [h2, h3, h4, h5]
      · have h3 : y < x := by
          rcases Nat.lt_trichotomy x.toNat y.toNat with h | h | h
          · exact absurd h h2
          · exact absurd (UInt8.toNat_inj.1 h) h1
          · exact h
        have h4 : (y == x) = false := by simpa using fun e => h1 e.symm
        have h5 : (x == y) = false := by simpa using h1
        simp [h2, h3, h4, h5]

open Go.RowKit

/-- Of two of one kind: below, above, neither; or one is a NaN. -/
theorem cv_cases (k a b f f' : Int) (s s' : ByteArray) (hk : k = 2 ∨ k = 3 ∨ k = 4) :
    (k = 3 ∧ (isNan f.toNat = true ∨ isNan f'.toNat = true) ∧ cv .lt k a b f f' s s' = false ∧ cv .gt k a b f f' s s' = false ∧ cv .le k a b f f' s s' = false ∧ cv .ge k a b f f' s s' = false ∧ cv .lt k b a f' f s' s = false) ∨
    ((k = 3 → isNan f.toNat = false ∧ isNan f'.toNat = false) ∧
      ((cv .lt k a b f f' s s' = true ∧ cv .gt k a b f f' s s' = false ∧ cv .le k a b f f' s s' = true ∧ cv .ge k a b f f' s s' = false ∧ cv .lt k b a f' f s' s = false) ∨
       (cv .lt k a b f f' s s' = false ∧ cv .gt k a b f f' s s' = true ∧ cv .le k a b f f' s s' = false ∧ cv .ge k a b f f' s s' = true ∧ cv .lt k b a f' f s' s = true) ∨
       (cv .lt k a b f f' s s' = false ∧ cv .gt k a b f f' s s' = false ∧ cv .le k a b f f' s s' = true ∧ cv .ge k a b f f' s s' = true ∧ cv .lt k b a f' f s' s = false))) := by
  rcases hk with rfl | rfl | rfl
  · refine .inr ⟨fun h => absurd h (by decide), ?_⟩
    simp only [cv, ↓reduceIte, COp.iv]
    rcases Int.lt_trichotomy a b with h | h | h
    · refine .inl ⟨?_, ?_, ?_, ?_, ?_⟩ <;> simp <;> omega
    · refine .inr (.inr ⟨?_, ?_, ?_, ?_, ?_⟩) <;> simp <;> omega
    · refine .inr (.inl ⟨?_, ?_, ?_, ?_, ?_⟩) <;> simp <;> omega
  · have hs := order_swap f.toNat f'.toNat
    have hn := order_none f.toNat f'.toNat
    simp only [cv, show ¬ ((3 : Int) = 2) by decide, ↓reduceIte, hs]
    cases h : Ieee.double.order f.toNat f'.toNat with
    | none => exact .inl ⟨trivial, hn.1 h, rfl, rfl, rfl, rfl, rfl⟩
    | some c =>
      have h1 : ¬ (isNan f.toNat = true ∨ isNan f'.toNat = true) := fun e => by rw [hn.2 e] at h; cases h
      refine .inr ⟨fun _ => ⟨by simpa using fun e => h1 (.inl e), by simpa using fun e => h1 (.inr e)⟩, ?_⟩
      cases c
      · exact .inl ⟨rfl, rfl, rfl, rfl, rfl⟩
      · exact .inr (.inr ⟨rfl, rfl, rfl, rfl, rfl⟩)
      · exact .inr (.inl ⟨rfl, rfl, rfl, rfl, rfl⟩)
  · refine .inr ⟨fun h => absurd h (by decide), ?_⟩
    have hs := less_swap s.toList s'.toList
    simp only [cv, show ¬ ((4 : Int) = 2) by decide, show ¬ ((4 : Int) = 3) by decide, ↓reduceIte, COp.sv]
    rw [hs]
    have hx : Op.bytesLess s.toList s'.toList = true → (s.toList == s'.toList) = false := fun h => by
      have h2 := less_swap s'.toList s.toList
      cases e : s.toList == s'.toList with
      | false => rfl
      | true =>
        rw [hs, h] at h2
        have e' : (s'.toList == s.toList) = true := by have := eq_of_beq e; rw [this]; exact beq_self_eq_true _
        rw [e'] at h2
        simp at h2
    cases h1 : Op.bytesLess s.toList s'.toList
    · cases h2 : s.toList == s'.toList
      · exact .inr (.inl ⟨rfl, rfl, rfl, rfl, rfl⟩)
      · exact .inr (.inr ⟨rfl, rfl, rfl, rfl, rfl⟩)
    · rw [hx h1]
      exact .inl ⟨rfl, rfl, rfl, rfl, rfl⟩

theorem nan_shl (x : Int) (h0 : 0 ≤ x) (h1 : x ≤ 18446744073709551615) : 18437736874454810624 < IntKind.u64.wrap (x * 2) ↔ isNan x.toNat = true := by
  have e : IntKind.u64.wrap (x * 2) = x * 2 % 18446744073709551616 := by simp [IntKind.wrap, IntKind.bits, IntKind.signed]
  rw [e]
  unfold isNan
  rw [decide_eq_true_iff]
  omega

theorem b30_01234 (k n f : Int) (t s : ByteArray) (w : World) : (Instr.build 30 #[(0, .int .i64 k), (1, .string t), (2, .int .i64 n), (3, .int .u64 f), (4, .string s)]).run Tryd.prog w = .ok (.agg #[.int .i64 k, .string t, .int .i64 n, .int .u64 f, .string s, .int .i64 0, .int .i64 0, .int .i64 0, .int .i64 0, .slice none 0 0, .slice none 0 0]) w := run_build w 30 _ _ (by kernel_rfl)

attribute [local go_sem] refold2 cell3_0 cell3_1 b28_0 b28_01 b28_012 b28_013 b28_014 b30_01234 b35_01 b35_0 b35 mkI69

theorem pick3 (c : Int) (w : World) (h0 : -9223372036854775808 ≤ c) (h1 : c ≤ 9223372036854775807) :
    Calls Tryd.prog 7 #[.int .i64 c, .int .i64 3] w fun r w' => (r = .returned (.int .i64 0) ∨ r = .returned (.int .i64 1) ∨ r = .returned (.int .i64 2)) ∧ w' = w := by
  have key : ∀ x : Int, 0 ≤ x → x < 3 → (x = 0 ∨ x = 1 ∨ x = 2) := by omega
  by_cases h : c < 0
  · go_enter Tryd.func7, Tryd.ntmps7
    go_wp2
    have e : -(c + 1).tmod 3 = (-(c + 1)) % 3 := by
      rw [← Int.neg_tmod, Int.tmod_eq_emod_of_nonneg (by omega)]
    go_ret
    refine ⟨?_, rfl⟩
    show _ = Ending.returned (.int .i64 0) ∨ _ = Ending.returned (.int .i64 1) ∨ _ = Ending.returned (.int .i64 2)
    rcases key ((-(c + 1)) % 3) (by omega) (by omega) with h | h | h
    · exact .inl (congrArg (fun x => Ending.returned (.int .i64 x)) (e.trans h))
    · exact .inr (.inl (congrArg (fun x => Ending.returned (.int .i64 x)) (e.trans h)))
    · exact .inr (.inr (congrArg (fun x => Ending.returned (.int .i64 x)) (e.trans h)))
  · go_enter Tryd.func7, Tryd.ntmps7
    go_wp2
    go_ret
    refine ⟨?_, rfl⟩
    rcases key (c % 3) (by omega) (by omega) with h | h | h
    · exact .inl (congrArg (fun x => Ending.returned (.int .i64 x)) h)
    · exact .inr (.inl (congrArg (fun x => Ending.returned (.int .i64 x)) h))
    · exact .inr (.inr (congrArg (fun x => Ending.returned (.int .i64 x)) h))

/-- The boxes of two data are kept. -/
theorem two_kept (w : World) (c d : Array Value) (W : World) (h : Below ((w.alloc (.cells c 30)).alloc (.cells d 30)).heap.size ((w.alloc (.cells c 30)).alloc (.cells d 30)) W) :
    (∀ j, W.cell? ⟨w.heap.size, j, none⟩ = c[j]?) ∧ (∀ j, W.cell? ⟨w.heap.size + 1, j, none⟩ = d[j]?) := by
  refine ⟨fun j => ?_, fun j => ?_⟩
  · rw [h.cell (p := ⟨w.heap.size, j, none⟩) (by simp; omega), World.cell?_alloc_lt _ _ _ (by simp), World.cell?_alloc_new]
  · rw [h.cell (p := ⟨w.heap.size + 1, j, none⟩) (by simp), show w.heap.size + 1 = (w.alloc (.cells c 30)).heap.size by simp, World.cell?_alloc_new]

/-- What says answers of two data, of which nothing but the first five fields is set. -/
def Says (K : Int) (t u : ByteArray) (a b x y : Int) (s s' : ByteArray) (v : Bool) : Prop := ∀ W, Calls Tryd.prog 8 #[.string u, .agg #[.int .i64 K, .string t, .int .i64 a, .int .u64 x, .string s, .int .i64 0, .int .i64 0, .int .i64 0, .int .i64 0, .slice none 0 0, .slice none 0 0], .agg #[.int .i64 K, .string t, .int .i64 b, .int .u64 y, .string s', .int .i64 0, .int .i64 0, .int .i64 0, .int .i64 0, .slice none 0 0, .slice none 0 0]] W fun r w' => r = .returned (.tuple #[.bool v, .bool true]) ∧ Below W.heap.size W w'

theorem says_eq (o : COp) (K : Int) (hK : K = 2 ∨ K = 3 ∨ K = 4) (t : ByteArray) (a b x y : Int) (s s' : ByteArray) : Says K t o.txt a b x y s s' (cv o K a b x y s s') := fun W => says_any o K hK t a b x y s s' 0 0 0 0 (.slice none 0 0) (.slice none 0 0) 0 0 0 0 (.slice none 0 0) (.slice none 0 0) W

set_option maxRecDepth 100000 in
set_option maxHeartbeats 16000000 in
theorem orderLaw_any (kind : Int) (t : ByteArray) (a b x y : Int) (s u : ByteArray) (w : World) (hk0 : -9223372036854775808 ≤ kind) (hk1 : kind ≤ 9223372036854775807) (hx0 : 0 ≤ x) (hx1 : x ≤ 18446744073709551615) (hy0 : 0 ≤ y) (hy1 : y ≤ 18446744073709551615) :
    Calls Tryd.prog 3 #[.int .i64 kind, .string t, .int .i64 a, .int .i64 b, .int .u64 x, .int .u64 y, .string s, .string u] w fun r w' => r = .returned (.bool true) ∧ Below w.heap.size w w' := by
  have HP : Hid (∀ W, Calls Tryd.prog 7 #[.int .i64 kind, .int .i64 3] W fun r w' => (r = .returned (.int .i64 0) ∨ r = .returned (.int .i64 1) ∨ r = .returned (.int .i64 2)) ∧ w' = W) := fun W => pick3 kind W hk0 hk1
  have HX : Hid (18437736874454810624 < IntKind.u64.wrap (x * 2) ↔ isNan x.toNat = true) := nan_shl x hx0 hx1
  have HY : Hid (18437736874454810624 < IntKind.u64.wrap (y * 2) ↔ isNan y.toNat = true) := nan_shl y hy0 hy1
  clear hk0 hk1
  go_enter Tryd.func3, Tryd.ntmps3
  go_wp2_with fail
  refine (known_any _).mono ?_
  rintro r w1 ⟨rfl, b1⟩
  go_wp2_with fail
  refine (HP.out _).mono ?_
  have HC := fun (K : Int) (hK : K = 2 ∨ K = 3 ∨ K = 4) => cv_cases K a b x y s u hK
  have HS := fun (o : COp) (K : Int) (hK : K = 2 ∨ K = 3 ∨ K = 4) => says_eq o K hK t a b x y s u
  have HT := fun (o : COp) (K : Int) (hK : K = 2 ∨ K = 3 ∨ K = 4) => says_eq o K hK t b a y x u s
  rintro r w2 ⟨hr, rfl⟩
  rcases hr with rfl | rfl | rfl
  case' inl => replace HC := HC 2 (.inl rfl); have h1 := HS .lt 2 (.inl rfl); have h2 := HS .gt 2 (.inl rfl); have h3 := HS .le 2 (.inl rfl); have h4 := HS .ge 2 (.inl rfl); have h5 := HT .lt 2 (.inl rfl)
  case' inr.inl => replace HC := HC 3 (.inr (.inl rfl)); have h1 := HS .lt 3 (.inr (.inl rfl)); have h2 := HS .gt 3 (.inr (.inl rfl)); have h3 := HS .le 3 (.inr (.inl rfl)); have h4 := HS .ge 3 (.inr (.inl rfl)); have h5 := HT .lt 3 (.inr (.inl rfl))
  case' inr.inr => replace HC := HC 4 (.inr (.inr rfl)); have h1 := HS .lt 4 (.inr (.inr rfl)); have h2 := HS .gt 4 (.inr (.inr rfl)); have h3 := HS .le 4 (.inr (.inr rfl)); have h4 := HS .ge 4 (.inr (.inr rfl)); have h5 := HT .lt 4 (.inr (.inr rfl))
  all_goals
    clear HS HT
    simp only [COp.txt] at h1 h2 h3 h4 h5
    generalize cv .lt _ a b x y s u = v1 at HC h1
    generalize cv .gt _ a b x y s u = v2 at HC h2
    generalize cv .le _ a b x y s u = v3 at HC h3
    generalize cv .ge _ a b x y s u = v4 at HC h4
    generalize cv .lt _ b a y x u s = v5 at HC h5
    have HC : Hid _ := HC
    have h1 : Hid _ := h1
    have h2 : Hid _ := h2
    have h3 : Hid _ := h3
    have h4 : Hid _ := h4
    have h5 : Hid _ := h5
    go_wp2_with fail
    refine (h1.out _).mono ?_
    rintro r w3 ⟨rfl, b3⟩
    obtain ⟨e3, f3⟩ := two_kept _ _ _ _ b3
    go_wp2_with fail
    refine (h2.out _).mono ?_
    rintro r w4 ⟨rfl, b4⟩
    have b34 := b3.trans (b4.mono b3.size)
    clear b3 b4 e3 f3
    obtain ⟨e4, f4⟩ := two_kept _ _ _ _ b34
    go_wp2_with fail
    refine (h3.out _).mono ?_
    rintro r w5 ⟨rfl, b5⟩
    have b35 := b34.trans (b5.mono b34.size)
    clear b34 b5 e4 f4
    obtain ⟨e5, f5⟩ := two_kept _ _ _ _ b35
    go_wp2_with fail
    refine (h4.out _).mono ?_
    rintro r w6 ⟨rfl, b6⟩
    have b36 := b35.trans (b6.mono b35.size)
    clear b35 b6 e5 f5
    obtain ⟨e6, f6⟩ := two_kept _ _ _ _ b36
    go_wp2_with fail
    refine (h5.out _).mono ?_
    rintro r w7 ⟨rfl, b7⟩
    have b37 := b36.trans (b7.mono b36.size)
    have q : Below w.heap.size w w7 := b1.trans (((below2 w2 _ _).trans (b37.mono (by simp; omega))).mono b1.size)
    clear b36 b7 e6 f6 b37 h1 h2 h3 h4 h5 HP b1
    rcases HC.out with ⟨hk3, hnan, p1, p2, p3, p4, p5⟩ | ⟨hnn, hc⟩
    · first
      | exact absurd hk3 (by decide)
      | (clear HC; subst p1; subst p2; subst p3; subst p4; subst p5; clear hk3
         by_cases hx : 18437736874454810624 < IntKind.u64.wrap (x * 2)
         · clear hnan
           go_wp2_with fail
           go_ret
           exact ⟨rfl, q⟩
         · have hy : 18437736874454810624 < IntKind.u64.wrap (y * 2) := HY.out.2 (hnan.resolve_left fun h => hx (HX.out.2 h))
           clear hnan
           go_wp2_with fail
           go_ret
           exact ⟨rfl, q⟩)
    · clear HC
      rcases hc with ⟨p1, p2, p3, p4, p5⟩ | ⟨p1, p2, p3, p4, p5⟩ | ⟨p1, p2, p3, p4, p5⟩
      all_goals
        subst p1; subst p2; subst p3; subst p4; subst p5
        first
        | (have hnn2 := hnn trivial
           have hx : ¬ 18437736874454810624 < IntKind.u64.wrap (x * 2) := fun h => by have := HX.out.1 h; rw [hnn2.1] at this; cases this
           have hy : ¬ 18437736874454810624 < IntKind.u64.wrap (y * 2) := fun h => by have := HY.out.1 h; rw [hnn2.2] at this; cases this
           clear hnn hnn2
           go_wp2_with fail
           go_ret
           exact ⟨rfl, q⟩)
        | (clear hnn; go_wp2_with fail; go_ret; exact ⟨rfl, q⟩)
end Go.Proofs.YtoplmbboaobahabDoor
