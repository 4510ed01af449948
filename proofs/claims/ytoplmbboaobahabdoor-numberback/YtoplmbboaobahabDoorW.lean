/-
  The walk of NumberBack.
-/
import Derived.Test.YtoplmbboaobahabDoorT
import Derived.Test.YtoplmbboaobahabDoorV
namespace Go.Proofs.YtoplmbboaobahabDoor
open Go.RowKit

attribute [local go_sem] refold2 cell3_0 cell3_1 b28_0 b28_01 b28_012 b28_013 b28_014 b35_01 b35_0 b35 mkI69

set_option maxRecDepth 100000 in
set_option maxHeartbeats 16000000 in
theorem backLaw_any (n : Int) (t : ByteArray) (f : Int) (w : World) (hn0 : -9223372036854775808 ≤ n) (hn1 : n ≤ 9223372036854775807) (ht : t.size ≤ 140737488351232) (hf0 : 0 ≤ f) (hf1 : f ≤ 18446744073709551615) (htab : Lib.TabIs Tryd.prog w "internal/strconv.uint64pow10" .u64 Lib.pow10Tab) :
    Calls Tryd.prog 5 #[.int .i64 n, .string t, .int .u64 f] w fun r w' => r = .returned (.bool true) ∧ Below w.heap.size w w' := by
  obtain ⟨m, hm⟩ : ∃ m, m = n.tmod 9007199254740992 := ⟨_, rfl⟩
  have hm53 : m.natAbs < 9007199254740992 := by
    rw [hm, Int.natAbs_tmod]; exact Nat.mod_lt _ (by decide)
  have hnan : isNan (floatOfInt .f64 m) = false := isNan53 m hm53
  have hcm : canon (floatOfInt .f64 m) = floatOfInt .f64 m := by
    unfold canon; rw [Int.toNat_natCast, hnan]; rfl
  have c1 : Hid (∀ W, Calls Tryd.prog 10 #[.int .i64 2, .string t, .agg #[.int .i64 2, .string ⟨#[105, 110, 116]⟩, .int .i64 n, .int .u64 0, .string ⟨#[]⟩, .int .i64 0, .int .i64 0, .int .i64 0, .int .i64 0, .slice none 0 0, .slice none 0 0]] W fun r w' => r = .returned (.tuple #[.agg #[.int .i64 2, .string t, .int .i64 n, .int .u64 0, .string ⟨#[]⟩, .int .i64 0, .int .i64 0, .int .i64 0, .int .i64 0, .slice none 0 0, .slice none 0 0], .nilIface]) ∧ Below W.heap.size W w') := fun W => convert_int t ⟨#[105, 110, 116]⟩ n 0 ⟨#[]⟩ 0 0 0 0 (.slice none 0 0) (.slice none 0 0) W ht
  have c2 : Hid (∀ W, Calls Tryd.prog 10 #[.int .i64 2, .string ⟨#[105, 110, 116]⟩, .agg #[.int .i64 2, .string t, .int .i64 n, .int .u64 0, .string ⟨#[]⟩, .int .i64 0, .int .i64 0, .int .i64 0, .int .i64 0, .slice none 0 0, .slice none 0 0]] W fun r w' => r = .returned (.tuple #[.agg #[.int .i64 2, .string ⟨#[105, 110, 116]⟩, .int .i64 n, .int .u64 0, .string ⟨#[]⟩, .int .i64 0, .int .i64 0, .int .i64 0, .int .i64 0, .slice none 0 0, .slice none 0 0], .nilIface]) ∧ Below W.heap.size W w') := fun W => convert_int ⟨#[105, 110, 116]⟩ t n 0 ⟨#[]⟩ 0 0 0 0 (.slice none 0 0) (.slice none 0 0) W (by decide)
  have c3 : Hid (∀ W, Calls Tryd.prog 10 #[.int .i64 3, .string t, .agg #[.int .i64 2, .string ⟨#[105, 110, 116]⟩, .int .i64 m, .int .u64 0, .string ⟨#[]⟩, .int .i64 0, .int .i64 0, .int .i64 0, .int .i64 0, .slice none 0 0, .slice none 0 0]] W fun r w' => r = .returned (.tuple #[.agg #[.int .i64 3, .string t, .int .i64 0, .int .u64 (floatOfInt .f64 m), .string ⟨#[]⟩, .int .i64 0, .int .i64 0, .int .i64 0, .int .i64 0, .slice none 0 0, .slice none 0 0], .nilIface]) ∧ Below W.heap.size W w') := fun W => by
    have h := convert_if t ⟨#[105, 110, 116]⟩ m 0 ⟨#[]⟩ 0 0 0 0 (.slice none 0 0) (.slice none 0 0) W ht
    rw [hcm] at h; exact h
  have c4 : Hid (∀ W, Calls Tryd.prog 10 #[.int .i64 2, .string ⟨#[105, 110, 116]⟩, .agg #[.int .i64 3, .string t, .int .i64 0, .int .u64 (floatOfInt .f64 m), .string ⟨#[]⟩, .int .i64 0, .int .i64 0, .int .i64 0, .int .i64 0, .slice none 0 0, .slice none 0 0]] W fun r w' => r = .returned (.tuple #[.agg #[.int .i64 2, .string ⟨#[105, 110, 116]⟩, .int .i64 m, .int .u64 0, .string ⟨#[]⟩, .int .i64 0, .int .i64 0, .int .i64 0, .int .i64 0, .slice none 0 0, .slice none 0 0], .nilIface]) ∧ Below W.heap.size W w') := fun W => convert_fi ⟨#[105, 110, 116]⟩ m hm53 t 0 ⟨#[]⟩ 0 0 0 0 (.slice none 0 0) (.slice none 0 0) W (by decide)
  have c5 : Hid (∀ W, Calls Tryd.prog 10 #[.int .i64 3, .string ⟨#[102, 108, 111, 97, 116]⟩, .agg #[.int .i64 3, .string t, .int .i64 0, .int .u64 f, .string ⟨#[]⟩, .int .i64 0, .int .i64 0, .int .i64 0, .int .i64 0, .slice none 0 0, .slice none 0 0]] W fun r w' => r = .returned (.tuple #[.agg #[.int .i64 3, .string ⟨#[102, 108, 111, 97, 116]⟩, .int .i64 0, .int .u64 (canon f), .string ⟨#[]⟩, .int .i64 0, .int .i64 0, .int .i64 0, .int .i64 0, .slice none 0 0, .slice none 0 0], .nilIface]) ∧ Below W.heap.size W w') := fun W => convert_ff ⟨#[102, 108, 111, 97, 116]⟩ t 0 f ⟨#[]⟩ 0 0 0 0 (.slice none 0 0) (.slice none 0 0) W (by decide) hf0 hf1
  have HX : Hid (18437736874454810624 < IntKind.u64.wrap (f * 2) ↔ isNan f.toNat = true) := nan_shl f hf0 hf1
  have HSm : Hid (∀ W, Calls Tryd.prog 12 #[.agg #[.int .i64 2, .string ⟨#[105, 110, 116]⟩, .int .i64 n, .int .u64 0, .string ⟨#[]⟩, .int .i64 0, .int .i64 0, .int .i64 0, .int .i64 0, .slice none 0 0, .slice none 0 0], .agg #[.int .i64 2, .string ⟨#[105, 110, 116]⟩, .int .i64 n, .int .u64 0, .string ⟨#[]⟩, .int .i64 0, .int .i64 0, .int .i64 0, .int .i64 0, .slice none 0 0, .slice none 0 0]] W fun r w' => r = .returned (.bool true) ∧ Below W.heap.size W w') := fun W => same_refl 2 ⟨#[105, 110, 116]⟩ n 0 ⟨#[]⟩ W
  have HWh : Hid (∀ W, Calls Tryd.prog 11 #[.int .i64 n] W fun r w' => r = .returned (.agg #[.int .i64 2, .string ⟨#[105, 110, 116]⟩, .int .i64 n, .int .u64 0, .string ⟨#[]⟩, .int .i64 0, .int .i64 0, .int .i64 0, .int .i64 0, .slice none 0 0, .slice none 0 0]) ∧ Below W.heap.size W w') := fun W => whole_any n W
  have HSh : Hid (0 ≤ n → ∀ W, Below w.heap.size w W → Calls Tryd.prog 13 #[.agg #[.int .i64 2, .string ⟨#[105, 110, 116]⟩, .int .i64 n, .int .u64 0, .string ⟨#[]⟩, .int .i64 0, .int .i64 0, .int .i64 0, .int .i64 0, .slice none 0 0, .slice none 0 0]] W fun r w' => r = .returned (.string (decT n.toNat)) ∧ Below W.heap.size W w') := fun h0 W hW => by
    have h := show_int n W hn0 hn1 (fun V hV => tab_kept htab (hW.trans (hV.mono hW.size)))
    have e : (⟨(Lib.itoa n).toArray⟩ : ByteArray) = decT n.toNat := by unfold Lib.itoa decT; rw [if_neg (by omega)]
    rw [e] at h
    exact h
  have HIn : Hid (0 ≤ n → ∀ W, Calls Tryd.prog 14 #[.string (decT n.toNat)] W fun r w' => r = .returned (.tuple #[.agg #[.int .i64 2, .string ⟨#[105, 110, 116]⟩, .int .i64 n, .int .u64 0, .string ⟨#[]⟩, .int .i64 0, .int .i64 0, .int .i64 0, .int .i64 0, .slice none 0 0, .slice none 0 0], .bool true]) ∧ Below W.heap.size W w') := fun h0 W => by
    have h := int_dec n.toNat W (by omega)
    rw [Int.toNat_of_nonneg h0] at h
    exact h
  generalize floatOfInt .f64 m = x at c3 c4
  clear hnan hcm hm53 htab ht hf0 hf1
  go_enter Tryd.func5, Tryd.ntmps5
  go_wp2_with fail
  refine (known_any _).mono ?_
  rintro r w1 ⟨rfl, b1⟩
  go_wp2_with fail
  refine (HWh.out _).mono ?_
  rintro r w2 ⟨rfl, b2⟩
  go_wp2_with fail
  refine (c1.out _).mono ?_
  rintro r w3 ⟨rfl, b3⟩
  have q3 : Below w.heap.size w w3 := b1.trans ((b2.trans (b3.mono b2.size)).mono b1.size)
  clear b1 b2 b3
  go_wp2_with fail
  refine (c2.out _).mono ?_
  rintro r w4 ⟨rfl, b4⟩
  have q4 := bnext q3 q3.size b4
  have z4 : w3.heap.size < w4.heap.size := by have := b4.size; simp at this; omega
  clear q3
  have HK : Hid (∀ W, Below (w4.heap.size + 1) (w4.alloc (.cells #[.int .i64 2, .string ⟨#[105, 110, 116]⟩, .int .i64 n, .int .u64 0, .string ⟨#[]⟩, .int .i64 0, .int .i64 0, .int .i64 0, .int .i64 0, .slice none 0 0, .slice none 0 0] 30)) W → (W.cell? ⟨w4.heap.size, 0, none⟩ = some (.int .i64 2) ∧ W.cell? ⟨w4.heap.size, 1, none⟩ = some (.string ⟨#[105, 110, 116]⟩) ∧ W.cell? ⟨w4.heap.size, 2, none⟩ = some (.int .i64 n) ∧ W.cell? ⟨w4.heap.size, 3, none⟩ = some (.int .u64 0) ∧ W.cell? ⟨w4.heap.size, 4, none⟩ = some (.string ⟨#[]⟩) ∧ W.cell? ⟨w4.heap.size, 5, none⟩ = some (.int .i64 0) ∧ W.cell? ⟨w4.heap.size, 6, none⟩ = some (.int .i64 0) ∧ W.cell? ⟨w4.heap.size, 7, none⟩ = some (.int .i64 0) ∧ W.cell? ⟨w4.heap.size, 8, none⟩ = some (.int .i64 0) ∧ W.cell? ⟨w4.heap.size, 9, none⟩ = some (.slice none 0 0) ∧ W.cell? ⟨w4.heap.size, 10, none⟩ = some (.slice none 0 0))) := fun W hW => by
    have hk := one_kept w4 _ W (hW.mono (by simp))
    exact ⟨hk 0, hk 1, hk 2, hk 3, hk 4, hk 5, hk 6, hk 7, hk 8, hk 9, hk 10⟩
  go_wp2_with fail
  go_region_held3 (fun W => W.cell? ⟨w4.heap.size, 0, none⟩ = some (.int .i64 2) ∧ W.cell? ⟨w4.heap.size, 1, none⟩ = some (.string ⟨#[105, 110, 116]⟩) ∧ W.cell? ⟨w4.heap.size, 2, none⟩ = some (.int .i64 n) ∧ W.cell? ⟨w4.heap.size, 3, none⟩ = some (.int .u64 0) ∧ W.cell? ⟨w4.heap.size, 4, none⟩ = some (.string ⟨#[]⟩) ∧ W.cell? ⟨w4.heap.size, 5, none⟩ = some (.int .i64 0) ∧ W.cell? ⟨w4.heap.size, 6, none⟩ = some (.int .i64 0) ∧ W.cell? ⟨w4.heap.size, 7, none⟩ = some (.int .i64 0) ∧ W.cell? ⟨w4.heap.size, 8, none⟩ = some (.int .i64 0) ∧ W.cell? ⟨w4.heap.size, 9, none⟩ = some (.slice none 0 0) ∧ W.cell? ⟨w4.heap.size, 10, none⟩ = some (.slice none 0 0))
    ((first | with_reducible exact HK.out _ hbF | with_reducible exact HK.out _ hbA | with_reducible exact HK.out _ ((Below.refl _ _).drew)))
    ((first
      | (go_at_call 11; refine (HWh.out _).mono ?_; rintro r w5 ⟨rfl, b5⟩; have hbA : Below (w4.heap.size + 1) (w4.alloc (.cells #[.int .i64 2, .string ⟨#[105, 110, 116]⟩, .int .i64 n, .int .u64 0, .string ⟨#[]⟩, .int .i64 0, .int .i64 0, .int .i64 0, .int .i64 0, .slice none 0 0, .slice none 0 0] 30)) w5 := ((Below.refl _ _).drew).trans (b5.mono (by simp)))
      | (go_at_call 12; refine (HSm.out _).mono ?_; rintro r w6 ⟨rfl, b6⟩; have hbF : Below (w4.heap.size + 1) (w4.alloc (.cells #[.int .i64 2, .string ⟨#[105, 110, 116]⟩, .int .i64 n, .int .u64 0, .string ⟨#[]⟩, .int .i64 0, .int .i64 0, .int .i64 0, .int .i64 0, .slice none 0 0, .slice none 0 0] 30)) w6 := hbA.trans (b6.mono (by have := hbA.size; simp at this; omega)))))
  have hbG : Below (w4.alloc (.cells #[.int .i64 2, .string ⟨#[105, 110, 116]⟩, .int .i64 n, .int .u64 0, .string ⟨#[]⟩, .int .i64 0, .int .i64 0, .int .i64 0, .int .i64 0, .slice none 0 0, .slice none 0 0] 30)).heap.size (w4.alloc (.cells #[.int .i64 2, .string ⟨#[105, 110, 116]⟩, .int .i64 n, .int .u64 0, .string ⟨#[]⟩, .int .i64 0, .int .i64 0, .int .i64 0, .int .i64 0, .slice none 0 0, .slice none 0 0] 30)) w6 := hbF.mono (by simp)
  have e1 := one_kept _ _ _ (bnext b4 b4.size hbG)
  have e2 := one_kept _ _ _ hbG
  have q6 := bnext q4 q4.size hbG
  have z6 : w3.heap.size < w6.heap.size := by have := hbG.size; simp at this; omega
  have z7 : w4.heap.size < w6.heap.size := by have := hbG.size; simp at this; omega
  clear hbG hbF hbA b4 b5 b6 HK q4 z4
  by_cases hn : 0 ≤ n
  · have hm' : n % 9007199254740992 = m := by rw [hm, Int.tmod_eq_emod_of_nonneg hn]
    have hM : Hid _ := hm'
    clear hm hm'
    go_wp2_with fail
    refine (HSh.out hn _ q6).mono ?_
    rintro r w7 ⟨rfl, b7⟩
    have q7 := q6.trans (b7.mono q6.size)
    clear b7 q6
    go_wp2_with fail
    refine (HIn.out hn _).mono ?_
    rintro r w8 ⟨rfl, b8⟩
    have q8 := q7.trans (b8.mono q7.size)
    clear b8 q7
    go_wp2_with fail
    rw [hM.out]
    refine (whole_any m _).mono ?_
    simp only [dat, D]
    rintro r v1 ⟨rfl, a1⟩
    have q1 := bnext q8 q8.size a1
    clear a1
    go_wp2_with fail
    refine (c3.out _).mono ?_
    rintro r v2 ⟨rfl, a2⟩
    have q2 := q1.trans (a2.mono q1.size)
    clear a2 q1
    go_wp2_with fail
    refine (c4.out _).mono ?_
    rintro r v3 ⟨rfl, a3⟩
    have f3 := one_kept _ _ _ a3
    have z3 : v2.heap.size < v3.heap.size := by have := a3.size; simp at this; omega
    have q3 := bnext q2 q2.size a3
    clear q2
    go_wp2_with fail
    refine (c5.out _).mono ?_
    rintro r v4 ⟨rfl, a4⟩
    have g3 := one_kept _ _ _ (bnext a3 a3.size a4)
    have g4 := one_kept _ _ _ a4
    have z4 : v2.heap.size < v4.heap.size := by have := a4.size; simp at this; omega
    have z5 : v3.heap.size < v4.heap.size := by have := a4.size; simp at this; omega
    have q4 := bnext q3 q3.size a4
    clear f3 a3 a4 q3
    by_cases hx : 18437736874454810624 < IntKind.u64.wrap (f * 2)
    · have hcan : canon f = 9221120237041090561 := by unfold canon; rw [HX.out.1 hx]; rfl
      rw [hcan]
      go_wp2_with fail
      all_goals
        go_ret
        exact ⟨rfl, q4.alloc q4.size _⟩
    · have hcan : canon f = f := by
        unfold canon
        rw [show isNan f.toNat = false by cases h : isNan f.toNat with | false => rfl | true => exact absurd (HX.out.2 h) hx]; rfl
      rw [hcan]
      go_wp2_with fail
      all_goals
        go_ret
        exact ⟨rfl, q4.alloc q4.size _⟩
  · have hM : Hid _ := hm
    clear hm
    go_wp2_with fail
    rw [← hM.out]
    refine (whole_any m _).mono ?_
    simp only [dat, D]
    rintro r v1 ⟨rfl, a1⟩
    have q1 := q6.trans (a1.mono q6.size)
    clear a1
    go_wp2_with fail
    refine (c3.out _).mono ?_
    rintro r v2 ⟨rfl, a2⟩
    have q2 := q1.trans (a2.mono q1.size)
    clear a2 q1
    go_wp2_with fail
    refine (c4.out _).mono ?_
    rintro r v3 ⟨rfl, a3⟩
    have f3 := one_kept _ _ _ a3
    have z3 : v2.heap.size < v3.heap.size := by have := a3.size; simp at this; omega
    have q3 := bnext q2 q2.size a3
    clear q2
    go_wp2_with fail
    refine (c5.out _).mono ?_
    rintro r v4 ⟨rfl, a4⟩
    have g3 := one_kept _ _ _ (bnext a3 a3.size a4)
    have g4 := one_kept _ _ _ a4
    have z4 : v2.heap.size < v4.heap.size := by have := a4.size; simp at this; omega
    have z5 : v3.heap.size < v4.heap.size := by have := a4.size; simp at this; omega
    have q4 := bnext q3 q3.size a4
    clear f3 a3 a4 q3
    by_cases hx : 18437736874454810624 < IntKind.u64.wrap (f * 2)
    · have hcan : canon f = 9221120237041090561 := by unfold canon; rw [HX.out.1 hx]; rfl
      rw [hcan]
      go_wp2_with fail
      all_goals
        go_ret
        exact ⟨rfl, q4.alloc q4.size _⟩
    · have hcan : canon f = f := by
        unfold canon
        rw [show isNan f.toNat = false by cases h : isNan f.toNat with | false => rfl | true => exact absurd (HX.out.2 h) hx]; rfl
      rw [hcan]
      go_wp2_with fail
      all_goals
        go_ret
        exact ⟨rfl, q4.alloc q4.size _⟩
end Go.Proofs.YtoplmbboaobahabDoor
