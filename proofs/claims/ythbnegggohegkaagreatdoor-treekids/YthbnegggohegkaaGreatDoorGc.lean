/-
  The walks of (role).kinds and (role).takes, at every role and kind.
-/
import Derived.Test.YthbnegggohegkaaGreatDoorGbJ
import Derived.Test.YthbnegggohegkaaGreatDoorRs
namespace Go.Proofs.YthbnegggohegkaaGreatDoor
open Go.RowKit

theorem role_cases {rl : Nat} (h : rl ≤ 30) : rl = 0 ∨ rl = 1 ∨ rl = 2 ∨ rl = 3 ∨ rl = 4 ∨ rl = 5 ∨ rl = 6 ∨ rl = 7 ∨ rl = 8 ∨ rl = 9 ∨ rl = 10 ∨ rl = 11 ∨ rl = 12 ∨ rl = 13 ∨ rl = 14 ∨ rl = 15 ∨ rl = 16 ∨ rl = 17 ∨ rl = 18 ∨ rl = 19 ∨ rl = 20 ∨ rl = 21 ∨ rl = 22 ∨ rl = 23 ∨ rl = 24 ∨ rl = 25 ∨ rl = 26 ∨ rl = 27 ∨ rl = 28 ∨ rl = 29 ∨ rl = 30 := by omega

set_option maxHeartbeats 2000000 in
theorem kinds_any (rl : Nat) (has : rl ≤ 30) (w : World) : Calls Tryz.prog 99 #[.int .i64 rl] w fun e w' => e = .returned (.int .u64 (kindsN rl)) ∧ w' = w := by
  rcases role_cases has with rfl | rfl | rfl | rfl | rfl | rfl | rfl | rfl | rfl | rfl | rfl | rfl | rfl | rfl | rfl | rfl | rfl | rfl | rfl | rfl | rfl | rfl | rfl | rfl | rfl | rfl | rfl | rfl | rfl | rfl | rfl
  all_goals
    go_enter Tryz.func99, Tryz.ntmps99
    go_wp2
    go_ret
    exact ⟨rfl, rfl⟩

theorem bit_any (rl : Nat) (h : rl ≤ 30) (n : Nat) (hn : n < 52) : (bits BinOp.and IntKind.u64 (((kindsN rl : Nat) : Int) / 2 ^ n) 1 == 1) = (kindsN rl).testBit n := by
  have e : ∀ r : Fin 31, ∀ n : Fin 52, (bits BinOp.and IntKind.u64 (((kindsN r.val : Nat) : Int) / 2 ^ n.val) 1 == 1) = (kindsN r.val).testBit n.val := by decide +kernel
  exact e ⟨rl, by omega⟩ ⟨n, hn⟩

set_option maxHeartbeats 1000000 in
theorem takes_any (rl : Nat) (has : rl ≤ 30) (k : Int) (w : World) : Calls Tryz.prog 66 #[.int .i64 rl, .int .i64 k] w fun e w' => e = .returned (.bool (takesB rl k)) ∧ w' = w := by
  have HK : Hid _ := kinds_any rl has
  by_cases h1 : 1 ≤ k
  · by_cases h2 : k ≤ 51
    · have hv : takesB rl k = (kindsN rl).testBit k.toNat := by unfold takesB; rw [decide_eq_true h1, decide_eq_true h2]; rfl
      rw [hv]
      have HQ : Hid _ := bit_any rl has k.toNat (by omega)
      clear hv
      generalize (kindsN rl).testBit k.toNat = q at HQ ⊢
      generalize kindsN rl = K at HK HQ
      go_enter Tryz.func66, Tryz.ntmps66
      go_wp2_with fail
      refine (HK.out _).mono ?_
      rintro e w1 ⟨rfl, rfl⟩
      go_wp2_with fail
      go_ret
      exact ⟨congrArg (fun b => Ending.returned (.bool b)) HQ.out, rfl⟩
    · have hv : takesB rl k = false := by unfold takesB; rw [decide_eq_false h2]; simp
      rw [hv]
      go_enter Tryz.func66, Tryz.ntmps66
      go_wp2
      go_ret
      exact ⟨rfl, rfl⟩
  · have hv : takesB rl k = false := by unfold takesB; rw [decide_eq_false h1]; simp
    rw [hv]
    go_enter Tryz.func66, Tryz.ntmps66
    go_wp2
    go_ret
    exact ⟨rfl, rfl⟩
end Go.Proofs.YthbnegggohegkaaGreatDoor
