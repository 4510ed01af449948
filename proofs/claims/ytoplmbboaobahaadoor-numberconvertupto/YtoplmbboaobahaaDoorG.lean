/-
  The walks of floatOf, plain, Cut, Int and Float at the chapter's examples, of Name and Show, and of told.
-/
import Derived.Test.YtoplmbboaobahaaDoorF
import Derived.Laws.FloatArith
import Derived.WalkLawsBesides
namespace Go.Proofs.YtoplmbboaobahaaDoor
open Go.RowKit

attribute [local go_sem] b28_0 b28_01 b28_012 b28_013 b28_014 b35_01 b35_0 b35 mkI69

theorem plain_x (w : World) : Calls Tryd.prog 60 #[.string ⟨#[49, 50, 48]⟩] w fun r w' => r = .returned (.bool true) ∧ w' = w := by
  go_enter Tryd.func60, Tryd.ntmps60
  go_wp2
  go_ret
  exact ⟨rfl, rfl⟩
theorem plain_1 (w : World) : Calls Tryd.prog 60 #[.string ⟨#[49]⟩] w fun r w' => r = .returned (.bool true) ∧ w' = w := by
  go_enter Tryd.func60, Tryd.ntmps60
  go_wp2
  go_ret
  exact ⟨rfl, rfl⟩

theorem x57 (b : Nat) (W : World) : (callFunc 57 #[.float .f64 b]).run Tryd.prog W = .ok (.value (.int .u64 b)) W :=
  (@run_callFunc_extern Tryd.prog 57 _ Extern.MathFloatBits.float64bits Tryd.func57 (by kernel_rfl) (by kernel_rfl) (by kernel_rfl) (by kernel_rfl) _ W).trans rfl
theorem x56 (n : Int) (W : World) : (callFunc 56 #[.int .u64 n]).run Tryd.prog W = .ok (.value (.float .f64 n.toNat)) W :=
  (@run_callFunc_extern Tryd.prog 56 _ Extern.MathFloatBits.float64frombits Tryd.func56 (by kernel_rfl) (by kernel_rfl) (by kernel_rfl) (by kernel_rfl) _ W).trans rfl

attribute [local go_sem] x56 x57

theorem isnan_x (w : World) : Calls Tryd.prog 70 #[.int .u64 4609434218613702656] w fun r w' => r = .returned (.bool false) ∧ w' = w := by
  go_enter Tryd.func70, Tryd.ntmps70
  go_wp2
  go_ret
  exact ⟨by kernel_rfl, rfl⟩

set_option maxRecDepth 100000 in
set_option maxHeartbeats 1000000 in
theorem floatOf_x (w : World) : Calls Tryd.prog 34 #[.string ⟨#[102, 108, 111, 97, 116]⟩, .int .u64 4609434218613702656] w fun r w' => r = .returned (dat 3 ⟨#[102, 108, 111, 97, 116]⟩ 0 4609434218613702656 ⟨#[]⟩) ∧ Below w.heap.size w w' := by
  go_enter Tryd.func34, Tryd.ntmps34
  go_wp2_with (first
    | (go_at_call 70; refine (isnan_x _).mono ?_; rintro r w' ⟨rfl, rfl⟩)
    | (go_at_call 69; refine (clone_any _ _ (by decide)).mono ?_; rintro r w' ⟨rfl, hb⟩; obtain ⟨hc, hf⟩ := bcell hb; have hz : w.heap.size < w'.heap.size := by (have := hb.size; simp at this; omega)))
  refine bodyPost_ret (v := dat 3 ⟨#[102, 108, 111, 97, 116]⟩ 0 4609434218613702656 ⟨#[]⟩) (by simp [results, Tryd.results34, go_sem, hc, dat, D]) rfl ⟨rfl, ?_⟩
  exact bset ((below1 w _).trans (hb.mono (by simp))) (Nat.le_refl _) _ _ _ _ _ _ _ _ _ _ _

set_option maxRecDepth 100000 in
set_option maxHeartbeats 1000000 in
theorem name_ptr (w : World) : Calls Tryd.prog 28 #[dat 9 ⟨#[84]⟩ 0 0 ⟨#[]⟩] w fun r w' => r = .returned (.string ⟨#[42, 84]⟩) ∧ Below w.heap.size w w' := by
  simp only [dat, D]
  go_enter Tryd.func28, Tryd.ntmps28
  go_wp2
  go_ret
  exact ⟨by kernel_rfl, below1 _ _⟩

set_option maxRecDepth 100000 in
set_option maxHeartbeats 1000000 in
theorem show_x (w : World) : Calls Tryd.prog 26 #[dat 2 ⟨#[84]⟩ 5 0 ⟨#[]⟩] w fun r w' => r = .returned (.string ⟨#[84, 40, 53, 41]⟩) ∧ Below w.heap.size w w' := by
  simp only [dat, D]
  go_enter Tryd.func26, Tryd.ntmps26
  go_wp2_with (go_at_call 63; refine (itoa5 _).mono ?_; rintro e w2 ⟨rfl, rfl⟩)
  go_ret
  exact ⟨by kernel_rfl, below1 _ _⟩

set_option maxRecDepth 100000 in
set_option maxHeartbeats 1000000 in
theorem int_x (w : World) : Calls Tryd.prog 22 #[.string ⟨#[49, 50, 48]⟩] w fun r w' => r = .returned (.tuple #[dat 2 ⟨#[105, 110, 116]⟩ 120 0 ⟨#[]⟩, .bool true]) ∧ Below w.heap.size w w' := by
  have e1 : digN [49, 50, 48] = 120 := by decide
  have e2 : digB [49, 50, 48] = true := by decide
  have HD : Hid (∀ W, Calls Tryd.prog 59 #[.string ⟨#[49, 50, 48]⟩] W fun r w' => r = .returned (.tuple #[.int .u64 120, .bool true]) ∧ w' = W) := fun W => by
    have h := digits_any ⟨#[49, 50, 48]⟩ W (by decide)
    rw [e1, e2] at h
    exact h
  clear e1 e2
  go_enter Tryd.func22, Tryd.ntmps22
  go_wp2_with (first
    | (go_at_call 59; refine (HD.out _).mono ?_; rintro r w' ⟨rfl, rfl⟩)
    | (go_at_call 60; refine (plain_x _).mono ?_; rintro r w' ⟨rfl, rfl⟩)
    | (go_at_call 35; refine (intOf_any _ _ _ (by decide)).mono ?_; simp only [dat, D]; rintro r w' ⟨rfl, hb⟩; obtain ⟨hc, hf⟩ := bcell hb; have hz : w.heap.size < w'.heap.size := by (have := hb.size; simp at this; omega)))
  refine bodyPost_ret (v := .tuple #[dat 2 ⟨#[105, 110, 116]⟩ 120 0 ⟨#[]⟩, .bool true]) (by simp [results, Tryd.results22, go_sem, hc, dat, D]) rfl ⟨rfl, ?_⟩
  exact bset ((below1 w _).trans (hb.mono (by simp))) (Nat.le_refl _) _ _ _ _ _ _ _ _ _ _ _
end Go.Proofs.YtoplmbboaobahaaDoor
