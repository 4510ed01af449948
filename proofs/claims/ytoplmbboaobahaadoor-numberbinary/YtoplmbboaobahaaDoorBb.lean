/-
  The second Binary's comparisons and its ints.
-/
import Derived.Test.YtoplmbboaobahaaDoorBa
import Derived.Test.YtoplmbboaobahaaDoorY
namespace Go.Proofs.YtoplmbboaobahaaDoor
open Go.RowKit

attribute [local go_sem] refold2 cell3_0 cell3_1 b28_0 b28_01 b28_012 b28_013 b28_014 b35_01 b35_0 b35 mkI69

theorem tmod_bounds (a b : Int) (ha0 : -9223372036854775808 ≤ a) (ha1 : a ≤ 9223372036854775807) : -9223372036854775808 ≤ a.tmod b ∧ a.tmod b ≤ 9223372036854775807 := by
  have h := Int.natAbs_tmod a b
  have h2 := Nat.mod_le a.natAbs b.natAbs
  by_cases h0 : 0 ≤ a
  · have := Int.tmod_nonneg b h0
    omega
  · have h3 := Int.tmod_nonneg b (show 0 ≤ -a by omega)
    rw [Int.neg_tmod] at h3
    omega

theorem rem_wr (a b : Int) (ha0 : -9223372036854775808 ≤ a) (ha1 : a ≤ 9223372036854775807) : wrap64 (a - wrap64 (b * wrap64 (a.tdiv b))) = a.tmod b := by
  simp only [wrap64_wr]
  obtain ⟨k1, h1⟩ := wr_eq (a.tdiv b)
  obtain ⟨k2, h2⟩ := wr_eq (b * wr (a.tdiv b))
  have h3 := Int.mul_tdiv_add_tmod a b
  have e : a - wr (b * wr (a.tdiv b)) = a.tmod b + 18446744073709551616 * (-(b * k1) - k2) := by
    rw [h2, h1, Int.mul_add, Int.mul_left_comm b 18446744073709551616 k1, Int.mul_sub, Int.mul_neg]
    omega
  rw [e, wr_add, wr_id _ (tmod_bounds a b ha0 ha1).1 (tmod_bounds a b ha0 ha1).2]

/-- What the second Binary's comparison answers. -/
def whV : COp → Bool → Bool → Bool → Bool
  | .lt, x, _, k => k && x
  | .le, _, y, k => k && !y
  | .gt, _, y, k => k && y
  | .ge, x, _, k => k && !x

set_option maxRecDepth 100000 in
set_option maxHeartbeats 1000000 in
theorem whether_any (o : COp) (x y k : Bool) (w : World) : Calls Tryd.prog 48 #[.string o.txt, .bool x, .bool y, .bool k] w fun r w' => r = .returned (.tuple #[.bool (whV o x y k), .bool true]) ∧ w' = w := by
  cases o <;> cases k <;> cases x <;> cases y <;> simp only [COp.txt, whV, Bool.and_true, Bool.and_false, Bool.not_true, Bool.not_false]
  all_goals
    go_enter Tryd.func48, Tryd.ntmps48
    go_wp2
    refine bodyPost_ret (v := .tuple #[.bool _, .bool true]) (by simp [results, Tryd.results48, go_sem]; try rfl) rfl ⟨rfl, rfl⟩

set_option maxRecDepth 100000 in
set_option maxHeartbeats 1000000 in
theorem whether_none (u : ByteArray) (x y k : Bool) (w : World) (h1 : (u.toList == [60]) = false) (h2 : (u.toList == [60, 61]) = false) (h3 : (u.toList == [62]) = false) (h4 : (u.toList == [62, 61]) = false) :
    Calls Tryd.prog 48 #[.string u, .bool x, .bool y, .bool k] w fun r w' => r = .returned (.tuple #[.bool false, .bool false]) ∧ w' = w := by
  go_enter Tryd.func48, Tryd.ntmps48
  go_wp2
  refine bodyPost_ret (v := .tuple #[.bool false, .bool false]) (by simp [results, Tryd.results48, go_sem]) rfl ⟨rfl, rfl⟩

set_option maxRecDepth 100000 in
set_option maxHeartbeats 1000000 in
theorem boolean_any (b : Bool) (w : World) : Calls Tryd.prog 49 #[.bool b] w fun r w' => r = .returned (dat 1 ⟨#[98, 111, 111, 108]⟩ (b01 b) 0 ⟨#[]⟩) ∧ Below w.heap.size w w' := by
  cases b <;> simp only [dat, D, b01]
  · go_enter Tryd.func49, Tryd.ntmps49
    go_wp2
    refine bodyPost_ret (v := .agg #[.int .i64 1, .string ⟨#[98, 111, 111, 108]⟩, .int .i64 0, .int .u64 0, .string ⟨#[]⟩, .int .i64 0, .int .i64 0, .int .i64 0, .int .i64 0, .slice none 0 0, .slice none 0 0]) (by simp [results, Tryd.results49, go_sem]) rfl ⟨rfl, below1 w _⟩
  · go_enter Tryd.func49, Tryd.ntmps49
    go_wp2
    refine bodyPost_ret (v := .agg #[.int .i64 1, .string ⟨#[98, 111, 111, 108]⟩, .int .i64 1, .int .u64 0, .string ⟨#[]⟩, .int .i64 0, .int .i64 0, .int .i64 0, .int .i64 0, .slice none 0 0, .slice none 0 0]) (by simp [results, Tryd.results49, go_sem]) rfl ⟨rfl, below1 w _⟩

set_option maxRecDepth 100000 in
set_option maxHeartbeats 4000000 in
theorem refInts_any (o : IOp) (a b : Int) (w : World) (h : o.ok b) (ha0 : -9223372036854775808 ≤ a) (ha1 : a ≤ 9223372036854775807) :
    Calls Tryd.prog 50 #[.string o.txt, .int .i64 a, .int .i64 b] w fun r w' => r = .returned (.tuple #[.int .i64 (o.val a b), .agg #[.string ⟨#[]⟩, .string ⟨#[]⟩], .bool true]) ∧ Below w.heap.size w w' := by
  cases o
  case shl =>
    have HL : Hid (∀ W, Calls Tryd.prog 76 #[.int .i64 a, .int .i64 b] W fun r w' => r = .returned (.int .i64 (IOp.shl.val a b)) ∧ w' = W) := fun W => left_any a b W ha0 ha1 h.1
    have hb : ¬ b < 0 := by have := h.1; omega
    generalize IOp.shl.val a b = v at HL ⊢
    clear h
    simp only [IOp.txt]
    go_enter Tryd.func50, Tryd.ntmps50
    go_wp2_with (go_at_call 76; refine (HL.out _).mono ?_; rintro r w' ⟨rfl, rfl⟩)
    refine bodyPost_ret (v := .tuple #[.int .i64 v, .agg #[.string ⟨#[]⟩, .string ⟨#[]⟩], .bool true]) (by simp [results, Tryd.results50, go_sem]) rfl ⟨rfl, below1 _ _⟩
  case shr =>
    have HL : Hid (∀ W, Calls Tryd.prog 77 #[.int .i64 a, .int .i64 b] W fun r w' => r = .returned (.int .i64 (IOp.shr.val a b)) ∧ w' = W) := fun W => right_any a b W ha0 ha1 h.1
    have hb : ¬ b < 0 := by have := h.1; omega
    generalize IOp.shr.val a b = v at HL ⊢
    clear h
    simp only [IOp.txt]
    go_enter Tryd.func50, Tryd.ntmps50
    go_wp2_with (go_at_call 77; refine (HL.out _).mono ?_; rintro r w' ⟨rfl, rfl⟩)
    refine bodyPost_ret (v := .tuple #[.int .i64 v, .agg #[.string ⟨#[]⟩, .string ⟨#[]⟩], .bool true]) (by simp [results, Tryd.results50, go_sem]) rfl ⟨rfl, below1 _ _⟩
  case quo =>
    have hb : b ≠ 0 := h
    clear h
    simp only [IOp.txt, IOp.val]
    by_cases h1 : b = -1
    · subst h1
      go_enter Tryd.func50, Tryd.ntmps50
      go_wp2
      refine bodyPost_ret (v := .tuple #[.int .i64 (wr (a.tdiv (-1))), .agg #[.string ⟨#[]⟩, .string ⟨#[]⟩], .bool true]) (by simp [results, Tryd.results50, go_sem]; exact wrap64_wr _) rfl ⟨rfl, below1 _ _⟩
    · go_enter Tryd.func50, Tryd.ntmps50
      go_wp2
      refine bodyPost_ret (v := .tuple #[.int .i64 (wr (a.tdiv b)), .agg #[.string ⟨#[]⟩, .string ⟨#[]⟩], .bool true]) (by simp [results, Tryd.results50, go_sem]; exact wrap64_wr _) rfl ⟨rfl, below1 _ _⟩
  case rem =>
    have hb : b ≠ 0 := h
    clear h
    simp only [IOp.txt, IOp.val]
    by_cases h1 : b = -1
    · subst h1
      go_enter Tryd.func50, Tryd.ntmps50
      go_wp2
      refine bodyPost_ret (v := .tuple #[.int .i64 (a.tmod (-1)), .agg #[.string ⟨#[]⟩, .string ⟨#[]⟩], .bool true]) (by simp [results, Tryd.results50, go_sem]) rfl ⟨rfl, below1 _ _⟩
    · go_enter Tryd.func50, Tryd.ntmps50
      go_wp2
      refine bodyPost_ret (v := .tuple #[.int .i64 (a.tmod b), .agg #[.string ⟨#[]⟩, .string ⟨#[]⟩], .bool true]) (by simp [results, Tryd.results50, go_sem]; exact rem_wr a b ha0 ha1) rfl ⟨rfl, below1 _ _⟩
  all_goals
    clear h ha0 ha1
    simp only [IOp.txt, IOp.val]
    go_enter Tryd.func50, Tryd.ntmps50
    go_wp2
    refine bodyPost_ret (v := .tuple #[.int .i64 _, .agg #[.string ⟨#[]⟩, .string ⟨#[]⟩], .bool true]) (by simp [results, Tryd.results50, go_sem]; try rfl) rfl ⟨by simp [wrap64_wr], below1 _ _⟩
end Go.Proofs.YtoplmbboaobahaaDoor
