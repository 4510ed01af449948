/-
  The walk of Float at any text.
-/
import Derived.Test.YtoplmbboaobahaaDoorIx
namespace Go.Proofs.YtoplmbboaobahaaDoor
open Go.RowKit

attribute [local go_sem] refold2 cell3_0 cell3_1 b28_0 b28_01 b28_012 b28_013 b28_014 b35_01 b35_0 b35 mkI69 x56 x57

set_option maxRecDepth 100000 in
set_option maxHeartbeats 2000000 in
theorem float_bad1 (s x y : ByteArray) (HC : Hid (∀ W, Calls Tryd.prog 61 #[.string s, .string ⟨#[46]⟩] W fun r w' => r = .returned (.tuple #[.string x, .string y, .bool false]) ∧ Below W.heap.size W w')) (w : World) :
    Calls Tryd.prog 24 #[.string s] w fun r w' => r = .returned (.tuple #[.agg #[.int .i64 0, .string ⟨#[]⟩, .int .i64 0, .int .u64 0, .string ⟨#[]⟩, .int .i64 0, .int .i64 0, .int .i64 0, .int .i64 0, .slice none 0 0, .slice none 0 0], .bool false]) ∧ Below w.heap.size w w' := by
  go_enter Tryd.func24, Tryd.ntmps24
  go_wp2_with fail
  refine (HC.out _).mono ?_
  rintro r w1 ⟨rfl, hb1⟩
  have hz1 : w.heap.size < w1.heap.size := by have := hb1.size; simp at this; omega
  have hr1 : Hid (w1.heap[w.heap.size]? = some (.cells zeros 28 (0, 0))) := (hb1.block _ (by simp)).trans (heap_alloc_new _ _)
  obtain ⟨⟨c0, c1, c2, c3, c4, c5, c6, c7, c8, c9, c10⟩, hf2⟩ := box_kept hr1.out
  go_wp2_with fail
  refine bodyPost_ret (v := .tuple #[.agg #[.int .i64 0, .string ⟨#[]⟩, .int .i64 0, .int .u64 0, .string ⟨#[]⟩, .int .i64 0, .int .i64 0, .int .i64 0, .int .i64 0, .slice none 0 0, .slice none 0 0], .bool false]) (by simp [results, Tryd.results24, go_sem, c0, c1, c2, c3, c4, c5, c6, c7, c8, c9, c10]) rfl ⟨rfl, ?_⟩
  exact bset ((below1 w _).trans (hb1.mono (by simp))) (Nat.le_refl _) _ _ _ _ _ _ _ _ _ _ _

set_option maxRecDepth 100000 in
set_option maxHeartbeats 2000000 in
theorem float_bad2 (s x y : ByteArray) (HC : Hid (∀ W, Calls Tryd.prog 61 #[.string s, .string ⟨#[46]⟩] W fun r w' => r = .returned (.tuple #[.string x, .string y, .bool true]) ∧ Below W.heap.size W w')) (HP : Hid (∀ W, Calls Tryd.prog 60 #[.string x] W fun r w' => r = .returned (.bool false) ∧ w' = W)) (w : World) :
    Calls Tryd.prog 24 #[.string s] w fun r w' => r = .returned (.tuple #[.agg #[.int .i64 0, .string ⟨#[]⟩, .int .i64 0, .int .u64 0, .string ⟨#[]⟩, .int .i64 0, .int .i64 0, .int .i64 0, .int .i64 0, .slice none 0 0, .slice none 0 0], .bool false]) ∧ Below w.heap.size w w' := by
  go_enter Tryd.func24, Tryd.ntmps24
  go_wp2_with fail
  refine (HC.out _).mono ?_
  rintro r w1 ⟨rfl, hb1⟩
  have hz1 : w.heap.size < w1.heap.size := by have := hb1.size; simp at this; omega
  have hr1 : Hid (w1.heap[w.heap.size]? = some (.cells zeros 28 (0, 0))) := (hb1.block _ (by simp)).trans (heap_alloc_new _ _)
  obtain ⟨⟨c0, c1, c2, c3, c4, c5, c6, c7, c8, c9, c10⟩, hf2⟩ := box_kept hr1.out
  go_wp2_with (go_at_call 60; refine (HP.out _).mono ?_; rintro r w' ⟨rfl, rfl⟩)
  refine bodyPost_ret (v := .tuple #[.agg #[.int .i64 0, .string ⟨#[]⟩, .int .i64 0, .int .u64 0, .string ⟨#[]⟩, .int .i64 0, .int .i64 0, .int .i64 0, .int .i64 0, .slice none 0 0, .slice none 0 0], .bool false]) (by simp [results, Tryd.results24, go_sem, c0, c1, c2, c3, c4, c5, c6, c7, c8, c9, c10]) rfl ⟨rfl, ?_⟩
  exact bset ((below1 w _).trans (hb1.mono (by simp))) (Nat.le_refl _) _ _ _ _ _ _ _ _ _ _ _

set_option maxRecDepth 100000 in
set_option maxHeartbeats 2000000 in
theorem float_bad3 (s x y : ByteArray) (HC : Hid (∀ W, Calls Tryd.prog 61 #[.string s, .string ⟨#[46]⟩] W fun r w' => r = .returned (.tuple #[.string x, .string y, .bool true]) ∧ Below W.heap.size W w')) (HP : Hid (∀ W, Calls Tryd.prog 60 #[.string x] W fun r w' => r = .returned (.bool true) ∧ w' = W)) (hy : y.toList.isEmpty = true) (w : World) :
    Calls Tryd.prog 24 #[.string s] w fun r w' => r = .returned (.tuple #[.agg #[.int .i64 0, .string ⟨#[]⟩, .int .i64 0, .int .u64 0, .string ⟨#[]⟩, .int .i64 0, .int .i64 0, .int .i64 0, .int .i64 0, .slice none 0 0, .slice none 0 0], .bool false]) ∧ Below w.heap.size w w' := by
  go_enter Tryd.func24, Tryd.ntmps24
  go_wp2_with fail
  refine (HC.out _).mono ?_
  rintro r w1 ⟨rfl, hb1⟩
  have hz1 : w.heap.size < w1.heap.size := by have := hb1.size; simp at this; omega
  have hr1 : Hid (w1.heap[w.heap.size]? = some (.cells zeros 28 (0, 0))) := (hb1.block _ (by simp)).trans (heap_alloc_new _ _)
  obtain ⟨⟨c0, c1, c2, c3, c4, c5, c6, c7, c8, c9, c10⟩, hf2⟩ := box_kept hr1.out
  go_wp2_with (go_at_call 60; refine (HP.out _).mono ?_; rintro r w' ⟨rfl, rfl⟩)
  refine bodyPost_ret (v := .tuple #[.agg #[.int .i64 0, .string ⟨#[]⟩, .int .i64 0, .int .u64 0, .string ⟨#[]⟩, .int .i64 0, .int .i64 0, .int .i64 0, .int .i64 0, .slice none 0 0, .slice none 0 0], .bool false]) (by simp [results, Tryd.results24, go_sem, c0, c1, c2, c3, c4, c5, c6, c7, c8, c9, c10]) rfl ⟨rfl, ?_⟩
  exact bset ((below1 w _).trans (hb1.mono (by simp))) (Nat.le_refl _) _ _ _ _ _ _ _ _ _ _ _

set_option maxRecDepth 100000 in
set_option maxHeartbeats 2000000 in
theorem float_bad4 (s x y : ByteArray) (HC : Hid (∀ W, Calls Tryd.prog 61 #[.string s, .string ⟨#[46]⟩] W fun r w' => r = .returned (.tuple #[.string x, .string y, .bool true]) ∧ Below W.heap.size W w')) (HP : Hid (∀ W, Calls Tryd.prog 60 #[.string x] W fun r w' => r = .returned (.bool true) ∧ w' = W)) (hy : y.toList.isEmpty = false) (hl : 15 < (x.size : Int) + y.size) (hm : (x.size : Int) + y.size ≤ 281474976710656) (w : World) :
    Calls Tryd.prog 24 #[.string s] w fun r w' => r = .returned (.tuple #[.agg #[.int .i64 0, .string ⟨#[]⟩, .int .i64 0, .int .u64 0, .string ⟨#[]⟩, .int .i64 0, .int .i64 0, .int .i64 0, .int .i64 0, .slice none 0 0, .slice none 0 0], .bool false]) ∧ Below w.heap.size w w' := by
  go_enter Tryd.func24, Tryd.ntmps24
  go_wp2_with fail
  refine (HC.out _).mono ?_
  rintro r w1 ⟨rfl, hb1⟩
  have hz1 : w.heap.size < w1.heap.size := by have := hb1.size; simp at this; omega
  have hr1 : Hid (w1.heap[w.heap.size]? = some (.cells zeros 28 (0, 0))) := (hb1.block _ (by simp)).trans (heap_alloc_new _ _)
  obtain ⟨⟨c0, c1, c2, c3, c4, c5, c6, c7, c8, c9, c10⟩, hf2⟩ := box_kept hr1.out
  go_wp2_with (go_at_call 60; refine (HP.out _).mono ?_; rintro r w' ⟨rfl, rfl⟩)
  refine bodyPost_ret (v := .tuple #[.agg #[.int .i64 0, .string ⟨#[]⟩, .int .i64 0, .int .u64 0, .string ⟨#[]⟩, .int .i64 0, .int .i64 0, .int .i64 0, .int .i64 0, .slice none 0 0, .slice none 0 0], .bool false]) (by simp [results, Tryd.results24, go_sem, c0, c1, c2, c3, c4, c5, c6, c7, c8, c9, c10]) rfl ⟨rfl, ?_⟩
  exact bset ((below1 w _).trans (hb1.mono (by simp))) (Nat.le_refl _) _ _ _ _ _ _ _ _ _ _ _

set_option maxRecDepth 100000 in
set_option maxHeartbeats 2000000 in
theorem float_bad5 (s x y : ByteArray) (HC : Hid (∀ W, Calls Tryd.prog 61 #[.string s, .string ⟨#[46]⟩] W fun r w' => r = .returned (.tuple #[.string x, .string y, .bool true]) ∧ Below W.heap.size W w')) (HP : Hid (∀ W, Calls Tryd.prog 60 #[.string x] W fun r w' => r = .returned (.bool true) ∧ w' = W)) (hy : y.toList.isEmpty = false) (hl : ¬ 15 < (x.size : Int) + y.size) (n : Nat) (HD : Hid (∀ W, Calls Tryd.prog 59 #[.string (x ++ y)] W fun r w' => r = .returned (.tuple #[.int .u64 n, .bool false]) ∧ w' = W)) (w : World) :
    Calls Tryd.prog 24 #[.string s] w fun r w' => r = .returned (.tuple #[.agg #[.int .i64 0, .string ⟨#[]⟩, .int .i64 0, .int .u64 0, .string ⟨#[]⟩, .int .i64 0, .int .i64 0, .int .i64 0, .int .i64 0, .slice none 0 0, .slice none 0 0], .bool false]) ∧ Below w.heap.size w w' := by
  go_enter Tryd.func24, Tryd.ntmps24
  go_wp2_with fail
  refine (HC.out _).mono ?_
  rintro r w1 ⟨rfl, hb1⟩
  have hz1 : w.heap.size < w1.heap.size := by have := hb1.size; simp at this; omega
  have hr1 : Hid (w1.heap[w.heap.size]? = some (.cells zeros 28 (0, 0))) := (hb1.block _ (by simp)).trans (heap_alloc_new _ _)
  obtain ⟨⟨c0, c1, c2, c3, c4, c5, c6, c7, c8, c9, c10⟩, hf2⟩ := box_kept hr1.out
  go_wp2_with (first | (go_at_call 60; refine (HP.out _).mono ?_; rintro r w' ⟨rfl, rfl⟩) | (go_at_call 59; refine (HD.out _).mono ?_; rintro r w' ⟨rfl, rfl⟩))
  refine bodyPost_ret (v := .tuple #[.agg #[.int .i64 0, .string ⟨#[]⟩, .int .i64 0, .int .u64 0, .string ⟨#[]⟩, .int .i64 0, .int .i64 0, .int .i64 0, .int .i64 0, .slice none 0 0, .slice none 0 0], .bool false]) (by simp [results, Tryd.results24, go_sem, c0, c1, c2, c3, c4, c5, c6, c7, c8, c9, c10]) rfl ⟨rfl, ?_⟩
  exact bset ((below1 w _).trans (hb1.mono (by simp))) (Nat.le_refl _) _ _ _ _ _ _ _ _ _ _ _

set_option maxRecDepth 100000 in
set_option maxHeartbeats 2000000 in
theorem float_good (s x y : ByteArray) (n : Nat) (HC : Hid (∀ W, Calls Tryd.prog 61 #[.string s, .string ⟨#[46]⟩] W fun r w' => r = .returned (.tuple #[.string x, .string y, .bool true]) ∧ Below W.heap.size W w')) (HP : Hid (∀ W, Calls Tryd.prog 60 #[.string x] W fun r w' => r = .returned (.bool true) ∧ w' = W)) (HD : Hid (∀ W, Calls Tryd.prog 59 #[.string (x ++ y)] W fun r w' => r = .returned (.tuple #[.int .u64 n, .bool true]) ∧ w' = W)) (hy : y.toList.isEmpty = false) (hl : ¬ 15 < (x.size : Int) + y.size) (hn : n < 9007199254740992) (w : World) :
    Calls Tryd.prog 24 #[.string s] w fun r w' => r = .returned (.tuple #[.agg #[.int .i64 3, .string ⟨#[102, 108, 111, 97, 116]⟩, .int .i64 0, .int .u64 (fq n y.size), .string ⟨#[]⟩, .int .i64 0, .int .i64 0, .int .i64 0, .int .i64 0, .slice none 0 0, .slice none 0 0], .bool true]) ∧ Below w.heap.size w w' := by
  have hj : y.size < 16 := by omega
  obtain ⟨hq1, hq2, hq3⟩ := fq_some n y.size hn hj
  have hQ : Hid (∀ W : World, (binOp .quo 83 (.float .f64 (floatOfInt .f64 n)) (.float .f64 (floatOfInt .f64 ((10 ^ y.size : Nat) : Int)))).run Tryd.prog W = .ok (.float .f64 (fq n y.size)) W) := fun W => run_float_arith W .quo 83 .f64 _ _ _ hq1
  have HF : Hid (∀ W, Calls Tryd.prog 34 #[.string ⟨#[102, 108, 111, 97, 116]⟩, .int .u64 (fq n y.size : Nat)] W fun r w' => r = .returned (.agg #[.int .i64 3, .string ⟨#[102, 108, 111, 97, 116]⟩, .int .i64 0, .int .u64 (fq n y.size : Nat), .string ⟨#[]⟩, .int .i64 0, .int .i64 0, .int .i64 0, .int .i64 0, .slice none 0 0, .slice none 0 0]) ∧ Below W.heap.size W w') := fun W => by
    have h := floatOf_any ⟨#[102, 108, 111, 97, 116]⟩ (fq n y.size : Nat) W (by decide) (by omega) (by omega)
    have e : canon (fq n y.size : Nat) = (fq n y.size : Nat) := by unfold canon; rw [Int.toNat_natCast, hq2]; rfl
    rw [e] at h
    exact h
  clear hq1 hq2 hq3
  generalize fq n y.size = q at HF hQ ⊢
  go_enter Tryd.func24, Tryd.ntmps24
  go_wp2_with fail
  refine (HC.out _).mono ?_
  rintro r w1 ⟨rfl, hb1⟩
  have hz1 : w.heap.size < w1.heap.size := by have := hb1.size; simp at this; omega
  have hr1 : Hid (w1.heap[w.heap.size]? = some (.cells zeros 28 (0, 0))) := (hb1.block _ (by simp)).trans (heap_alloc_new _ _)
  go_wp2_with (first | (go_at_call 60; refine (HP.out _).mono ?_; rintro r w' ⟨rfl, rfl⟩) | (go_at_call 59; refine (HD.out _).mono ?_; rintro r w' ⟨rfl, rfl⟩))
  go_loop [8, 47] (fun xv i => ∃ k : Nat, k ≤ y.size ∧ i = .int .i64 k ∧ Hid (xv = .float .f64 (floatOfInt .f64 ((10 ^ k : Nat) : Int)))) (fun _ i => y.size - (intOf i).toNat)
  case atStart => exact ⟨0, Nat.zero_le _, rfl, (show Value.float .f64 4607182418800017408 = Value.float .f64 (floatOfInt .f64 ((10 ^ 0 : Nat) : Int)) by kernel_rfl)⟩
  case round =>
    obtain ⟨k, hk, rfl, hx⟩ := hrel
    by_cases hlt : k < y.size
    · have hM : Hid (∀ W : World, (binOp .mul 83 (.float .f64 (floatOfInt .f64 ((10 ^ k : Nat) : Int))) (.float .f64 4621819117588971520)).run Tryd.prog W = .ok (.float .f64 (floatOfInt .f64 ((10 ^ (k + 1) : Nat) : Int))) W) := fun W => run_float_arith W .mul 83 .f64 _ _ _ (ten_mul k (by omega))
      obtain ⟨F, hF⟩ : ∃ F, Hid (F = floatOfInt .f64 ((10 ^ k : Nat) : Int)) := ⟨_, rfl⟩
      obtain ⟨G, hG⟩ : ∃ G, Hid (G = floatOfInt .f64 ((10 ^ (k + 1) : Nat) : Int)) := ⟨_, rfl⟩
      have hx2 := hx.out
      rw [← hF.out] at hx2 hM
      rw [← hG.out] at hM
      clear hx
      subst hx2
      have hM2 := hM.out
      go_wp2
      exact ⟨⟨k + 1, by omega, rfl, hG.out ▸ rfl⟩, by simp [intOf]; omega⟩
    · have e : k = y.size := by omega
      subst e
      obtain ⟨F, hF⟩ : ∃ F, Hid (F = floatOfInt .f64 ((10 ^ y.size : Nat) : Int)) := ⟨_, rfl⟩
      have hx2 := hx.out
      rw [← hF.out] at hx2 hQ
      clear hx
      subst hx2
      have hQ2 := hQ.out
      go_wp2_with (go_at_call 34; refine (HF.out _).mono ?_; rintro r w2 ⟨rfl, hb⟩; obtain ⟨⟨c0, c1, c2, c3, c4, c5, c6, c7, c8, c9, c10⟩, hf2⟩ := box_kept ((hb.block _ hz1).trans hr1.out))
      refine bodyPost_ret (v := .tuple #[.agg #[.int .i64 3, .string ⟨#[102, 108, 111, 97, 116]⟩, .int .i64 0, .int .u64 q, .string ⟨#[]⟩, .int .i64 0, .int .i64 0, .int .i64 0, .int .i64 0, .slice none 0 0, .slice none 0 0], .bool true]) (by simp [results, Tryd.results24, go_sem, c0, c1, c2, c3, c4, c5, c6, c7, c8, c9, c10]) rfl ⟨rfl, ?_⟩
      exact bset ((below1 w _).trans ((hb1.mono (by simp)).trans (hb.mono (by omega)))) (Nat.le_refl _) _ _ _ _ _ _ _ _ _ _ _
end Go.Proofs.YtoplmbboaobahaaDoor
