/-
  The walks of Float at the chapter's example, and of told at a fault.
-/
import Derived.Test.YtoplmbboaobahaaDoorH
import Derived.Lib.IfaceEq
import Derived.Stop.Asserts
namespace Go.Proofs.YtoplmbboaobahaaDoor
open Go.RowKit

attribute [local go_sem] refold2 b28_0 b28_01 b28_012 b28_013 b28_014 b35_01 b35_0 b35 mkI69 x56 x57

theorem fmul10 (w : World) : (binOp .mul 83 (.float .f64 4607182418800017408) (.float .f64 4621819117588971520)).run Tryd.prog w = .ok (.float .f64 4621819117588971520) w := run_float_arith w .mul 83 .f64 _ _ _ (by kernel_rfl)
theorem fquo15 (w : World) : (binOp .quo 83 (.float .f64 (floatOfInt .f64 15)) (.float .f64 4621819117588971520)).run Tryd.prog w = .ok (.float .f64 4609434218613702656) w := run_float_arith w .quo 83 .f64 _ _ _ (by kernel_rfl)

set_option maxRecDepth 100000 in
set_option maxHeartbeats 1000000 in
theorem float_x (w : World) : Calls Tryd.prog 24 #[.string ⟨#[49, 46, 53]⟩] w fun r w' => r = .returned (.tuple #[dat 3 ⟨#[102, 108, 111, 97, 116]⟩ 0 4609434218613702656 ⟨#[]⟩, .bool true]) ∧ Below w.heap.size w w' := by
  have e1 : digN [49, 53] = 15 := by decide
  have e2 : digB [49, 53] = true := by decide
  have HD : Hid (∀ W, Calls Tryd.prog 59 #[.string (⟨#[49]⟩ ++ ⟨#[53]⟩)] W fun r w' => r = .returned (.tuple #[.int .u64 15, .bool true]) ∧ w' = W) := fun W => by
    have h := digits_any ⟨#[49, 53]⟩ W (by decide)
    rw [e1, e2] at h
    exact h
  clear e1 e2
  have hm := fmul10
  have hq := fquo15
  go_enter Tryd.func24, Tryd.ntmps24
  go_wp2_with fail
  refine (cut_x _).mono ?_
  rintro r w1 ⟨rfl, hb1⟩
  have hz1 : w.heap.size < w1.heap.size := by have := hb1.size; simp at this; omega
  have hr1 : Hid (w1.heap[w.heap.size]? = some (.cells zeros 28 (0, 0))) := (hb1.block _ (by simp)).trans (heap_alloc_new _ _)
  go_wp2_with (first
    | (go_at_call 60; refine (plain_1 _).mono ?_; rintro r w' ⟨rfl, rfl⟩)
    | (go_at_call 59; refine (HD.out _).mono ?_; rintro r w' ⟨rfl, rfl⟩))
  go_loop [8, 47] (fun x i => i = .int .i64 0 ∧ x = .float .f64 4607182418800017408 ∨ i = .int .i64 1 ∧ x = .float .f64 4621819117588971520) (fun _ i => 1 - (intOf i).toNat)
  case atStart => exact .inl ⟨rfl, rfl⟩
  case round =>
    rcases hrel with ⟨rfl, rfl⟩ | ⟨rfl, rfl⟩
    · go_wp2
      exact ⟨.inr ⟨rfl, rfl⟩, by decide⟩
    · go_wp2_with (go_at_call 34; refine (floatOf_x _).mono ?_; simp only [dat, D]; rintro r w2 ⟨rfl, hb⟩; obtain ⟨⟨c0, c1, c2, c3, c4, c5, c6, c7, c8, c9, c10⟩, hf2⟩ := box_kept ((hb.block _ hz1).trans hr1.out))
      refine bodyPost_ret (v := .tuple #[dat 3 ⟨#[102, 108, 111, 97, 116]⟩ 0 4609434218613702656 ⟨#[]⟩, .bool true]) (by simp [results, Tryd.results24, go_sem, c0, c1, c2, c3, c4, c5, c6, c7, c8, c9, c10, dat, D]) rfl ⟨rfl, ?_⟩
      exact bset ((below1 w _).trans ((hb1.mono (by simp)).trans (hb.mono (by omega)))) (Nat.le_refl _) _ _ _ _ _ _ _ _ _ _ _

theorem ta69 (v : Value) (W : World) : (Instr.typeAssert (.iface 69 v) 31 69 true).run Tryd.prog W = .ok (.tuple #[v, .bool true]) W := by
  simp [Instr.typeAssert, go_sem]

set_option maxRecDepth 100000 in
set_option maxHeartbeats 1000000 in
/-- A fault that is the one asked for. -/
theorem told_hit (n : Nat) (word more : ByteArray) (w : World) (hn : w.heap[n]? = some (.cells #[.string word, .string more] 35 (0, 0))) (hne : word.size ≠ 0) :
    Calls Tryd.prog 13 #[.iface 69 (.pointer (some ⟨n, 0, none⟩)), .agg #[.string word, .string more]] w fun r w' => r = .returned (.bool true) ∧ Below w.heap.size w w' := by
  have hc0 : w.cell? ⟨n, 0, none⟩ = some (.string word) := by simp [World.cell?, hn]
  have hc1 : w.cell? ⟨n, 1, none⟩ = some (.string more) := by simp [World.cell?, hn]
  have hta := ta69
  have hnl : n < w.heap.size := by
    rcases Nat.lt_or_ge n w.heap.size with h | h
    · exact h
    · rw [Array.getElem?_eq_none h] at hn; cases hn
  have hem : word.toList.isEmpty = false := by
    rw [ByteArray.toList_eq]
    cases h : word.data.toList with
    | nil => exact absurd (by rw [Lib.size_eq, h]; rfl) hne
    | cons a b => rfl
  clear hn hne
  go_enter Tryd.func13, Tryd.ntmps13
  go_wp2
  go_region
  go_wp2
  go_ret
  exact ⟨rfl, (below1 _ _).drew⟩
end Go.Proofs.YtoplmbboaobahaaDoor
