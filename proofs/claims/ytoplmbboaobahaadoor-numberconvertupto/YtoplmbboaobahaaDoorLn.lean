/-
  lent and back, of an empty path.
-/
import Derived.Test.YtoplmbboaobahaaDoorBq
namespace Go.Proofs.YtoplmbboaobahaaDoor
open Go.RowKit
attribute [local go_sem] refold2 cell3_0 cell3_1 b28_0 b28_01 b28_012 b28_013 b28_014 b35_01 b35_0 b35 mkI69

set_option maxRecDepth 100000 in
set_option maxHeartbeats 4000000 in
theorem lent_nil (k : Int) (t : ByteArray) (n f : Int) (s : ByteArray) (r0 r1 r2 r3 : Int) (ip : Option Addr) (il ic : Nat) (pp : Option Addr) (c : Nat) (w : World) :
    Calls Tryd.prog 17 #[D k t n f s r0 r1 r2 r3 (.slice pp 0 c) (.slice ip il ic)] w fun r w' => ∃ g, r = .returned (.tuple #[D k t n f s r0 r1 r2 r3 (.slice (some ⟨g, 0, none⟩) 0 2) (.slice ip il ic), .slice (some ⟨g, 0, none⟩) 2 2]) ∧ w'.ownsRow w.heap.size 3 1 (.slice (some ⟨g, 0, none⟩) 2 2) 2 [.int .i64 (-71), .int .i64 (-72)] ∧ Below w.heap.size w w' := by
  obtain ⟨i0, hi, hz0, hz1, hz2⟩ := info_parts info3
  have hinfo : (Tryd.prog.info? 3).map (·.size) = some 1 := by rw [hi]; simp [hz1]
  obtain ⟨M, hM⟩ : ∃ M, M = madeCells (Value.int .i64 0).cells ((2 : Int).toNat * i0.size) := ⟨_, rfl⟩
  have hMs : M.size = 2 := by rw [hM, size_madeCells, hz1]; rfl
  have hmk : ∀ W : World, (Instr.makeSlice 23 (.int .i64 2) (.int .i64 2)).run Tryd.prog W = .ok (.slice (some ⟨W.heap.size, 0, none⟩) 2 2) (W.alloc (.cells M 3)) := fun W => by
    have h := run_make (P := Tryd.prog) W 23 3 i0 (.int .i64 0) Tryd.underlying23 hi hz0 .i64 .i64 2 2 (by omega) (by omega) (by rw [hz2]; omega) (by omega)
    rw [← hM] at h
    exact h
  have hcp : ∀ W : World, (Builtin.copy_ #[23, 23] 3 #[.slice (some ⟨w.heap.size + 1 + 1, 0, none⟩) 2 2, .slice pp 0 c]).run Tryd.prog W = .ok (.int .i64 0) W := fun W =>
    run_copy_none (P := Tryd.prog) W 23 23 3 3 _ pp 2 2 0 c Tryd.underlying23 hinfo (by simp)
  obtain rfl : M = #[.int .i64 0, .int .i64 0] := by rw [hM, hz1]; simp only [madeCells]; rw [show Array.range (Int.toNat 2 * 1) = #[0, 1] by decide]; simp [Value.cells]
  clear hM hMs
  simp only [D]
  go_enter Tryd.func17, Tryd.ntmps17
  go_wp2_with fail
  refine bodyPost_ret (v := .tuple #[.agg #[.int .i64 k, .string t, .int .i64 n, .int .u64 f, .string s, .int .i64 r0, .int .i64 r1, .int .i64 r2, .int .i64 r3, .slice (some ⟨w.heap.size + 1 + 1, 0, none⟩) 0 2, .slice ip il ic], .slice (some ⟨w.heap.size + 1 + 1, 0, none⟩) 2 2]) (by simp [results, Tryd.results17, go_sem]) rfl ⟨_, rfl, ?_, ?_⟩
  · exact ⟨rfl, .inr ⟨_, 2, _, rfl, by omega, heap3_2 _ _ _ _, Nat.le_refl _, by unfold maxLen; omega, rfl, rfl⟩⟩
  · exact below3 _ _ _ _
end Go.Proofs.YtoplmbboaobahaaDoor
