/-
  The document's own Binary, of floats.
-/
import Derived.Test.YtoplmbboaobahaaDoorBg
import Derived.Test.YtoplmbboaobahaaDoorZ
namespace Go.Proofs.YtoplmbboaobahaaDoor
open Go.RowKit
attribute [local go_sem] refold2 cell3_0 cell3_1 cell4_0 cell4_1 cell4_2 frozen4_1 frozen4_2 b28_0 b28_01 b28_012 b28_013 b28_014 b35_01 b35_0 b35 mkI69 x56 x57

theorem toB_any (b : Nat) (w : World) : Calls Tryd.prog 53 #[.float .f64 b] w fun r w' => r = .returned (.int .u64 b) ∧ w' = w := by
  go_enter Tryd.func53, Tryd.ntmps53
  go_wp2
  go_ret
  exact ⟨rfl, rfl⟩

set_option maxRecDepth 100000 in
set_option maxHeartbeats 8000000 in
theorem refBinary_flt (o : FOp) (t : ByteArray) (a f : Int) (s : ByteArray) (r0 r1 r2 r3 : Int) (p i : Value) (b f2 : Int) (s2 : ByteArray) (q0 q1 q2 q3 : Int) (p2 i2 : Value) (w : World) (x0 y0 z0 : Bool) (HO : Hid (∀ W, Calls Tryd.prog 47 #[D 3 t a f s r0 r1 r2 r3 p i, D 3 t b f2 s2 q0 q1 q2 q3 p2 i2] W fun r w' => r = .returned (.tuple #[.bool x0, .bool y0, .bool z0]) ∧ Below W.heap.size W w'))  :
    Calls Tryd.prog 16 #[.string o.txt, D 3 t a f s r0 r1 r2 r3 p i, D 3 t b f2 s2 q0 q1 q2 q3 p2 i2] w fun r w' => r = .returned (.tuple #[.agg #[.int .i64 3, .string t, .int .i64 0, .int .u64 (fC o f.toNat f2.toNat), .string ⟨#[]⟩, .int .i64 0, .int .i64 0, .int .i64 0, .int .i64 0, .slice none 0 0, .slice none 0 0], .agg #[.string ⟨#[]⟩, .string ⟨#[]⟩]]) ∧ Below w.heap.size w w' := by
  have HW : Hid (∀ W, Calls Tryd.prog 48 #[.string o.txt, .bool x0, .bool y0, .bool z0] W fun r w' => r = .returned (.tuple #[.bool false, .bool false]) ∧ w' = W) := fun W => whether_none _ x0 y0 z0 W (by rw [ByteArray.toList_eq]; cases o <;> decide) (by rw [ByteArray.toList_eq]; cases o <;> decide) (by rw [ByteArray.toList_eq]; cases o <;> decide) (by rw [ByteArray.toList_eq]; cases o <;> decide)
  have HR : Hid (∀ W : World, ∃ (r : Nat) (W' : World), (binOp o.bop 83 (.float .f64 f.toNat) (.float .f64 f2.toNat)).run Tryd.prog W = .ok (.float .f64 r) W' ∧ (W' = W ∨ W' = W.drew) ∧ r < 18446744073709551616 ∧ canon r = fC o f.toNat f2.toNat) := fun W => float_run o 83 f.toNat f2.toNat W
  generalize fC o f.toNat f2.toNat = c at HR ⊢
  simp only [D] at HO ⊢
  cases o <;> simp only [FOp.txt, FOp.bop] at HW HR ⊢
  all_goals
    go_enter Tryd.func16, Tryd.ntmps16
    go_wp2_with fail
    refine (HO.out _).mono ?_
    rintro r w1 ⟨rfl, b1⟩
    obtain ⟨ea, eb, R2, R3, z⟩ := four_kept _ _ _ _ b1
    have za : w.heap.size < w1.heap.size := by omega
    have zb : w.heap.size + 1 < w1.heap.size := by omega
    have zc : w.heap.size + 1 + 1 < w1.heap.size := by omega
    go_wp2_with fail
    refine (HW.out _).mono ?_
    rintro r w1 ⟨rfl, rfl⟩
    obtain ⟨⟨c0, c1, c2, c3, c4, c5, c6, c7, c8, c9, c10⟩, hf2⟩ := box_kept R2.out
    obtain ⟨g0, g1, gf⟩ := box35_kept R3.out
    clear R2 R3
    go_wp2_with fail
    refine (fromB_any _ _).mono ?_
    rintro r w2 ⟨rfl, rfl⟩
    go_wp2_with fail
    refine (fromB_any _ _).mono ?_
    rintro r w2 ⟨rfl, rfl⟩
    obtain ⟨v, W', hrun, hW, hv, hcv⟩ := HR.out (w1.alloc (.cells #[.int .i64 3, .string t, .int .i64 0, .int .u64 0, .string ⟨#[]⟩, .int .i64 0, .int .i64 0, .int .i64 0, .int .i64 0, .slice none 0 0, .slice none 0 0] 28))
    have HB : Hid (∀ W, Calls Tryd.prog 39 #[.int .u64 (v : Int)] W fun r w' => r = .returned (.int .u64 c) ∧ w' = W) := fun W => by
      have := refBits_any (v : Int) W (by omega) (by omega)
      rw [hcv] at this
      exact this
    clear hcv hv
    rcases hW with rfl | rfl
    · go_wp2_with fail
      refine (toB_any _ _).mono ?_
      rintro r w2 ⟨rfl, rfl⟩
      go_wp2_with fail
      refine (HB.out _).mono ?_
      rintro r w2 ⟨rfl, rfl⟩
      go_wp2_with fail
      refine bodyPost_ret (v := .tuple #[.agg #[.int .i64 3, .string t, .int .i64 0, .int .u64 c, .string ⟨#[]⟩, .int .i64 0, .int .i64 0, .int .i64 0, .int .i64 0, .slice none 0 0, .slice none 0 0], .agg #[.string ⟨#[]⟩, .string ⟨#[]⟩]]) (by simp [results, Tryd.results16, go_sem, c0, c1, c2, c3, c4, c5, c6, c7, c8, c9, c10, g0, g1, zc, z]) rfl ⟨rfl, ?_⟩
      exact (((bset ((below4 w _ _ _ _).trans (b1.mono (by simp; omega))) (by omega : w.heap.size ≤ w.heap.size + 1 + 1) _ _ _ _ _ _ _ _ _ _ _).setCell (by show _ ≤ _; simp; omega) _).setCell (by show _ ≤ _; simp; omega) _).alloc (by simp; omega) _
    · go_wp2_with fail
      refine (toB_any _ _).mono ?_
      rintro r w2 ⟨rfl, rfl⟩
      go_wp2_with fail
      refine (HB.out _).mono ?_
      rintro r w2 ⟨rfl, rfl⟩
      go_wp2_with fail
      refine bodyPost_ret (v := .tuple #[.agg #[.int .i64 3, .string t, .int .i64 0, .int .u64 c, .string ⟨#[]⟩, .int .i64 0, .int .i64 0, .int .i64 0, .int .i64 0, .slice none 0 0, .slice none 0 0], .agg #[.string ⟨#[]⟩, .string ⟨#[]⟩]]) (by simp [results, Tryd.results16, go_sem, c0, c1, c2, c3, c4, c5, c6, c7, c8, c9, c10, g0, g1, zc, z]) rfl ⟨rfl, ?_⟩
      exact ((((bset ((below4 w _ _ _ _).trans (b1.mono (by simp; omega))) (by omega : w.heap.size ≤ w.heap.size + 1 + 1) _ _ _ _ _ _ _ _ _ _ _).setCell (by show _ ≤ _; simp; omega) _).setCell (by show _ ≤ _; simp; omega) _).alloc (by simp; omega) _).drew
end Go.Proofs.YtoplmbboaobahaaDoor
