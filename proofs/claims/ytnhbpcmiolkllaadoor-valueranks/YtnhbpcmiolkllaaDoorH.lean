/-
  Right, of data without Items.
-/
import Derived.Test.YtnhbpcmiolkllaaDoorG
namespace Go.Proofs.YtnhbpcmiolkllaaDoor
open Go.RowKit
attribute [local go_sem] refold2 cell3_0 cell3_1 b28_0 b28_01

set_option maxRecDepth 100000 in
set_option maxHeartbeats 1000000 in
theorem Right_gen (k : Int) (t : ByteArray) (a f : Int) (s : ByteArray) (r0 r1 r2 r3 : Int) (p i : Value) (bt : Bool) (w : World) (hN : NamesAt w)
    (hR : ∀ (b : Nat) (rm : Int) (W : World), NamesAt W → W.cell? ⟨b, 0, none⟩ = some (.int .i64 rm) → W.frozen? ⟨b, 0, none⟩ = false → 0 < b → b < W.heap.size → 1 ≤ rm → rm ≤ 100 → Calls Tryd.prog 31 #[D k t a f s r0 r1 r2 r3 p i, .pointer (some ⟨b, 0, none⟩)] W fun r w' => r = .returned (.bool bt) ∧ Below b W w') :
    Calls Tryd.prog 10 #[D k t a f s r0 r1 r2 r3 p i] w fun r w' => r = .returned (.bool bt) ∧ Below w.heap.size w w' := by
  have HR : Hid (Calls Tryd.prog 31 #[D k t a f s r0 r1 r2 r3 p i, .pointer (some ⟨w.heap.size + 1, 0, none⟩)] ((w.alloc (.cells #[.int .i64 k, .string t, .int .i64 a, .int .u64 f, .string s, .int .i64 r0, .int .i64 r1, .int .i64 r2, .int .i64 r3, p, i] 28)).alloc (.cells #[.int .i64 100] 3)) fun r w' => r = .returned (.bool bt) ∧ Below w.heap.size w w') :=
    (hR (w.heap.size + 1) 100 _ (hN.kept (below2 _ _ _)) (row_at (heap2_1 _ _ _) 0) (fz _ _ _ _ 0 (heap2_1 _ _ _)) (by omega) (by simp) (by omega) (by omega)).mono fun r w' h => ⟨h.1, (below2 _ _ _).trans (h.2.mono (by omega))⟩
  clear hR hN
  simp only [D] at HR ⊢
  go_enter Tryd.func10, Tryd.ntmps10
  go_wp2_with (go_at_call 31; refine HR.out.mono ?_; rintro r w' ⟨rfl, hb⟩)
  go_ret
  exact ⟨rfl, hb⟩

theorem Right_nil (w : World) (hN : NamesAt w) : Calls Tryd.prog 10 #[dat 0 ⟨#[]⟩ 0 0 ⟨#[]⟩] w fun r w' => r = .returned (.bool true) ∧ Below w.heap.size w w' :=
  Right_gen 0 ⟨#[]⟩ 0 0 ⟨#[]⟩ 0 0 0 0 _ _ true w hN right_nil
theorem Right_int (t : ByteArray) (a : Int) (w : World) (hN : NamesAt w) : Calls Tryd.prog 10 #[dat 2 t a 0 ⟨#[]⟩] w fun r w' => r = .returned (.bool (t.toList == [105, 110, 116] || declB t)) ∧ Below w.heap.size w w' :=
  Right_gen 2 t a 0 ⟨#[]⟩ 0 0 0 0 _ _ _ w hN (right_int t a)
theorem Right_list (t : ByteArray) (w : World) (hN : NamesAt w) : Calls Tryd.prog 10 #[dat 5 t 0 0 ⟨#[]⟩] w fun r w' => r = .returned (.bool (t.toList == [108, 105, 115, 116] || declB t)) ∧ Below w.heap.size w w' :=
  Right_gen 5 t 0 0 ⟨#[]⟩ 0 0 0 0 _ _ _ w hN (right_list t)
theorem Right_map (t : ByteArray) (w : World) (hN : NamesAt w) : Calls Tryd.prog 10 #[dat 6 t 0 0 ⟨#[]⟩] w fun r w' => r = .returned (.bool (t.toList == [109, 97, 112] || declB t)) ∧ Below w.heap.size w w' :=
  Right_gen 6 t 0 0 ⟨#[]⟩ 0 0 0 0 _ _ _ w hN (right_map t)
theorem Right_func (t : ByteArray) (w : World) (hN : NamesAt w) : Calls Tryd.prog 10 #[dat 7 t 0 0 ⟨#[]⟩] w fun r w' => r = .returned (.bool (t.toList == [102, 117, 110, 99] || declB t)) ∧ Below w.heap.size w w' :=
  Right_gen 7 t 0 0 ⟨#[]⟩ 0 0 0 0 _ _ _ w hN (right_func t)
theorem Right_ptr (t : ByteArray) (w : World) (hN : NamesAt w) : Calls Tryd.prog 10 #[dat 9 t 0 0 ⟨#[]⟩] w fun r w' => r = .returned (.bool (declB t)) ∧ Below w.heap.size w w' :=
  Right_gen 9 t 0 0 ⟨#[]⟩ 0 0 0 0 _ _ _ w hN (right_ptr t)
end Go.Proofs.YtnhbpcmiolkllaaDoor
