/-
  Right, of data without Items.
  Of, of data without Items.
-/
import Derived.Test.YtnhbpcmiolkllabDoorG
import Derived.Test.YtnhbpcmiolkllabDoorI
namespace Go.Proofs.YtnhbpcmiolkllabDoor
open Go.RowKit
attribute [local go_sem] refold2 cell3_0 cell3_1 b28_0 b28_01

set_option maxRecDepth 100000 in
set_option maxHeartbeats 1000000 in
theorem Right_gen (k : Int) (t : ByteArray) (a f : Int) (s : ByteArray) (r0 r1 r2 r3 : Int) (p i : Value) (bt : Bool) (w : World) (hN : NamesAt w)
    (hR : ∀ (b : Nat) (rm : Int) (W : World), NamesAt W → W.cell? ⟨b, 0, none⟩ = some (.int .i64 rm) → W.frozen? ⟨b, 0, none⟩ = false → 0 < b → b < W.heap.size → 1 ≤ rm → rm ≤ 100 → Calls Tryd.prog 22 #[D k t a f s r0 r1 r2 r3 p i, .pointer (some ⟨b, 0, none⟩)] W fun r w' => r = .returned (.bool bt) ∧ Below b W w') :
    Calls Tryd.prog 8 #[D k t a f s r0 r1 r2 r3 p i] w fun r w' => r = .returned (.bool bt) ∧ Below w.heap.size w w' := by
  have HR : Hid (Calls Tryd.prog 22 #[D k t a f s r0 r1 r2 r3 p i, .pointer (some ⟨w.heap.size + 1, 0, none⟩)] ((w.alloc (.cells #[.int .i64 k, .string t, .int .i64 a, .int .u64 f, .string s, .int .i64 r0, .int .i64 r1, .int .i64 r2, .int .i64 r3, p, i] 32)).alloc (.cells #[.int .i64 100] 3)) fun r w' => r = .returned (.bool bt) ∧ Below w.heap.size w w') :=
    (hR (w.heap.size + 1) 100 _ (hN.kept (below2 _ _ _)) (row_at (heap2_1 _ _ _) 0) (fz _ _ _ _ 0 (heap2_1 _ _ _)) (by omega) (by simp) (by omega) (by omega)).mono fun r w' h => ⟨h.1, (below2 _ _ _).trans (h.2.mono (by omega))⟩
  clear hR hN
  simp only [D] at HR ⊢
  go_enter Tryd.func8, Tryd.ntmps8
  go_wp2_with (go_at_call 22; refine HR.out.mono ?_; rintro r w' ⟨rfl, hb⟩)
  go_ret
  exact ⟨rfl, hb⟩

theorem Right_nil (w : World) (hN : NamesAt w) : Calls Tryd.prog 8 #[dat 0 ⟨#[]⟩ 0 0 ⟨#[]⟩] w fun r w' => r = .returned (.bool true) ∧ Below w.heap.size w w' :=
  Right_gen 0 ⟨#[]⟩ 0 0 ⟨#[]⟩ 0 0 0 0 _ _ true w hN right_nil
theorem Right_int (t : ByteArray) (a : Int) (w : World) (hN : NamesAt w) : Calls Tryd.prog 8 #[dat 2 t a 0 ⟨#[]⟩] w fun r w' => r = .returned (.bool (t.toList == [105, 110, 116] || declB t)) ∧ Below w.heap.size w w' :=
  Right_gen 2 t a 0 ⟨#[]⟩ 0 0 0 0 _ _ _ w hN (right_int t a)
theorem Right_list (t : ByteArray) (w : World) (hN : NamesAt w) : Calls Tryd.prog 8 #[dat 5 t 0 0 ⟨#[]⟩] w fun r w' => r = .returned (.bool (t.toList == [108, 105, 115, 116] || declB t)) ∧ Below w.heap.size w w' :=
  Right_gen 5 t 0 0 ⟨#[]⟩ 0 0 0 0 _ _ _ w hN (right_list t)
theorem Right_func (t : ByteArray) (w : World) (hN : NamesAt w) : Calls Tryd.prog 8 #[dat 7 t 0 0 ⟨#[]⟩] w fun r w' => r = .returned (.bool (t.toList == [102, 117, 110, 99] || declB t)) ∧ Below w.heap.size w w' :=
  Right_gen 7 t 0 0 ⟨#[]⟩ 0 0 0 0 _ _ _ w hN (right_func t)
end Go.Proofs.YtnhbpcmiolkllabDoor
namespace Go.Proofs.YtnhbpcmiolkllabDoor
open Go.RowKit
attribute [local go_sem] refold2 cell3_0 cell3_1 b28_0 b28_01
theorem taR2 (v : Value) (w : World) : (Instr.typeAssert (.iface 122 v) 49 92 true).run Tryd.prog w = .ok (.tuple #[.agg #[.pointer none], .bool false]) w := by kernel_rfl
theorem taR5 (v : Value) (w : World) : (Instr.typeAssert (.iface 126 v) 49 92 true).run Tryd.prog w = .ok (.tuple #[.agg #[.pointer none], .bool false]) w := by kernel_rfl
theorem taR6 (v : Value) (w : World) : (Instr.typeAssert (.iface 127 v) 49 92 true).run Tryd.prog w = .ok (.tuple #[.agg #[.pointer none], .bool false]) w := by kernel_rfl
theorem taR7 (v : Value) (w : World) : (Instr.typeAssert (.iface 128 v) 49 92 true).run Tryd.prog w = .ok (.tuple #[.agg #[.pointer none], .bool false]) w := by kernel_rfl
theorem taR9 (v : Value) (w : World) : (Instr.typeAssert (.iface 129 v) 49 92 true).run Tryd.prog w = .ok (.tuple #[.agg #[.pointer none], .bool false]) w := by kernel_rfl
attribute [local go_sem] taR2 taR5 taR6 taR7 taR9

set_option maxRecDepth 100000 in
set_option maxHeartbeats 2000000 in
theorem Of_int (t : ByteArray) (a : Int) (w : World) (hN : NamesAt w) (ht : t.size ≤ 140737488351232) (hr : (t.toList == [105, 110, 116] || declB t) = true) :
    Calls Tryd.prog 17 #[dat 2 t a 0 ⟨#[]⟩] w fun r w' => ∃ b, r = .returned (.tuple #[.iface 122 (.agg #[.pointer (some ⟨b, 0, none⟩)]), .nilIface]) ∧ w.heap.size ≤ b ∧ w'.heap[b]? = some (.cells #[.int .i64 2, .string t, .int .i64 a, .int .u64 0, .string ⟨#[]⟩, .int .i64 0, .int .i64 0, .int .i64 0, .int .i64 0, .slice none 0 0, .slice none 0 0] 32 (0, 0)) ∧ Below w.heap.size w w' := by
  have HR : Hid (∀ W, NamesAt W → Calls Tryd.prog 8 #[dat 2 t a 0 ⟨#[]⟩] W fun r w' => r = .returned (.bool true) ∧ Below W.heap.size W w') := fun W h => by rw [← hr]; exact Right_int t a W h
  have HC : Hid (∀ W, Calls Tryd.prog 32 #[dat 2 t a 0 ⟨#[]⟩] W fun r w' => r = .returned (dat 2 t a 0 ⟨#[]⟩) ∧ Below W.heap.size W w') := fun W => copied_flat 2 t a 0 ⟨#[]⟩ 0 0 0 0 W ht (by decide)
  clear hr ht
  simp only [dat, D] at HR HC ⊢
  go_enter Tryd.func17, Tryd.ntmps17
  go_wp2_with fail
  refine (HR.out _ (hN.kept (below1 _ _))).mono ?_
  rintro r w1 ⟨rfl, b1⟩
  have e1 : ∀ j, w1.cell? ⟨w.heap.size, j, none⟩ = (#[.int .i64 2, .string t, .int .i64 a, .int .u64 0, .string ⟨#[]⟩, .int .i64 0, .int .i64 0, .int .i64 0, .int .i64 0, .slice none 0 0, .slice none 0 0] : Array Value)[j]? := fun j => by rw [b1.cell (p := ⟨w.heap.size, j, none⟩) (by simp), World.cell?_alloc_new]
  have q1 : Below w.heap.size w w1 := (below1 _ _).trans (b1.mono (by simp))
  have z1 : w.heap.size < w1.heap.size := by have := b1.size; simp at this; omega
  go_wp2_with fail
  refine (HC.out _).mono ?_
  rintro r w2 ⟨rfl, b2⟩
  have q2 : Below w.heap.size w w2 := q1.trans (b2.mono q1.size)
  have z2 := b2.size
  clear e1
  go_wp2_with fail
  refine (behind_2 w2.heap.size _ (by rw [World.cell?_alloc_new]; rfl) (by simp)).mono ?_
  rintro r w3 ⟨rfl, b3⟩
  have q3 : Below w.heap.size w w3 := (q2.alloc q2.size _).trans (b3.mono (by simp; omega))
  have hr3 : Hid (w3.heap[w2.heap.size]? = some (.cells #[.int .i64 2, .string t, .int .i64 a, .int .u64 0, .string ⟨#[]⟩, .int .i64 0, .int .i64 0, .int .i64 0, .int .i64 0, .slice none 0 0, .slice none 0 0] 32 (0, 0))) := (b3.block w2.heap.size (by simp)).trans (heap_alloc_new _ _)
  go_wp2_with fail
  refine bodyPost_ret (v := .tuple #[.iface 122 (.agg #[.pointer (some ⟨w2.heap.size, 0, none⟩)]), .nilIface]) (by simp [results, Tryd.results17, go_sem]) rfl ⟨_, rfl, q2.size, (Below.heap_alloc _ _ _ (row_ltT hr3.out)).trans hr3.out, q3.alloc q3.size _⟩

theorem taRn (w : World) : (Instr.typeAssert .nilIface 49 92 true).run Tryd.prog w = .ok (.tuple #[.agg #[.pointer none], .bool false]) w := by kernel_rfl
attribute [local go_sem] taRn
end Go.Proofs.YtnhbpcmiolkllabDoor
