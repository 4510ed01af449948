/-
  value's copy of any right datum.
  Of, of data without Items.
  The document's Right, at any datum.
-/
import Derived.Test.YtnhbpcmiolkllabDoorKb2
import Derived.Test.YtnhbpcmiolkllabDoorHJ
import Derived.Test.YtnhbpcmiolkllabDoorI
import Derived.Test.YtnhbpcmiolkllabDoorEcJ
import Derived.Laws.AppendOwn
import Derived.Test.YtnhbpcmiolkllabDoorSbJ
namespace Go.Proofs.YtnhbpcmiolkllabDoor
open Go.RowKit

def VCopyC (n : Nat) : Prop := ∀ (d : MD) (w : World), MD.In w.heap.size w n d → MD.full n d = true → Calls Tryd.prog 32 #[d.val] w (CopyP n d w)
theorem copiedV_any (n : Nat) : VCopyC n := fun d w hin hf => (copiedG_any n d w hin hf).mono fun _ _ ⟨d', e, h1, h2, h3, h4, _⟩ => ⟨d', e, h1, h2, h3, h4⟩
end Go.Proofs.YtnhbpcmiolkllabDoor
namespace Go.Proofs.YtnhbpcmiolkllabDoor
open Go.RowKit
attribute [local go_sem] refold2 cell3_0 cell3_1 b28_0 b28_01
theorem taR2 (v : Value) (w : World) : (Instr.typeAssert (.iface 122 v) 49 92 true).run Tryd.prog w = .ok (.tuple #[.agg #[.pointer none], .bool false]) w := by kernel_rfl
theorem taR5 (v : Value) (w : World) : (Instr.typeAssert (.iface 126 v) 49 92 true).run Tryd.prog w = .ok (.tuple #[.agg #[.pointer none], .bool false]) w := by kernel_rfl
theorem taR6 (v : Value) (w : World) : (Instr.typeAssert (.iface 127 v) 49 92 true).run Tryd.prog w = .ok (.tuple #[.agg #[.pointer none], .bool false]) w := by kernel_rfl
theorem taR7 (v : Value) (w : World) : (Instr.typeAssert (.iface 128 v) 49 92 true).run Tryd.prog w = .ok (.tuple #[.agg #[.pointer none], .bool false]) w := by kernel_rfl
theorem taR9 (v : Value) (w : World) : (Instr.typeAssert (.iface 129 v) 49 92 true).run Tryd.prog w = .ok (.tuple #[.agg #[.pointer none], .bool false]) w := by kernel_rfl
attribute [local go_sem] taR2 taR5 taR6 taR7 taR9

set_option maxRecDepth 100000 in
set_option maxHeartbeats 2000000 in
theorem Of_int (t : ByteArray) (a : Int) (w : World) (hN : NamesAt w) (ht : t.size ≤ 140737488351232) (hr : (t.toList == [105, 110, 116] || declB t) = true) :
    Calls Tryd.prog 17 #[dat 2 t a 0 ⟨#[]⟩] w fun r w' => ∃ b, r = .returned (.tuple #[.iface 122 (.agg #[.pointer (some ⟨b, 0, none⟩)]), .nilIface]) ∧ w.heap.size ≤ b ∧ w'.heap[b]? = some (.cells #[.int .i64 2, .string t, .int .i64 a, .int .u64 0, .string ⟨#[]⟩, .int .i64 0, .int .i64 0, .int .i64 0, .int .i64 0, .slice none 0 0, .slice none 0 0] 32 (0, 0)) ∧ Below w.heap.size w w' := by
  have HR : Hid (∀ W, NamesAt W → Calls Tryd.prog 8 #[dat 2 t a 0 ⟨#[]⟩] W fun r w' => r = .returned (.bool true) ∧ Below W.heap.size W w') := fun W h => by rw [← hr]; exact Right_int t a W h
  have HC : Hid (∀ W, Calls Tryd.prog 32 #[dat 2 t a 0 ⟨#[]⟩] W fun r w' => r = .returned (dat 2 t a 0 ⟨#[]⟩) ∧ Below W.heap.size W w') := fun W => copied_flat 2 t a 0 ⟨#[]⟩ 0 0 0 0 W ht (by decide)
  clear hr ht
  simp only [dat, D] at HR HC ⊢
  go_enter Tryd.func17, Tryd.ntmps17
  go_wp2_with fail
  refine (HR.out _ (hN.kept (below1 _ _))).mono ?_
  rintro r w1 ⟨rfl, b1⟩
  have e1 : ∀ j, w1.cell? ⟨w.heap.size, j, none⟩ = (#[.int .i64 2, .string t, .int .i64 a, .int .u64 0, .string ⟨#[]⟩, .int .i64 0, .int .i64 0, .int .i64 0, .int .i64 0, .slice none 0 0, .slice none 0 0] : Array Value)[j]? := fun j => by rw [b1.cell (p := ⟨w.heap.size, j, none⟩) (by simp), World.cell?_alloc_new]
  have q1 : Below w.heap.size w w1 := (below1 _ _).trans (b1.mono (by simp))
  have z1 : w.heap.size < w1.heap.size := by have := b1.size; simp at this; omega
  go_wp2_with fail
  refine (HC.out _).mono ?_
  rintro r w2 ⟨rfl, b2⟩
  have q2 : Below w.heap.size w w2 := q1.trans (b2.mono q1.size)
  have z2 := b2.size
  clear e1
  go_wp2_with fail
  refine (behind_2 w2.heap.size _ (by rw [World.cell?_alloc_new]; rfl) (by simp)).mono ?_
  rintro r w3 ⟨rfl, b3⟩
  have q3 : Below w.heap.size w w3 := (q2.alloc q2.size _).trans (b3.mono (by simp; omega))
  have hr3 : Hid (w3.heap[w2.heap.size]? = some (.cells #[.int .i64 2, .string t, .int .i64 a, .int .u64 0, .string ⟨#[]⟩, .int .i64 0, .int .i64 0, .int .i64 0, .int .i64 0, .slice none 0 0, .slice none 0 0] 32 (0, 0))) := (b3.block w2.heap.size (by simp)).trans (heap_alloc_new _ _)
  go_wp2_with fail
  refine bodyPost_ret (v := .tuple #[.iface 122 (.agg #[.pointer (some ⟨w2.heap.size, 0, none⟩)]), .nilIface]) (by simp [results, Tryd.results17, go_sem]) rfl ⟨_, rfl, q2.size, (Below.heap_alloc _ _ _ (row_ltT hr3.out)).trans hr3.out, q3.alloc q3.size _⟩

theorem taRn (w : World) : (Instr.typeAssert .nilIface 49 92 true).run Tryd.prog w = .ok (.tuple #[.agg #[.pointer none], .bool false]) w := by kernel_rfl
attribute [local go_sem] taRn
end Go.Proofs.YtnhbpcmiolkllabDoor
namespace Go.Proofs.YtnhbpcmiolkllabDoor
open Go.RowKit
attribute [local go_sem] refold2 cell3_0 cell3_1 b28_0 b28_01

/-- May a datum be? -/
def MD.right (n : Nat) (d : MD) : Bool := MD.full n d && decide (MD.size n d ≤ 100)

end Go.Proofs.YtnhbpcmiolkllabDoor
