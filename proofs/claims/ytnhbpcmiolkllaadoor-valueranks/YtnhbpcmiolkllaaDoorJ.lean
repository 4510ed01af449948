/-
  Of, of data without Items.
-/
import Derived.Test.YtnhbpcmiolkllaaDoorH
import Derived.Test.YtnhbpcmiolkllaaDoorI
namespace Go.Proofs.YtnhbpcmiolkllaaDoor
open Go.RowKit
attribute [local go_sem] refold2 cell3_0 cell3_1 b28_0 b28_01
theorem taR2 (v : Value) (w : World) : (Instr.typeAssert (.iface 124 v) 34 73 true).run Tryd.prog w = .ok (.tuple #[.agg #[.pointer none], .bool false]) w := by kernel_rfl
theorem taR5 (v : Value) (w : World) : (Instr.typeAssert (.iface 129 v) 34 73 true).run Tryd.prog w = .ok (.tuple #[.agg #[.pointer none], .bool false]) w := by kernel_rfl
theorem taR6 (v : Value) (w : World) : (Instr.typeAssert (.iface 130 v) 34 73 true).run Tryd.prog w = .ok (.tuple #[.agg #[.pointer none], .bool false]) w := by kernel_rfl
theorem taR7 (v : Value) (w : World) : (Instr.typeAssert (.iface 131 v) 34 73 true).run Tryd.prog w = .ok (.tuple #[.agg #[.pointer none], .bool false]) w := by kernel_rfl
theorem taR9 (v : Value) (w : World) : (Instr.typeAssert (.iface 132 v) 34 73 true).run Tryd.prog w = .ok (.tuple #[.agg #[.pointer none], .bool false]) w := by kernel_rfl
attribute [local go_sem] taR2 taR5 taR6 taR7 taR9

set_option maxRecDepth 100000 in
set_option maxHeartbeats 2000000 in
theorem Of_int (t : ByteArray) (a : Int) (w : World) (hN : NamesAt w) (ht : t.size ≤ 140737488351232) (hr : (t.toList == [105, 110, 116] || declB t) = true) :
    Calls Tryd.prog 14 #[dat 2 t a 0 ⟨#[]⟩] w fun r w' => ∃ b, r = .returned (.tuple #[.iface 124 (.agg #[.pointer (some ⟨b, 0, none⟩)]), .nilIface]) ∧ w.heap.size ≤ b ∧ w'.heap[b]? = some (.cells #[.int .i64 2, .string t, .int .i64 a, .int .u64 0, .string ⟨#[]⟩, .int .i64 0, .int .i64 0, .int .i64 0, .int .i64 0, .slice none 0 0, .slice none 0 0] 28 (0, 0)) ∧ Below w.heap.size w w' := by
  have HR : Hid (∀ W, NamesAt W → Calls Tryd.prog 10 #[dat 2 t a 0 ⟨#[]⟩] W fun r w' => r = .returned (.bool true) ∧ Below W.heap.size W w') := fun W h => by rw [← hr]; exact Right_int t a W h
  have HC : Hid (∀ W, Calls Tryd.prog 35 #[dat 2 t a 0 ⟨#[]⟩] W fun r w' => r = .returned (dat 2 t a 0 ⟨#[]⟩) ∧ Below W.heap.size W w') := fun W => copied_flat 2 t a 0 ⟨#[]⟩ 0 0 0 0 W ht (by decide)
  clear hr ht
  simp only [dat, D] at HR HC ⊢
  go_enter Tryd.func14, Tryd.ntmps14
  go_wp2_with fail
  refine (HR.out _ (hN.kept (below1 _ _))).mono ?_
  rintro r w1 ⟨rfl, b1⟩
  have e1 : ∀ j, w1.cell? ⟨w.heap.size, j, none⟩ = (#[.int .i64 2, .string t, .int .i64 a, .int .u64 0, .string ⟨#[]⟩, .int .i64 0, .int .i64 0, .int .i64 0, .int .i64 0, .slice none 0 0, .slice none 0 0] : Array Value)[j]? := fun j => by rw [b1.cell (p := ⟨w.heap.size, j, none⟩) (by simp), World.cell?_alloc_new]
  have q1 : Below w.heap.size w w1 := (below1 _ _).trans (b1.mono (by simp))
  have z1 : w.heap.size < w1.heap.size := by have := b1.size; simp at this; omega
  go_wp2_with fail
  refine (HC.out _).mono ?_
  rintro r w2 ⟨rfl, b2⟩
  have q2 : Below w.heap.size w w2 := q1.trans (b2.mono q1.size)
  have z2 := b2.size
  clear e1
  go_wp2_with fail
  refine (behind_2 w2.heap.size _ (by rw [World.cell?_alloc_new]; rfl) (by simp)).mono ?_
  rintro r w3 ⟨rfl, b3⟩
  have q3 : Below w.heap.size w w3 := (q2.alloc q2.size _).trans (b3.mono (by simp; omega))
  have hr3 : Hid (w3.heap[w2.heap.size]? = some (.cells #[.int .i64 2, .string t, .int .i64 a, .int .u64 0, .string ⟨#[]⟩, .int .i64 0, .int .i64 0, .int .i64 0, .int .i64 0, .slice none 0 0, .slice none 0 0] 28 (0, 0))) := (b3.block w2.heap.size (by simp)).trans (heap_alloc_new _ _)
  go_wp2_with fail
  refine bodyPost_ret (v := .tuple #[.iface 124 (.agg #[.pointer (some ⟨w2.heap.size, 0, none⟩)]), .nilIface]) (by simp [results, Tryd.results14, go_sem]) rfl ⟨_, rfl, q2.size, (Below.heap_alloc _ _ _ (row_ltT hr3.out)).trans hr3.out, q3.alloc q3.size _⟩

set_option maxRecDepth 100000 in
set_option maxHeartbeats 2000000 in
theorem Of_list (t : ByteArray) (w : World) (hN : NamesAt w) (ht : t.size ≤ 140737488351232) (hr : (t.toList == [108, 105, 115, 116] || declB t) = true) :
    Calls Tryd.prog 14 #[dat 5 t 0 0 ⟨#[]⟩] w fun r w' => ∃ b, r = .returned (.tuple #[.iface 129 (.agg #[.pointer (some ⟨b, 0, none⟩)]), .nilIface]) ∧ w.heap.size ≤ b ∧ w'.heap[b]? = some (.cells #[.int .i64 5, .string t, .int .i64 0, .int .u64 0, .string ⟨#[]⟩, .int .i64 0, .int .i64 0, .int .i64 0, .int .i64 0, .slice none 0 0, .slice none 0 0] 28 (0, 0)) ∧ Below w.heap.size w w' := by
  have HR : Hid (∀ W, NamesAt W → Calls Tryd.prog 10 #[dat 5 t 0 0 ⟨#[]⟩] W fun r w' => r = .returned (.bool true) ∧ Below W.heap.size W w') := fun W h => by rw [← hr]; exact Right_list t W h
  have HC : Hid (∀ W, Calls Tryd.prog 35 #[dat 5 t 0 0 ⟨#[]⟩] W fun r w' => r = .returned (dat 5 t 0 0 ⟨#[]⟩) ∧ Below W.heap.size W w') := fun W => copied_flat 5 t 0 0 ⟨#[]⟩ 0 0 0 0 W ht (by decide)
  clear hr ht
  simp only [dat, D] at HR HC ⊢
  go_enter Tryd.func14, Tryd.ntmps14
  go_wp2_with fail
  refine (HR.out _ (hN.kept (below1 _ _))).mono ?_
  rintro r w1 ⟨rfl, b1⟩
  have e1 : ∀ j, w1.cell? ⟨w.heap.size, j, none⟩ = (#[.int .i64 5, .string t, .int .i64 0, .int .u64 0, .string ⟨#[]⟩, .int .i64 0, .int .i64 0, .int .i64 0, .int .i64 0, .slice none 0 0, .slice none 0 0] : Array Value)[j]? := fun j => by rw [b1.cell (p := ⟨w.heap.size, j, none⟩) (by simp), World.cell?_alloc_new]
  have q1 : Below w.heap.size w w1 := (below1 _ _).trans (b1.mono (by simp))
  have z1 : w.heap.size < w1.heap.size := by have := b1.size; simp at this; omega
  go_wp2_with fail
  refine (HC.out _).mono ?_
  rintro r w2 ⟨rfl, b2⟩
  have q2 : Below w.heap.size w w2 := q1.trans (b2.mono q1.size)
  have z2 := b2.size
  clear e1
  go_wp2_with fail
  refine (behind_5 w2.heap.size _ (by rw [World.cell?_alloc_new]; rfl) (by simp)).mono ?_
  rintro r w3 ⟨rfl, b3⟩
  have q3 : Below w.heap.size w w3 := (q2.alloc q2.size _).trans (b3.mono (by simp; omega))
  have hr3 : Hid (w3.heap[w2.heap.size]? = some (.cells #[.int .i64 5, .string t, .int .i64 0, .int .u64 0, .string ⟨#[]⟩, .int .i64 0, .int .i64 0, .int .i64 0, .int .i64 0, .slice none 0 0, .slice none 0 0] 28 (0, 0))) := (b3.block w2.heap.size (by simp)).trans (heap_alloc_new _ _)
  go_wp2_with fail
  refine bodyPost_ret (v := .tuple #[.iface 129 (.agg #[.pointer (some ⟨w2.heap.size, 0, none⟩)]), .nilIface]) (by simp [results, Tryd.results14, go_sem]) rfl ⟨_, rfl, q2.size, (Below.heap_alloc _ _ _ (row_ltT hr3.out)).trans hr3.out, q3.alloc q3.size _⟩

set_option maxRecDepth 100000 in
set_option maxHeartbeats 2000000 in
theorem Of_map (t : ByteArray) (w : World) (hN : NamesAt w) (ht : t.size ≤ 140737488351232) (hr : (t.toList == [109, 97, 112] || declB t) = true) :
    Calls Tryd.prog 14 #[dat 6 t 0 0 ⟨#[]⟩] w fun r w' => ∃ b, r = .returned (.tuple #[.iface 130 (.agg #[.pointer (some ⟨b, 0, none⟩)]), .nilIface]) ∧ w.heap.size ≤ b ∧ w'.heap[b]? = some (.cells #[.int .i64 6, .string t, .int .i64 0, .int .u64 0, .string ⟨#[]⟩, .int .i64 0, .int .i64 0, .int .i64 0, .int .i64 0, .slice none 0 0, .slice none 0 0] 28 (0, 0)) ∧ Below w.heap.size w w' := by
  have HR : Hid (∀ W, NamesAt W → Calls Tryd.prog 10 #[dat 6 t 0 0 ⟨#[]⟩] W fun r w' => r = .returned (.bool true) ∧ Below W.heap.size W w') := fun W h => by rw [← hr]; exact Right_map t W h
  have HC : Hid (∀ W, Calls Tryd.prog 35 #[dat 6 t 0 0 ⟨#[]⟩] W fun r w' => r = .returned (dat 6 t 0 0 ⟨#[]⟩) ∧ Below W.heap.size W w') := fun W => copied_flat 6 t 0 0 ⟨#[]⟩ 0 0 0 0 W ht (by decide)
  clear hr ht
  simp only [dat, D] at HR HC ⊢
  go_enter Tryd.func14, Tryd.ntmps14
  go_wp2_with fail
  refine (HR.out _ (hN.kept (below1 _ _))).mono ?_
  rintro r w1 ⟨rfl, b1⟩
  have e1 : ∀ j, w1.cell? ⟨w.heap.size, j, none⟩ = (#[.int .i64 6, .string t, .int .i64 0, .int .u64 0, .string ⟨#[]⟩, .int .i64 0, .int .i64 0, .int .i64 0, .int .i64 0, .slice none 0 0, .slice none 0 0] : Array Value)[j]? := fun j => by rw [b1.cell (p := ⟨w.heap.size, j, none⟩) (by simp), World.cell?_alloc_new]
  have q1 : Below w.heap.size w w1 := (below1 _ _).trans (b1.mono (by simp))
  have z1 : w.heap.size < w1.heap.size := by have := b1.size; simp at this; omega
  go_wp2_with fail
  refine (HC.out _).mono ?_
  rintro r w2 ⟨rfl, b2⟩
  have q2 : Below w.heap.size w w2 := q1.trans (b2.mono q1.size)
  have z2 := b2.size
  clear e1
  go_wp2_with fail
  refine (behind_6 w2.heap.size _ (by rw [World.cell?_alloc_new]; rfl) (by simp)).mono ?_
  rintro r w3 ⟨rfl, b3⟩
  have q3 : Below w.heap.size w w3 := (q2.alloc q2.size _).trans (b3.mono (by simp; omega))
  have hr3 : Hid (w3.heap[w2.heap.size]? = some (.cells #[.int .i64 6, .string t, .int .i64 0, .int .u64 0, .string ⟨#[]⟩, .int .i64 0, .int .i64 0, .int .i64 0, .int .i64 0, .slice none 0 0, .slice none 0 0] 28 (0, 0))) := (b3.block w2.heap.size (by simp)).trans (heap_alloc_new _ _)
  go_wp2_with fail
  refine bodyPost_ret (v := .tuple #[.iface 130 (.agg #[.pointer (some ⟨w2.heap.size, 0, none⟩)]), .nilIface]) (by simp [results, Tryd.results14, go_sem]) rfl ⟨_, rfl, q2.size, (Below.heap_alloc _ _ _ (row_ltT hr3.out)).trans hr3.out, q3.alloc q3.size _⟩

set_option maxRecDepth 100000 in
set_option maxHeartbeats 2000000 in
theorem Of_func (t : ByteArray) (w : World) (hN : NamesAt w) (ht : t.size ≤ 140737488351232) (hr : (t.toList == [102, 117, 110, 99] || declB t) = true) :
    Calls Tryd.prog 14 #[dat 7 t 0 0 ⟨#[]⟩] w fun r w' => ∃ b, r = .returned (.tuple #[.iface 131 (.agg #[.pointer (some ⟨b, 0, none⟩)]), .nilIface]) ∧ w.heap.size ≤ b ∧ w'.heap[b]? = some (.cells #[.int .i64 7, .string t, .int .i64 0, .int .u64 0, .string ⟨#[]⟩, .int .i64 0, .int .i64 0, .int .i64 0, .int .i64 0, .slice none 0 0, .slice none 0 0] 28 (0, 0)) ∧ Below w.heap.size w w' := by
  have HR : Hid (∀ W, NamesAt W → Calls Tryd.prog 10 #[dat 7 t 0 0 ⟨#[]⟩] W fun r w' => r = .returned (.bool true) ∧ Below W.heap.size W w') := fun W h => by rw [← hr]; exact Right_func t W h
  have HC : Hid (∀ W, Calls Tryd.prog 35 #[dat 7 t 0 0 ⟨#[]⟩] W fun r w' => r = .returned (dat 7 t 0 0 ⟨#[]⟩) ∧ Below W.heap.size W w') := fun W => copied_flat 7 t 0 0 ⟨#[]⟩ 0 0 0 0 W ht (by decide)
  clear hr ht
  simp only [dat, D] at HR HC ⊢
  go_enter Tryd.func14, Tryd.ntmps14
  go_wp2_with fail
  refine (HR.out _ (hN.kept (below1 _ _))).mono ?_
  rintro r w1 ⟨rfl, b1⟩
  have e1 : ∀ j, w1.cell? ⟨w.heap.size, j, none⟩ = (#[.int .i64 7, .string t, .int .i64 0, .int .u64 0, .string ⟨#[]⟩, .int .i64 0, .int .i64 0, .int .i64 0, .int .i64 0, .slice none 0 0, .slice none 0 0] : Array Value)[j]? := fun j => by rw [b1.cell (p := ⟨w.heap.size, j, none⟩) (by simp), World.cell?_alloc_new]
  have q1 : Below w.heap.size w w1 := (below1 _ _).trans (b1.mono (by simp))
  have z1 : w.heap.size < w1.heap.size := by have := b1.size; simp at this; omega
  go_wp2_with fail
  refine (HC.out _).mono ?_
  rintro r w2 ⟨rfl, b2⟩
  have q2 : Below w.heap.size w w2 := q1.trans (b2.mono q1.size)
  have z2 := b2.size
  clear e1
  go_wp2_with fail
  refine (behind_7 w2.heap.size _ (by rw [World.cell?_alloc_new]; rfl) (by simp)).mono ?_
  rintro r w3 ⟨rfl, b3⟩
  have q3 : Below w.heap.size w w3 := (q2.alloc q2.size _).trans (b3.mono (by simp; omega))
  have hr3 : Hid (w3.heap[w2.heap.size]? = some (.cells #[.int .i64 7, .string t, .int .i64 0, .int .u64 0, .string ⟨#[]⟩, .int .i64 0, .int .i64 0, .int .i64 0, .int .i64 0, .slice none 0 0, .slice none 0 0] 28 (0, 0))) := (b3.block w2.heap.size (by simp)).trans (heap_alloc_new _ _)
  go_wp2_with fail
  refine bodyPost_ret (v := .tuple #[.iface 131 (.agg #[.pointer (some ⟨w2.heap.size, 0, none⟩)]), .nilIface]) (by simp [results, Tryd.results14, go_sem]) rfl ⟨_, rfl, q2.size, (Below.heap_alloc _ _ _ (row_ltT hr3.out)).trans hr3.out, q3.alloc q3.size _⟩

set_option maxRecDepth 100000 in
set_option maxHeartbeats 2000000 in
theorem Of_ptr (t : ByteArray) (w : World) (hN : NamesAt w) (ht : t.size ≤ 140737488351232) (hr : (declB t) = true) :
    Calls Tryd.prog 14 #[dat 9 t 0 0 ⟨#[]⟩] w fun r w' => ∃ b, r = .returned (.tuple #[.iface 132 (.agg #[.pointer (some ⟨b, 0, none⟩)]), .nilIface]) ∧ w.heap.size ≤ b ∧ w'.heap[b]? = some (.cells #[.int .i64 9, .string t, .int .i64 0, .int .u64 0, .string ⟨#[]⟩, .int .i64 0, .int .i64 0, .int .i64 0, .int .i64 0, .slice none 0 0, .slice none 0 0] 28 (0, 0)) ∧ Below w.heap.size w w' := by
  have HR : Hid (∀ W, NamesAt W → Calls Tryd.prog 10 #[dat 9 t 0 0 ⟨#[]⟩] W fun r w' => r = .returned (.bool true) ∧ Below W.heap.size W w') := fun W h => by rw [← hr]; exact Right_ptr t W h
  have HC : Hid (∀ W, Calls Tryd.prog 35 #[dat 9 t 0 0 ⟨#[]⟩] W fun r w' => r = .returned (dat 9 t 0 0 ⟨#[]⟩) ∧ Below W.heap.size W w') := fun W => copied_flat 9 t 0 0 ⟨#[]⟩ 0 0 0 0 W ht (by decide)
  clear hr ht
  simp only [dat, D] at HR HC ⊢
  go_enter Tryd.func14, Tryd.ntmps14
  go_wp2_with fail
  refine (HR.out _ (hN.kept (below1 _ _))).mono ?_
  rintro r w1 ⟨rfl, b1⟩
  have e1 : ∀ j, w1.cell? ⟨w.heap.size, j, none⟩ = (#[.int .i64 9, .string t, .int .i64 0, .int .u64 0, .string ⟨#[]⟩, .int .i64 0, .int .i64 0, .int .i64 0, .int .i64 0, .slice none 0 0, .slice none 0 0] : Array Value)[j]? := fun j => by rw [b1.cell (p := ⟨w.heap.size, j, none⟩) (by simp), World.cell?_alloc_new]
  have q1 : Below w.heap.size w w1 := (below1 _ _).trans (b1.mono (by simp))
  have z1 : w.heap.size < w1.heap.size := by have := b1.size; simp at this; omega
  go_wp2_with fail
  refine (HC.out _).mono ?_
  rintro r w2 ⟨rfl, b2⟩
  have q2 : Below w.heap.size w w2 := q1.trans (b2.mono q1.size)
  have z2 := b2.size
  clear e1
  go_wp2_with fail
  refine (behind_9 w2.heap.size _ (by rw [World.cell?_alloc_new]; rfl) (by simp)).mono ?_
  rintro r w3 ⟨rfl, b3⟩
  have q3 : Below w.heap.size w w3 := (q2.alloc q2.size _).trans (b3.mono (by simp; omega))
  have hr3 : Hid (w3.heap[w2.heap.size]? = some (.cells #[.int .i64 9, .string t, .int .i64 0, .int .u64 0, .string ⟨#[]⟩, .int .i64 0, .int .i64 0, .int .i64 0, .int .i64 0, .slice none 0 0, .slice none 0 0] 28 (0, 0))) := (b3.block w2.heap.size (by simp)).trans (heap_alloc_new _ _)
  go_wp2_with fail
  refine bodyPost_ret (v := .tuple #[.iface 132 (.agg #[.pointer (some ⟨w2.heap.size, 0, none⟩)]), .nilIface]) (by simp [results, Tryd.results14, go_sem]) rfl ⟨_, rfl, q2.size, (Below.heap_alloc _ _ _ (row_ltT hr3.out)).trans hr3.out, q3.alloc q3.size _⟩

theorem taRn (w : World) : (Instr.typeAssert .nilIface 34 73 true).run Tryd.prog w = .ok (.tuple #[.agg #[.pointer none], .bool false]) w := by kernel_rfl
attribute [local go_sem] taRn
set_option maxRecDepth 100000 in
set_option maxHeartbeats 2000000 in
theorem Of_nil (w : World) (hN : NamesAt w) :
    Calls Tryd.prog 14 #[dat 0 ⟨#[]⟩ 0 0 ⟨#[]⟩] w fun r w' => r = .returned (.tuple #[.nilIface, .nilIface]) ∧ Below w.heap.size w w' := by
  have HR : Hid (∀ W, NamesAt W → Calls Tryd.prog 10 #[dat 0 ⟨#[]⟩ 0 0 ⟨#[]⟩] W fun r w' => r = .returned (.bool true) ∧ Below W.heap.size W w') := fun W h => Right_nil W h
  have HC : Hid (∀ W, Calls Tryd.prog 35 #[dat 0 ⟨#[]⟩ 0 0 ⟨#[]⟩] W fun r w' => r = .returned (dat 0 ⟨#[]⟩ 0 0 ⟨#[]⟩) ∧ Below W.heap.size W w') := fun W => copied_flat 0 ⟨#[]⟩ 0 0 ⟨#[]⟩ 0 0 0 0 W (by decide) (by decide)
  simp only [dat, D] at HR HC ⊢
  go_enter Tryd.func14, Tryd.ntmps14
  go_wp2_with fail
  refine (HR.out _ (hN.kept (below1 _ _))).mono ?_
  rintro r w1 ⟨rfl, b1⟩
  have e1 : ∀ j, w1.cell? ⟨w.heap.size, j, none⟩ = (#[.int .i64 0, .string ⟨#[]⟩, .int .i64 0, .int .u64 0, .string ⟨#[]⟩, .int .i64 0, .int .i64 0, .int .i64 0, .int .i64 0, .slice none 0 0, .slice none 0 0] : Array Value)[j]? := fun j => by rw [b1.cell (p := ⟨w.heap.size, j, none⟩) (by simp), World.cell?_alloc_new]
  have q1 : Below w.heap.size w w1 := (below1 _ _).trans (b1.mono (by simp))
  have z1 : w.heap.size < w1.heap.size := by have := b1.size; simp at this; omega
  go_wp2_with fail
  refine (HC.out _).mono ?_
  rintro r w2 ⟨rfl, b2⟩
  have q2 : Below w.heap.size w w2 := q1.trans (b2.mono q1.size)
  have z2 := b2.size
  clear e1
  go_wp2_with fail
  refine (behind_0 w2.heap.size _ (by rw [World.cell?_alloc_new]; rfl) (by simp)).mono ?_
  rintro r w3 ⟨rfl, b3⟩
  have q3 : Below w.heap.size w w3 := (q2.alloc q2.size _).trans (b3.mono (by simp; omega))
  go_wp2_with fail
  refine bodyPost_ret (v := .tuple #[.nilIface, .nilIface]) (by simp [results, Tryd.results14, go_sem]) rfl ⟨rfl, q3.alloc q3.size _⟩
end Go.Proofs.YtnhbpcmiolkllaaDoor
