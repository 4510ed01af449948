/-
  The walk of ValueNone: lists, maps, funcs, pointers.
-/
import Derived.Test.YtnhbpcmiolkllabDoorX
import Derived.Test.YtnhbpcmiolkllabDoorY
namespace Go.Proofs.YtnhbpcmiolkllabDoor
open Go.RowKit
theorem taP5 (v : Value) (W : World) : (Instr.typeAssert (.iface 126 v) 49 53 true).run Tryd.prog W = .ok (.tuple #[.iface 126 v, .bool true]) W := run_typeAssert_hasB Tryd.underlying53 (by kernel_rfl) v 49 W
theorem taP6 (v : Value) (W : World) : (Instr.typeAssert (.iface 127 v) 49 53 true).run Tryd.prog W = .ok (.tuple #[.iface 127 v, .bool true]) W := run_typeAssert_hasB Tryd.underlying53 (by kernel_rfl) v 49 W
theorem taP7 (v : Value) (W : World) : (Instr.typeAssert (.iface 128 v) 49 53 true).run Tryd.prog W = .ok (.tuple #[.iface 128 v, .bool true]) W := run_typeAssert_hasB Tryd.underlying53 (by kernel_rfl) v 49 W
theorem taP9 (v : Value) (W : World) : (Instr.typeAssert (.iface 129 v) 49 53 true).run Tryd.prog W = .ok (.tuple #[.iface 129 v, .bool true]) W := run_typeAssert_hasB Tryd.underlying53 (by kernel_rfl) v 49 W
theorem tkl (x : Value) (h1 : 90 < Tryd.prog.types.size) (h2 : 124 < Tryd.prog.types.size) : List.take (Tryd.prog.types[90]'h1).size (List.take (Tryd.prog.types[124]'h2).size [x]) = [x] := by kernel_rfl
theorem tk124 (x : Value) (h2 : 124 < Tryd.prog.types.size) : List.take (Tryd.prog.types[124]'h2).size [x] = [x] := by kernel_rfl
attribute [local go_sem] refold2 cell3_0 cell3_1 b28_0 b28_01 taP5 taP6 taP7 taP9 tkl tk124 tk

set_option maxRecDepth 100000 in
set_option maxHeartbeats 4000000 in
theorem noneLaw_list (c : Int) (t : ByteArray) (w : World) (hN : NamesAt w) (ht : t.size ≤ 140737488351232) (h0 : -9223372036854775808 ≤ c) (h1 : c ≤ 9223372036854775807) (hp : pick4 c = 0) (hr : (t.toList == [108, 105, 115, 116] || declB t) = true) :
    Calls Tryd.prog 5 #[.int .i64 c, .string t] w fun r w' => r = .returned (.bool true) ∧ Below w.heap.size w w' := by
  have HP : Hid (∀ W, Calls Tryd.prog 16 #[.int .i64 c, .int .i64 4] W fun r w' => r = .returned (.int .i64 0) ∧ w' = W) := fun W => by rw [← hp]; exact pick_any c W h0 h1
  go_enter Tryd.func5, Tryd.ntmps5
  go_wp2_with fail
  refine (known_any _ hN).mono ?_
  rintro r w1 ⟨rfl, q1⟩
  go_wp2_with fail
  refine (HP.out _).mono ?_
  rintro r w2 ⟨rfl, rfl⟩
  go_wp2_with fail
  obtain ⟨V, hV⟩ : ∃ V, V = (w1.alloc (.cells #[.int .i64 5, .int .i64 6, .int .i64 7, .int .i64 9] 3)).alloc (.cells #[.int .i64 5, .string t, .int .i64 0, .int .u64 0, .string ⟨#[]⟩, .int .i64 0, .int .i64 0, .int .i64 0, .int .i64 0, .slice none 0 0, .slice none 0 0] 32) := ⟨_, rfl⟩
  have q2 : Below w.heap.size w V := by rw [hV]; exact (q1.alloc q1.size _).alloc (by have := q1.size; simp; omega) _
  have dV : V.heap[w1.heap.size + 1]? = some (.cells #[.int .i64 5, .string t, .int .i64 0, .int .u64 0, .string ⟨#[]⟩, .int .i64 0, .int .i64 0, .int .i64 0, .int .i64 0, .slice none 0 0, .slice none 0 0] 32 (0, 0)) := by rw [hV]; exact heap2_1 _ _ _
  rw [← hV]
  clear hV
  have hRt := Right_list t V (hN.kept q2)
  rw [hr] at hRt
  refine hRt.mono ?_
  rintro r w3 ⟨rfl, b3⟩
  have q3 := q2.trans (b3.mono q2.size)
  have d3 := (b3.block _ (row_ltT dV)).trans dV
  have e3 := fun j => row_at d3 j
  clear dV b3 hRt
  go_wp2_with fail
  refine (Of_list t w3 (hN.kept q3) ht hr).mono ?_
  rintro r w4 ⟨b, rfl, hb4, hr4, b4⟩
  have q4 := q3.trans (b4.mono q3.size)
  have d4 := (b4.block _ (row_ltT d3)).trans d3
  clear d3 e3 b4 hb4
  go_wp2_with fail
  refine (Of_nil w4 (hN.kept q4)).mono ?_
  rintro r w5 ⟨rfl, b5⟩
  have q5 := q4.trans (b5.mono q4.size)
  have d5 := (b5.block _ (row_ltT d4)).trans d4
  have hr5 := (b5.block _ (row_ltT hr4)).trans hr4
  have e5 := fun j => row_at d5 j
  clear d4 hr4 b5
  go_wp2_with fail
  refine (Unlike_list t w5 (hN.kept q5) hr).mono ?_
  rintro r w6 ⟨rfl, b6⟩
  have q6 := q5.trans (b6.mono q5.size)
  have hr6 := (b6.block _ (row_ltT hr5)).trans hr5
  clear d5 e5 hr5 b6
  go_wp2_with fail
  refine (none_leading b 5 t 0 0 ⟨#[]⟩ 0 0 0 0 _ _ w6 hr6).mono ?_
  rintro r w7 ⟨rfl, b7⟩
  have q7 := q6.trans (b7.mono q6.size)
  have hr7 := (b7.block _ (row_ltT hr6)).trans hr6
  clear hr6 b7
  go_wp2_with fail
  refine (type_any b 5 t 0 0 ⟨#[]⟩ 0 0 0 0 _ _ w7 ht hr7).mono ?_
  rw [show nm 5 t = t from rfl]
  rintro r w8 ⟨rfl, b8⟩
  have q8 := q7.trans (b8.mono q7.size)
  have hr8 := (b8.block _ (row_ltT hr7)).trans hr7
  clear hr7 b8
  go_wp2_with fail
  refine (type_any b 5 t 0 0 ⟨#[]⟩ 0 0 0 0 _ _ w8 ht hr8).mono ?_
  rw [show nm 5 t = t from rfl]
  rintro r w9 ⟨rfl, b9⟩
  have q9 := q8.trans (b9.mono q8.size)
  go_wp2_with fail
  go_ret
  exact ⟨rfl, q9⟩
set_option maxRecDepth 100000 in
set_option maxHeartbeats 4000000 in
theorem noneLaw_map (c : Int) (t : ByteArray) (w : World) (hN : NamesAt w) (ht : t.size ≤ 140737488351232) (h0 : -9223372036854775808 ≤ c) (h1 : c ≤ 9223372036854775807) (hp : pick4 c = 1) (hr : (t.toList == [109, 97, 112] || declB t) = true) :
    Calls Tryd.prog 5 #[.int .i64 c, .string t] w fun r w' => r = .returned (.bool true) ∧ Below w.heap.size w w' := by
  have HP : Hid (∀ W, Calls Tryd.prog 16 #[.int .i64 c, .int .i64 4] W fun r w' => r = .returned (.int .i64 1) ∧ w' = W) := fun W => by rw [← hp]; exact pick_any c W h0 h1
  go_enter Tryd.func5, Tryd.ntmps5
  go_wp2_with fail
  refine (known_any _ hN).mono ?_
  rintro r w1 ⟨rfl, q1⟩
  go_wp2_with fail
  refine (HP.out _).mono ?_
  rintro r w2 ⟨rfl, rfl⟩
  go_wp2_with fail
  obtain ⟨V, hV⟩ : ∃ V, V = (w1.alloc (.cells #[.int .i64 5, .int .i64 6, .int .i64 7, .int .i64 9] 3)).alloc (.cells #[.int .i64 6, .string t, .int .i64 0, .int .u64 0, .string ⟨#[]⟩, .int .i64 0, .int .i64 0, .int .i64 0, .int .i64 0, .slice none 0 0, .slice none 0 0] 32) := ⟨_, rfl⟩
  have q2 : Below w.heap.size w V := by rw [hV]; exact (q1.alloc q1.size _).alloc (by have := q1.size; simp; omega) _
  have dV : V.heap[w1.heap.size + 1]? = some (.cells #[.int .i64 6, .string t, .int .i64 0, .int .u64 0, .string ⟨#[]⟩, .int .i64 0, .int .i64 0, .int .i64 0, .int .i64 0, .slice none 0 0, .slice none 0 0] 32 (0, 0)) := by rw [hV]; exact heap2_1 _ _ _
  rw [← hV]
  clear hV
  have hRt := Right_map t V (hN.kept q2)
  rw [hr] at hRt
  refine hRt.mono ?_
  rintro r w3 ⟨rfl, b3⟩
  have q3 := q2.trans (b3.mono q2.size)
  have d3 := (b3.block _ (row_ltT dV)).trans dV
  have e3 := fun j => row_at d3 j
  clear dV b3 hRt
  go_wp2_with fail
  refine (Of_map t w3 (hN.kept q3) ht hr).mono ?_
  rintro r w4 ⟨b, rfl, hb4, hr4, b4⟩
  have q4 := q3.trans (b4.mono q3.size)
  have d4 := (b4.block _ (row_ltT d3)).trans d3
  clear d3 e3 b4 hb4
  go_wp2_with fail
  refine (Of_nil w4 (hN.kept q4)).mono ?_
  rintro r w5 ⟨rfl, b5⟩
  have q5 := q4.trans (b5.mono q4.size)
  have d5 := (b5.block _ (row_ltT d4)).trans d4
  have hr5 := (b5.block _ (row_ltT hr4)).trans hr4
  have e5 := fun j => row_at d5 j
  clear d4 hr4 b5
  go_wp2_with fail
  refine (Unlike_map t w5 (hN.kept q5) hr).mono ?_
  rintro r w6 ⟨rfl, b6⟩
  have q6 := q5.trans (b6.mono q5.size)
  have hr6 := (b6.block _ (row_ltT hr5)).trans hr5
  clear d5 e5 hr5 b6
  go_wp2_with fail
  refine (none_leading b 6 t 0 0 ⟨#[]⟩ 0 0 0 0 _ _ w6 hr6).mono ?_
  rintro r w7 ⟨rfl, b7⟩
  have q7 := q6.trans (b7.mono q6.size)
  have hr7 := (b7.block _ (row_ltT hr6)).trans hr6
  clear hr6 b7
  go_wp2_with fail
  refine (type_any b 6 t 0 0 ⟨#[]⟩ 0 0 0 0 _ _ w7 ht hr7).mono ?_
  rw [show nm 6 t = t from rfl]
  rintro r w8 ⟨rfl, b8⟩
  have q8 := q7.trans (b8.mono q7.size)
  have hr8 := (b8.block _ (row_ltT hr7)).trans hr7
  clear hr7 b8
  go_wp2_with fail
  refine (type_any b 6 t 0 0 ⟨#[]⟩ 0 0 0 0 _ _ w8 ht hr8).mono ?_
  rw [show nm 6 t = t from rfl]
  rintro r w9 ⟨rfl, b9⟩
  have q9 := q8.trans (b9.mono q8.size)
  go_wp2_with fail
  go_ret
  exact ⟨rfl, q9⟩
set_option maxRecDepth 100000 in
set_option maxHeartbeats 4000000 in
theorem noneLaw_func (c : Int) (t : ByteArray) (w : World) (hN : NamesAt w) (ht : t.size ≤ 140737488351232) (h0 : -9223372036854775808 ≤ c) (h1 : c ≤ 9223372036854775807) (hp : pick4 c = 2) (hr : (t.toList == [102, 117, 110, 99] || declB t) = true) :
    Calls Tryd.prog 5 #[.int .i64 c, .string t] w fun r w' => r = .returned (.bool true) ∧ Below w.heap.size w w' := by
  have HP : Hid (∀ W, Calls Tryd.prog 16 #[.int .i64 c, .int .i64 4] W fun r w' => r = .returned (.int .i64 2) ∧ w' = W) := fun W => by rw [← hp]; exact pick_any c W h0 h1
  go_enter Tryd.func5, Tryd.ntmps5
  go_wp2_with fail
  refine (known_any _ hN).mono ?_
  rintro r w1 ⟨rfl, q1⟩
  go_wp2_with fail
  refine (HP.out _).mono ?_
  rintro r w2 ⟨rfl, rfl⟩
  go_wp2_with fail
  obtain ⟨V, hV⟩ : ∃ V, V = (w1.alloc (.cells #[.int .i64 5, .int .i64 6, .int .i64 7, .int .i64 9] 3)).alloc (.cells #[.int .i64 7, .string t, .int .i64 0, .int .u64 0, .string ⟨#[]⟩, .int .i64 0, .int .i64 0, .int .i64 0, .int .i64 0, .slice none 0 0, .slice none 0 0] 32) := ⟨_, rfl⟩
  have q2 : Below w.heap.size w V := by rw [hV]; exact (q1.alloc q1.size _).alloc (by have := q1.size; simp; omega) _
  have dV : V.heap[w1.heap.size + 1]? = some (.cells #[.int .i64 7, .string t, .int .i64 0, .int .u64 0, .string ⟨#[]⟩, .int .i64 0, .int .i64 0, .int .i64 0, .int .i64 0, .slice none 0 0, .slice none 0 0] 32 (0, 0)) := by rw [hV]; exact heap2_1 _ _ _
  rw [← hV]
  clear hV
  have hRt := Right_func t V (hN.kept q2)
  rw [hr] at hRt
  refine hRt.mono ?_
  rintro r w3 ⟨rfl, b3⟩
  have q3 := q2.trans (b3.mono q2.size)
  have d3 := (b3.block _ (row_ltT dV)).trans dV
  have e3 := fun j => row_at d3 j
  clear dV b3 hRt
  go_wp2_with fail
  refine (Of_func t w3 (hN.kept q3) ht hr).mono ?_
  rintro r w4 ⟨b, rfl, hb4, hr4, b4⟩
  have q4 := q3.trans (b4.mono q3.size)
  have d4 := (b4.block _ (row_ltT d3)).trans d3
  clear d3 e3 b4 hb4
  go_wp2_with fail
  refine (Of_nil w4 (hN.kept q4)).mono ?_
  rintro r w5 ⟨rfl, b5⟩
  have q5 := q4.trans (b5.mono q4.size)
  have d5 := (b5.block _ (row_ltT d4)).trans d4
  have hr5 := (b5.block _ (row_ltT hr4)).trans hr4
  have e5 := fun j => row_at d5 j
  clear d4 hr4 b5
  go_wp2_with fail
  refine (Unlike_func t w5 (hN.kept q5) hr).mono ?_
  rintro r w6 ⟨rfl, b6⟩
  have q6 := q5.trans (b6.mono q5.size)
  have hr6 := (b6.block _ (row_ltT hr5)).trans hr5
  clear d5 e5 hr5 b6
  go_wp2_with fail
  refine (none_leading b 7 t 0 0 ⟨#[]⟩ 0 0 0 0 _ _ w6 hr6).mono ?_
  rintro r w7 ⟨rfl, b7⟩
  have q7 := q6.trans (b7.mono q6.size)
  have hr7 := (b7.block _ (row_ltT hr6)).trans hr6
  clear hr6 b7
  go_wp2_with fail
  refine (type_any b 7 t 0 0 ⟨#[]⟩ 0 0 0 0 _ _ w7 ht hr7).mono ?_
  rw [show nm 7 t = t from rfl]
  rintro r w8 ⟨rfl, b8⟩
  have q8 := q7.trans (b8.mono q7.size)
  have hr8 := (b8.block _ (row_ltT hr7)).trans hr7
  clear hr7 b8
  go_wp2_with fail
  refine (type_any b 7 t 0 0 ⟨#[]⟩ 0 0 0 0 _ _ w8 ht hr8).mono ?_
  rw [show nm 7 t = t from rfl]
  rintro r w9 ⟨rfl, b9⟩
  have q9 := q8.trans (b9.mono q8.size)
  go_wp2_with fail
  go_ret
  exact ⟨rfl, q9⟩
set_option maxRecDepth 100000 in
set_option maxHeartbeats 4000000 in
theorem noneLaw_ptr (c : Int) (t : ByteArray) (w : World) (hN : NamesAt w) (ht : t.size ≤ 140737488351232) (h0 : -9223372036854775808 ≤ c) (h1 : c ≤ 9223372036854775807) (hp : pick4 c = 3) (hr : (declB t) = true) :
    Calls Tryd.prog 5 #[.int .i64 c, .string t] w fun r w' => r = .returned (.bool true) ∧ Below w.heap.size w w' := by
  have HP : Hid (∀ W, Calls Tryd.prog 16 #[.int .i64 c, .int .i64 4] W fun r w' => r = .returned (.int .i64 3) ∧ w' = W) := fun W => by rw [← hp]; exact pick_any c W h0 h1
  go_enter Tryd.func5, Tryd.ntmps5
  go_wp2_with fail
  refine (known_any _ hN).mono ?_
  rintro r w1 ⟨rfl, q1⟩
  go_wp2_with fail
  refine (HP.out _).mono ?_
  rintro r w2 ⟨rfl, rfl⟩
  go_wp2_with fail
  obtain ⟨V, hV⟩ : ∃ V, V = (w1.alloc (.cells #[.int .i64 5, .int .i64 6, .int .i64 7, .int .i64 9] 3)).alloc (.cells #[.int .i64 9, .string t, .int .i64 0, .int .u64 0, .string ⟨#[]⟩, .int .i64 0, .int .i64 0, .int .i64 0, .int .i64 0, .slice none 0 0, .slice none 0 0] 32) := ⟨_, rfl⟩
  have q2 : Below w.heap.size w V := by rw [hV]; exact (q1.alloc q1.size _).alloc (by have := q1.size; simp; omega) _
  have dV : V.heap[w1.heap.size + 1]? = some (.cells #[.int .i64 9, .string t, .int .i64 0, .int .u64 0, .string ⟨#[]⟩, .int .i64 0, .int .i64 0, .int .i64 0, .int .i64 0, .slice none 0 0, .slice none 0 0] 32 (0, 0)) := by rw [hV]; exact heap2_1 _ _ _
  rw [← hV]
  clear hV
  have hRt := Right_ptr t V (hN.kept q2)
  rw [hr] at hRt
  refine hRt.mono ?_
  rintro r w3 ⟨rfl, b3⟩
  have q3 := q2.trans (b3.mono q2.size)
  have d3 := (b3.block _ (row_ltT dV)).trans dV
  have e3 := fun j => row_at d3 j
  clear dV b3 hRt
  go_wp2_with fail
  refine (Of_ptr t w3 (hN.kept q3) ht hr).mono ?_
  rintro r w4 ⟨b, rfl, hb4, hr4, b4⟩
  have q4 := q3.trans (b4.mono q3.size)
  have d4 := (b4.block _ (row_ltT d3)).trans d3
  clear d3 e3 b4 hb4
  go_wp2_with fail
  refine (Of_nil w4 (hN.kept q4)).mono ?_
  rintro r w5 ⟨rfl, b5⟩
  have q5 := q4.trans (b5.mono q4.size)
  have d5 := (b5.block _ (row_ltT d4)).trans d4
  have hr5 := (b5.block _ (row_ltT hr4)).trans hr4
  have e5 := fun j => row_at d5 j
  clear d4 hr4 b5
  go_wp2_with fail
  refine (Unlike_ptr t w5 (hN.kept q5) hr).mono ?_
  rintro r w6 ⟨rfl, b6⟩
  have q6 := q5.trans (b6.mono q5.size)
  have hr6 := (b6.block _ (row_ltT hr5)).trans hr5
  clear d5 e5 hr5 b6
  go_wp2_with fail
  refine (none_pointer b 9 t 0 0 ⟨#[]⟩ 0 0 0 0 _ _ w6 hr6).mono ?_
  rintro r w7 ⟨rfl, b7⟩
  have q7 := q6.trans (b7.mono q6.size)
  have hr7 := (b7.block _ (row_ltT hr6)).trans hr6
  clear hr6 b7
  go_wp2_with fail
  refine (type_any b 9 t 0 0 ⟨#[]⟩ 0 0 0 0 _ _ w7 ht hr7).mono ?_
  rw [show nm 9 t = ⟨#[42]⟩ ++ t from rfl]
  rintro r w8 ⟨rfl, b8⟩
  have q8 := q7.trans (b8.mono q7.size)
  have hr8 := (b8.block _ (row_ltT hr7)).trans hr7
  clear hr7 b8
  go_wp2_with fail
  refine (type_any b 9 t 0 0 ⟨#[]⟩ 0 0 0 0 _ _ w8 ht hr8).mono ?_
  rw [show nm 9 t = ⟨#[42]⟩ ++ t from rfl]
  rintro r w9 ⟨rfl, b9⟩
  have q9 := q8.trans (b9.mono q8.size)
  go_wp2_with fail
  go_ret
  exact ⟨rfl, q9⟩
set_option maxRecDepth 100000 in
set_option maxHeartbeats 4000000 in
theorem noneLaw_bad_list (c : Int) (t : ByteArray) (w : World) (hN : NamesAt w) (h0 : -9223372036854775808 ≤ c) (h1 : c ≤ 9223372036854775807) (hp : pick4 c = 0) (hr : (t.toList == [108, 105, 115, 116] || declB t) = false) :
    Calls Tryd.prog 5 #[.int .i64 c, .string t] w fun r w' => r = .returned (.bool true) ∧ Below w.heap.size w w' := by
  have HP : Hid (∀ W, Calls Tryd.prog 16 #[.int .i64 c, .int .i64 4] W fun r w' => r = .returned (.int .i64 0) ∧ w' = W) := fun W => by rw [← hp]; exact pick_any c W h0 h1
  go_enter Tryd.func5, Tryd.ntmps5
  go_wp2_with fail
  refine (known_any _ hN).mono ?_
  rintro r w1 ⟨rfl, q1⟩
  go_wp2_with fail
  refine (HP.out _).mono ?_
  rintro r w2 ⟨rfl, rfl⟩
  go_wp2_with fail
  obtain ⟨V, hV⟩ : ∃ V, V = (w1.alloc (.cells #[.int .i64 5, .int .i64 6, .int .i64 7, .int .i64 9] 3)).alloc (.cells #[.int .i64 5, .string t, .int .i64 0, .int .u64 0, .string ⟨#[]⟩, .int .i64 0, .int .i64 0, .int .i64 0, .int .i64 0, .slice none 0 0, .slice none 0 0] 32) := ⟨_, rfl⟩
  have q2 : Below w.heap.size w V := by rw [hV]; exact (q1.alloc q1.size _).alloc (by have := q1.size; simp; omega) _
  have dV : V.heap[w1.heap.size + 1]? = some (.cells #[.int .i64 5, .string t, .int .i64 0, .int .u64 0, .string ⟨#[]⟩, .int .i64 0, .int .i64 0, .int .i64 0, .int .i64 0, .slice none 0 0, .slice none 0 0] 32 (0, 0)) := by rw [hV]; exact heap2_1 _ _ _
  rw [← hV]
  clear hV
  have hRt := Right_list t V (hN.kept q2)
  rw [hr] at hRt
  refine hRt.mono ?_
  rintro r w3 ⟨rfl, b3⟩
  have q3 := q2.trans (b3.mono q2.size)
  have d3 := (b3.block _ (row_ltT dV)).trans dV
  have e3 := fun j => row_at d3 j
  clear dV b3 hRt
  go_wp2_with fail
  refine (Of_bad 5 t 0 0 ⟨#[]⟩ 0 0 0 0 _ _ w3 (hN.kept q3) (fun W h => by have h2 := Right_list t W h; rw [hr] at h2; exact h2)).mono ?_
  rintro r w4 ⟨n, rfl, b4⟩
  have q4 := q3.trans (b4.mono q3.size)
  clear d3 e3 b4
  go_wp2_with fail
  refine (Of_nil w4 (hN.kept q4)).mono ?_
  rintro r w5 ⟨rfl, b5⟩
  have q5 := q4.trans (b5.mono q4.size)
  go_wp2_with fail
  go_ret
  exact ⟨rfl, q5⟩

set_option maxRecDepth 100000 in
set_option maxHeartbeats 4000000 in
theorem noneLaw_bad_map (c : Int) (t : ByteArray) (w : World) (hN : NamesAt w) (h0 : -9223372036854775808 ≤ c) (h1 : c ≤ 9223372036854775807) (hp : pick4 c = 1) (hr : (t.toList == [109, 97, 112] || declB t) = false) :
    Calls Tryd.prog 5 #[.int .i64 c, .string t] w fun r w' => r = .returned (.bool true) ∧ Below w.heap.size w w' := by
  have HP : Hid (∀ W, Calls Tryd.prog 16 #[.int .i64 c, .int .i64 4] W fun r w' => r = .returned (.int .i64 1) ∧ w' = W) := fun W => by rw [← hp]; exact pick_any c W h0 h1
  go_enter Tryd.func5, Tryd.ntmps5
  go_wp2_with fail
  refine (known_any _ hN).mono ?_
  rintro r w1 ⟨rfl, q1⟩
  go_wp2_with fail
  refine (HP.out _).mono ?_
  rintro r w2 ⟨rfl, rfl⟩
  go_wp2_with fail
  obtain ⟨V, hV⟩ : ∃ V, V = (w1.alloc (.cells #[.int .i64 5, .int .i64 6, .int .i64 7, .int .i64 9] 3)).alloc (.cells #[.int .i64 6, .string t, .int .i64 0, .int .u64 0, .string ⟨#[]⟩, .int .i64 0, .int .i64 0, .int .i64 0, .int .i64 0, .slice none 0 0, .slice none 0 0] 32) := ⟨_, rfl⟩
  have q2 : Below w.heap.size w V := by rw [hV]; exact (q1.alloc q1.size _).alloc (by have := q1.size; simp; omega) _
  have dV : V.heap[w1.heap.size + 1]? = some (.cells #[.int .i64 6, .string t, .int .i64 0, .int .u64 0, .string ⟨#[]⟩, .int .i64 0, .int .i64 0, .int .i64 0, .int .i64 0, .slice none 0 0, .slice none 0 0] 32 (0, 0)) := by rw [hV]; exact heap2_1 _ _ _
  rw [← hV]
  clear hV
  have hRt := Right_map t V (hN.kept q2)
  rw [hr] at hRt
  refine hRt.mono ?_
  rintro r w3 ⟨rfl, b3⟩
  have q3 := q2.trans (b3.mono q2.size)
  have d3 := (b3.block _ (row_ltT dV)).trans dV
  have e3 := fun j => row_at d3 j
  clear dV b3 hRt
  go_wp2_with fail
  refine (Of_bad 6 t 0 0 ⟨#[]⟩ 0 0 0 0 _ _ w3 (hN.kept q3) (fun W h => by have h2 := Right_map t W h; rw [hr] at h2; exact h2)).mono ?_
  rintro r w4 ⟨n, rfl, b4⟩
  have q4 := q3.trans (b4.mono q3.size)
  clear d3 e3 b4
  go_wp2_with fail
  refine (Of_nil w4 (hN.kept q4)).mono ?_
  rintro r w5 ⟨rfl, b5⟩
  have q5 := q4.trans (b5.mono q4.size)
  go_wp2_with fail
  go_ret
  exact ⟨rfl, q5⟩

set_option maxRecDepth 100000 in
set_option maxHeartbeats 4000000 in
theorem noneLaw_bad_func (c : Int) (t : ByteArray) (w : World) (hN : NamesAt w) (h0 : -9223372036854775808 ≤ c) (h1 : c ≤ 9223372036854775807) (hp : pick4 c = 2) (hr : (t.toList == [102, 117, 110, 99] || declB t) = false) :
    Calls Tryd.prog 5 #[.int .i64 c, .string t] w fun r w' => r = .returned (.bool true) ∧ Below w.heap.size w w' := by
  have HP : Hid (∀ W, Calls Tryd.prog 16 #[.int .i64 c, .int .i64 4] W fun r w' => r = .returned (.int .i64 2) ∧ w' = W) := fun W => by rw [← hp]; exact pick_any c W h0 h1
  go_enter Tryd.func5, Tryd.ntmps5
  go_wp2_with fail
  refine (known_any _ hN).mono ?_
  rintro r w1 ⟨rfl, q1⟩
  go_wp2_with fail
  refine (HP.out _).mono ?_
  rintro r w2 ⟨rfl, rfl⟩
  go_wp2_with fail
  obtain ⟨V, hV⟩ : ∃ V, V = (w1.alloc (.cells #[.int .i64 5, .int .i64 6, .int .i64 7, .int .i64 9] 3)).alloc (.cells #[.int .i64 7, .string t, .int .i64 0, .int .u64 0, .string ⟨#[]⟩, .int .i64 0, .int .i64 0, .int .i64 0, .int .i64 0, .slice none 0 0, .slice none 0 0] 32) := ⟨_, rfl⟩
  have q2 : Below w.heap.size w V := by rw [hV]; exact (q1.alloc q1.size _).alloc (by have := q1.size; simp; omega) _
  have dV : V.heap[w1.heap.size + 1]? = some (.cells #[.int .i64 7, .string t, .int .i64 0, .int .u64 0, .string ⟨#[]⟩, .int .i64 0, .int .i64 0, .int .i64 0, .int .i64 0, .slice none 0 0, .slice none 0 0] 32 (0, 0)) := by rw [hV]; exact heap2_1 _ _ _
  rw [← hV]
  clear hV
  have hRt := Right_func t V (hN.kept q2)
  rw [hr] at hRt
  refine hRt.mono ?_
  rintro r w3 ⟨rfl, b3⟩
  have q3 := q2.trans (b3.mono q2.size)
  have d3 := (b3.block _ (row_ltT dV)).trans dV
  have e3 := fun j => row_at d3 j
  clear dV b3 hRt
  go_wp2_with fail
  refine (Of_bad 7 t 0 0 ⟨#[]⟩ 0 0 0 0 _ _ w3 (hN.kept q3) (fun W h => by have h2 := Right_func t W h; rw [hr] at h2; exact h2)).mono ?_
  rintro r w4 ⟨n, rfl, b4⟩
  have q4 := q3.trans (b4.mono q3.size)
  clear d3 e3 b4
  go_wp2_with fail
  refine (Of_nil w4 (hN.kept q4)).mono ?_
  rintro r w5 ⟨rfl, b5⟩
  have q5 := q4.trans (b5.mono q4.size)
  go_wp2_with fail
  go_ret
  exact ⟨rfl, q5⟩

set_option maxRecDepth 100000 in
set_option maxHeartbeats 4000000 in
theorem noneLaw_bad_ptr (c : Int) (t : ByteArray) (w : World) (hN : NamesAt w) (h0 : -9223372036854775808 ≤ c) (h1 : c ≤ 9223372036854775807) (hp : pick4 c = 3) (hr : (declB t) = false) :
    Calls Tryd.prog 5 #[.int .i64 c, .string t] w fun r w' => r = .returned (.bool true) ∧ Below w.heap.size w w' := by
  have HP : Hid (∀ W, Calls Tryd.prog 16 #[.int .i64 c, .int .i64 4] W fun r w' => r = .returned (.int .i64 3) ∧ w' = W) := fun W => by rw [← hp]; exact pick_any c W h0 h1
  go_enter Tryd.func5, Tryd.ntmps5
  go_wp2_with fail
  refine (known_any _ hN).mono ?_
  rintro r w1 ⟨rfl, q1⟩
  go_wp2_with fail
  refine (HP.out _).mono ?_
  rintro r w2 ⟨rfl, rfl⟩
  go_wp2_with fail
  obtain ⟨V, hV⟩ : ∃ V, V = (w1.alloc (.cells #[.int .i64 5, .int .i64 6, .int .i64 7, .int .i64 9] 3)).alloc (.cells #[.int .i64 9, .string t, .int .i64 0, .int .u64 0, .string ⟨#[]⟩, .int .i64 0, .int .i64 0, .int .i64 0, .int .i64 0, .slice none 0 0, .slice none 0 0] 32) := ⟨_, rfl⟩
  have q2 : Below w.heap.size w V := by rw [hV]; exact (q1.alloc q1.size _).alloc (by have := q1.size; simp; omega) _
  have dV : V.heap[w1.heap.size + 1]? = some (.cells #[.int .i64 9, .string t, .int .i64 0, .int .u64 0, .string ⟨#[]⟩, .int .i64 0, .int .i64 0, .int .i64 0, .int .i64 0, .slice none 0 0, .slice none 0 0] 32 (0, 0)) := by rw [hV]; exact heap2_1 _ _ _
  rw [← hV]
  clear hV
  have hRt := Right_ptr t V (hN.kept q2)
  rw [hr] at hRt
  refine hRt.mono ?_
  rintro r w3 ⟨rfl, b3⟩
  have q3 := q2.trans (b3.mono q2.size)
  have d3 := (b3.block _ (row_ltT dV)).trans dV
  have e3 := fun j => row_at d3 j
  clear dV b3 hRt
  go_wp2_with fail
  refine (Of_bad 9 t 0 0 ⟨#[]⟩ 0 0 0 0 _ _ w3 (hN.kept q3) (fun W h => by have h2 := Right_ptr t W h; rw [hr] at h2; exact h2)).mono ?_
  rintro r w4 ⟨n, rfl, b4⟩
  have q4 := q3.trans (b4.mono q3.size)
  clear d3 e3 b4
  go_wp2_with fail
  refine (Of_nil w4 (hN.kept q4)).mono ?_
  rintro r w5 ⟨rfl, b5⟩
  have q5 := q4.trans (b5.mono q4.size)
  go_wp2_with fail
  go_ret
  exact ⟨rfl, q5⟩

end Go.Proofs.YtnhbpcmiolkllabDoor
