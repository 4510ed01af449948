/-
  Hash at the int 5; told.
-/
import Derived.Test.YtnhbpcmiolkllaaDoorS
import Derived.Test.YtnhbpcmiolkllaaDoorU
namespace Go.Proofs.YtnhbpcmiolkllaaDoor
open Go.RowKit
attribute [local go_sem] refold2 cell3_0 cell3_1 b28_0 b28_01

set_option maxRecDepth 100000 in
set_option maxHeartbeats 2000000 in
theorem Hash_5 (w : World) (hN : NamesAt w) :
    Calls Tryd.prog 26 #[dat 2 ⟨#[105, 110, 116]⟩ 5 0 ⟨#[]⟩] w fun r w' => r = .returned (.tuple #[.int .u64 (hash5 14695981039346656037), .nilIface]) ∧ Below w.heap.size w w' := by
  have HKy : Hid (∀ W, NamesAt W → Calls Tryd.prog 25 #[dat 2 ⟨#[105, 110, 116]⟩ 5 0 ⟨#[]⟩] W fun r w' => r = .returned .nilIface ∧ Below W.heap.size W w') := Key_5
  have HH : Hid (∀ W, Calls Tryd.prog 50 #[dat 2 ⟨#[105, 110, 116]⟩ 5 0 ⟨#[]⟩] W fun r w' => r = .returned (.int .u64 (hash5 14695981039346656037)) ∧ Below W.heap.size W w') := hashed_5
  generalize hash5 14695981039346656037 = hv at HH ⊢
  simp only [dat, D] at HKy HH ⊢
  go_enter Tryd.func26, Tryd.ntmps26
  go_wp2_with fail
  refine (HKy.out _ (hN.kept (below1 _ _))).mono ?_
  rintro r w1 ⟨rfl, b1⟩
  have e1 := one_kept _ _ _ b1
  have q1 : Below w.heap.size w w1 := (below1 _ _).trans (b1.mono (by simp))
  go_wp2_with (go_at_call 50; refine (HH.out _).mono ?_; rintro r w2 ⟨rfl, b2⟩)
  refine bodyPost_ret (v := .tuple #[.int .u64 hv, .nilIface]) (by simp [results, Tryd.results26, go_sem]) rfl ⟨rfl, q1.trans (b2.mono q1.size)⟩

theorem ta97 (v : Value) (W : World) : (Instr.typeAssert (.iface 103 v) 36 103 true).run Tryd.prog W = .ok (.tuple #[v, .bool true]) W := by
  simp [Instr.typeAssert, go_sem]
set_option maxRecDepth 100000 in
set_option maxHeartbeats 2000000 in
theorem told_hit (n : Nat) (word more : ByteArray) (w : World) (hn : w.heap[n]? = some (.cells #[.string word, .string more] 53 (0, 0))) (hne : word.size ≠ 0) :
    Calls Tryd.prog 24 #[.iface 103 (.pointer (some ⟨n, 0, none⟩)), .agg #[.string word, .string more]] w fun r w' => r = .returned (.bool true) ∧ Below w.heap.size w w' := by
  have hc0 : w.cell? ⟨n, 0, none⟩ = some (.string word) := by simp [World.cell?, hn]
  have hc1 : w.cell? ⟨n, 1, none⟩ = some (.string more) := by simp [World.cell?, hn]
  have hb : n < w.heap.size := (Array.getElem?_eq_some_iff.1 hn).1
  have hta := ta97
  have he := ne_empty hne
  clear hn hne
  go_enter Tryd.func24, Tryd.ntmps24
  go_wp2
  go_region
  go_wp2
  go_ret
  exact ⟨rfl, (below1 _ _).drew⟩

set_option maxRecDepth 100000 in
set_option maxHeartbeats 2000000 in
theorem whole_any (n : Int) (w : World) : Calls Tryd.prog 30 #[.int .i64 n] w fun r w' => r = .returned (dat 2 ⟨#[105, 110, 116]⟩ n 0 ⟨#[]⟩) ∧ Below w.heap.size w w' := by
  have hb := b28_012
  go_enter Tryd.func30, Tryd.ntmps30
  go_wp2
  refine bodyPost_ret (v := dat 2 ⟨#[105, 110, 116]⟩ n 0 ⟨#[]⟩) (by simp [results, Tryd.results30, go_sem, dat, D]) rfl ⟨rfl, below1 _ _⟩
end Go.Proofs.YtnhbpcmiolkllaaDoor
