/-
  .
  .
-/
import Derived.Test.YtdbijkgnddcneaaGreatDoorXhJ
import Derived.Laws.CopyRow
import Derived.Maps.AppendAt
import Derived.Test.YtdbijkgnddcneaaGreatDoorSq
namespace Go.Proofs.YtdbijkgnddcneaaGreatDoor
open Go.RowKit Go.ChangeMaps
attribute [local go_sem] refold2 cell3_0 cell3_1 b28_0 b28_01 nz26 nz23 b32_012 b32_015 b30_023 b30_0123 b30_0 b131_0
theorem ownsRow_below {w w' : World} {base : Nat} {e : TypeId} {size : Nat} {v : Value} {n : Nat} {xs : List Value} (h : w.ownsRow base e size v n xs) (hb : Below w.heap.size w w') : w'.ownsRow base e size v n xs := by
 obtain ⟨h1, h2⟩ := h
 refine ⟨h1, ?_⟩
 rcases h2 with h2 | ⟨g, cap, cur, hv, hg, hh, r⟩
 ·exact .inl h2
 ·exact .inr ⟨g, cap, cur, hv, hg, by rw [hb.block g (Array.getElem?_eq_some_iff.1 hh).1]; exact hh, r⟩
end Go.Proofs.YtdbijkgnddcneaaGreatDoor
namespace Go.Proofs.YtdbijkgnddcneaaGreatDoor
open Go.RowKit Go.ChangeMaps
set_option maxRecDepth 100000
set_option maxHeartbeats 4000000
attribute [local go_sem] refold2 cell3_0 cell3_1 b28_0 b28_01 nz26 nz23 b32_012 b32_015 b30_023 b30_0123 b30_0 b131_0
theorem ta102_84 (ab : Nat) (w : World) : (Instr.typeAssert (.iface 102 (.pointer (some ⟨ab, 0, none⟩))) 134 84 true).run Tryz.prog w = .ok (.tuple #[.pointer none, .bool false]) w := by kernel_rfl
theorem ta102_129 (ab : Nat) (w : World) : (Instr.typeAssert (.iface 102 (.pointer (some ⟨ab, 0, none⟩))) 134 129 true).run Tryz.prog w = .ok (.tuple #[.pointer none, .bool false]) w := by kernel_rfl
theorem ta102_102 (ab : Nat) (w : World) : (Instr.typeAssert (.iface 102 (.pointer (some ⟨ab, 0, none⟩))) 134 102 true).run Tryz.prog w = .ok (.tuple #[.pointer (some ⟨ab, 0, none⟩), .bool true]) w := by kernel_rfl
theorem ta102_115 (ab : Nat) (w : World) : (Instr.typeAssert (.iface 102 (.pointer (some ⟨ab, 0, none⟩))) 134 115 true).run Tryz.prog w = .ok (.tuple #[.pointer none, .bool false]) w := by kernel_rfl
theorem ta115_84 (ab : Nat) (w : World) : (Instr.typeAssert (.iface 115 (.pointer (some ⟨ab, 0, none⟩))) 134 84 true).run Tryz.prog w = .ok (.tuple #[.pointer none, .bool false]) w := by kernel_rfl
theorem ta115_129 (ab : Nat) (w : World) : (Instr.typeAssert (.iface 115 (.pointer (some ⟨ab, 0, none⟩))) 134 129 true).run Tryz.prog w = .ok (.tuple #[.pointer none, .bool false]) w := by kernel_rfl
theorem ta115_102 (ab : Nat) (w : World) : (Instr.typeAssert (.iface 115 (.pointer (some ⟨ab, 0, none⟩))) 134 102 true).run Tryz.prog w = .ok (.tuple #[.pointer none, .bool false]) w := by kernel_rfl
theorem ta115_115 (ab : Nat) (w : World) : (Instr.typeAssert (.iface 115 (.pointer (some ⟨ab, 0, none⟩))) 134 115 true).run Tryz.prog w = .ok (.tuple #[.pointer (some ⟨ab, 0, none⟩), .bool true]) w := by kernel_rfl
theorem ta111 (ab : Nat) (w : World) : (Instr.typeAssert (.iface 111 (.pointer (some ⟨ab, 0, none⟩))) 134 111 true).run Tryz.prog w = .ok (.tuple #[.pointer (some ⟨ab, 0, none⟩), .bool true]) w := by kernel_rfl
attribute [local go_sem] ta111 ta102_84 ta102_129 ta102_102 ta102_115 ta115_84 ta115_129 ta115_102 ta115_115
theorem fits_map (hb M : Nat) (vs : List Value) (m ab : Nat) (hm : vs[m]? = some (.iface 102 (.pointer (some ⟨ab, 0, none⟩)))) (hF : FlatR (leadD 6 ⟨#[109, 97, 112]⟩ ((m : Int) + 1) 0 0 0)) (w : World) (hN : NamesAt w) (h : HeapAt w hb M vs) :
  Calls Tryz.prog 64 #[.pointer (some ⟨hb, 0, none⟩), .agg #[.int .i64 6, .string ⟨#[109, 97, 112]⟩, .int .i64 0, .int .u64 0, .string ⟨#[]⟩, .int .i64 ((m : Int) + 1), .int .i64 0, .int .i64 0, .int .i64 0, .slice none 0 0, .slice none 0 0]] w fun r w' => r = .returned (.bool true) ∧ Below w.heap.size w w' := by
 have o1 : ¬ (m : Int) + 1 = 0 := by omega
 go_enter Tryz.func64, Tryz.ntmps64
 go_wp2_with fail
 obtain ⟨U0, hU0⟩ : ∃ W, W = w.alloc (.cells #[.int .i64 6, .string ⟨#[109, 97, 112]⟩, .int .i64 0, .int .u64 0, .string ⟨#[]⟩, .int .i64 ((m : Int) + 1), .int .i64 0, .int .i64 0, .int .i64 0, .slice none 0 0, .slice none 0 0] 32) := ⟨_, rfl⟩
 have u0 : Below w.heap.size w U0 := by rw [hU0]; exact below1 w _
 have b0 : U0.heap[w.heap.size]? = some (.cells #[.int .i64 6, .string ⟨#[109, 97, 112]⟩, .int .i64 0, .int .u64 0, .string ⟨#[]⟩, .int .i64 ((m : Int) + 1), .int .i64 0, .int .i64 0, .int .i64 0, .slice none 0 0, .slice none 0 0] 32) := by rw [hU0]; exact heap_alloc_new _ _
 have n0 := hN.kept u0
 have HR : Hid (Calls Tryz.prog 39 #[.agg #[.int .i64 6, .string ⟨#[109, 97, 112]⟩, .int .i64 0, .int .u64 0, .string ⟨#[]⟩, .int .i64 ((m : Int) + 1), .int .i64 0, .int .i64 0, .int .i64 0, .slice none 0 0, .slice none 0 0]] U0 fun r w' => r = .returned (.bool true) ∧ Below U0.heap.size U0 w') := by
  have := Right_any 4 (leadD 6 ⟨#[109, 97, 112]⟩ ((m : Int) + 1) 0 0 0) U0 n0 (hF.inn _ _)
  rw [hF.right] at this
  exact this
 rw [← hU0]
 clear hU0
 refine HR.out.mono ?_
 rintro _ U1 ⟨rfl, c1⟩
 have u1 : Below w.heap.size w U1 := u0.trans (c1.mono u0.size)
 have b1 := (c1.block _ (hblk b0)).trans b0
 clear b0 u0 c1 HR n0
 have bc1 := (cells_of b1).1
 go_wp2_with fail
 refine rg (S := fun W => (∀ j, W.cell? ⟨w.heap.size, j, none⟩ = (#[.int .i64 6, .string ⟨#[109, 97, 112]⟩, .int .i64 0, .int .u64 0, .string ⟨#[]⟩, .int .i64 ((m : Int) + 1), .int .i64 0, .int .i64 0, .int .i64 0, .slice none 0 0, .slice none 0 0] : Array Value)[j]?) ∧ (∀ j, W.cell? ⟨hb, j, none⟩ = (#[.map (some M), .int .i64 vs.length] : Array Value)[j]?) ∧ HeapAt W hb M vs) (fun U2 hB4 HU2 => ?_)
 have hS : (∀ j, U2.cell? ⟨w.heap.size, j, none⟩ = (#[.int .i64 6, .string ⟨#[109, 97, 112]⟩, .int .i64 0, .int .u64 0, .string ⟨#[]⟩, .int .i64 ((m : Int) + 1), .int .i64 0, .int .i64 0, .int .i64 0, .slice none 0 0, .slice none 0 0] : Array Value)[j]?) ∧ (∀ j, U2.cell? ⟨hb, j, none⟩ = (#[.map (some M), .int .i64 vs.length] : Array Value)[j]?) ∧ HeapAt U2 hb M vs := ⟨(cells_of ((hB4.block _ (hblk b1)).trans b1)).1, (cells_of ((h.below u1).below hB4).box).1, (h.below u1).below hB4⟩
 refine tq 0 (.pointer (some ⟨hb, 0, none⟩)) rfl hS ?_
 simp only [sa, sb, Act.put, sd, se, sf]
 refine tq 1 (.pointer (some ⟨hb, 0, none⟩)) rfl hS ?_
 simp only [sa, sb, sc, Act.put, sd, se, sf]
 refine tq 2 (.pointer (some ⟨hb, 0, none⟩)) rfl hS ?_
 simp only [sa, sb, sc, Act.put, sd, se, sf]
 refine tk 3 (.map (some M)) rfl (.inl ⟨by rfl, ?r⟩) hS ?_
 case r => intro W hW; simp [go_sem, execOp, Act.eval, hW.2.1]
 simp only [sa, sb, sc, Act.put, sd, se, sf]
 refine tq 4 (.pointer (some ⟨w.heap.size, 5, none⟩)) rfl hS ?_
 simp only [sa, sb, sc, Act.put, sd, se, sf]
 refine tq 5 (.pointer (some ⟨w.heap.size, 5, none⟩)) rfl hS ?_
 simp only [sa, sb, sc, Act.put, sd, se, sf]
 refine tk 6 (.int .i64 ((m : Int) + 1)) rfl (.inl ⟨by rfl, ?r⟩) hS ?_
 case r => intro W hW; simp [go_sem, execOp, Act.eval, hW.1]
 simp only [sa, sb, sc, Act.put, sd, se, sf]
 refine tk 7 (.iface 102 (.pointer (some ⟨ab, 0, none⟩))) rfl (.inl ⟨by rfl, ?r⟩) hS ?_
 case r => intro W hW; simp [go_sem, execOp, Act.eval, hW.2.2.look hm rfl]
 simp only [sa, sb, sc, Act.put, sd, se, sf]
 have b2 := (hB4.block _ (hblk b1)).trans b1
 have u2 : Below w.heap.size w U2 := u1.trans (hB4.mono u1.size)
 clear HU2 hB4 hS b1 bc1 u1
 refine dn ?_
 try simp only [Act.put]
 have bc2 := (cells_of b2).1
 go_wp2_with fail
 go_ret
 exact ⟨rfl, u2⟩
theorem fits_func (hb M : Nat) (vs : List Value) (m ab : Nat) (hm : vs[m]? = some (.iface 115 (.pointer (some ⟨ab, 0, none⟩)))) (hF : FlatR (leadD 7 ⟨#[102, 117, 110, 99]⟩ ((m : Int) + 1) 0 0 0)) (w : World) (hN : NamesAt w) (h : HeapAt w hb M vs) :
  Calls Tryz.prog 64 #[.pointer (some ⟨hb, 0, none⟩), .agg #[.int .i64 7, .string ⟨#[102, 117, 110, 99]⟩, .int .i64 0, .int .u64 0, .string ⟨#[]⟩, .int .i64 ((m : Int) + 1), .int .i64 0, .int .i64 0, .int .i64 0, .slice none 0 0, .slice none 0 0]] w fun r w' => r = .returned (.bool true) ∧ Below w.heap.size w w' := by
 have o1 : ¬ (m : Int) + 1 = 0 := by omega
 go_enter Tryz.func64, Tryz.ntmps64
 go_wp2_with fail
 obtain ⟨U0, hU0⟩ : ∃ W, W = w.alloc (.cells #[.int .i64 7, .string ⟨#[102, 117, 110, 99]⟩, .int .i64 0, .int .u64 0, .string ⟨#[]⟩, .int .i64 ((m : Int) + 1), .int .i64 0, .int .i64 0, .int .i64 0, .slice none 0 0, .slice none 0 0] 32) := ⟨_, rfl⟩
 have u0 : Below w.heap.size w U0 := by rw [hU0]; exact below1 w _
 have b0 : U0.heap[w.heap.size]? = some (.cells #[.int .i64 7, .string ⟨#[102, 117, 110, 99]⟩, .int .i64 0, .int .u64 0, .string ⟨#[]⟩, .int .i64 ((m : Int) + 1), .int .i64 0, .int .i64 0, .int .i64 0, .slice none 0 0, .slice none 0 0] 32) := by rw [hU0]; exact heap_alloc_new _ _
 have n0 := hN.kept u0
 have HR : Hid (Calls Tryz.prog 39 #[.agg #[.int .i64 7, .string ⟨#[102, 117, 110, 99]⟩, .int .i64 0, .int .u64 0, .string ⟨#[]⟩, .int .i64 ((m : Int) + 1), .int .i64 0, .int .i64 0, .int .i64 0, .slice none 0 0, .slice none 0 0]] U0 fun r w' => r = .returned (.bool true) ∧ Below U0.heap.size U0 w') := by
  have := Right_any 4 (leadD 7 ⟨#[102, 117, 110, 99]⟩ ((m : Int) + 1) 0 0 0) U0 n0 (hF.inn _ _)
  rw [hF.right] at this
  exact this
 rw [← hU0]
 clear hU0
 refine HR.out.mono ?_
 rintro _ U1 ⟨rfl, c1⟩
 have u1 : Below w.heap.size w U1 := u0.trans (c1.mono u0.size)
 have b1 := (c1.block _ (hblk b0)).trans b0
 clear b0 u0 c1 HR n0
 have bc1 := (cells_of b1).1
 go_wp2_with fail
 refine rg (S := fun W => (∀ j, W.cell? ⟨w.heap.size, j, none⟩ = (#[.int .i64 7, .string ⟨#[102, 117, 110, 99]⟩, .int .i64 0, .int .u64 0, .string ⟨#[]⟩, .int .i64 ((m : Int) + 1), .int .i64 0, .int .i64 0, .int .i64 0, .slice none 0 0, .slice none 0 0] : Array Value)[j]?) ∧ (∀ j, W.cell? ⟨hb, j, none⟩ = (#[.map (some M), .int .i64 vs.length] : Array Value)[j]?) ∧ HeapAt W hb M vs) (fun U2 hB4 HU2 => ?_)
 have hS : (∀ j, U2.cell? ⟨w.heap.size, j, none⟩ = (#[.int .i64 7, .string ⟨#[102, 117, 110, 99]⟩, .int .i64 0, .int .u64 0, .string ⟨#[]⟩, .int .i64 ((m : Int) + 1), .int .i64 0, .int .i64 0, .int .i64 0, .slice none 0 0, .slice none 0 0] : Array Value)[j]?) ∧ (∀ j, U2.cell? ⟨hb, j, none⟩ = (#[.map (some M), .int .i64 vs.length] : Array Value)[j]?) ∧ HeapAt U2 hb M vs := ⟨(cells_of ((hB4.block _ (hblk b1)).trans b1)).1, (cells_of ((h.below u1).below hB4).box).1, (h.below u1).below hB4⟩
 refine tq 0 (.pointer (some ⟨hb, 0, none⟩)) rfl hS ?_
 simp only [sa, sb, Act.put, sd, se, sf]
 refine tq 1 (.pointer (some ⟨hb, 0, none⟩)) rfl hS ?_
 simp only [sa, sb, sc, Act.put, sd, se, sf]
 refine tq 2 (.pointer (some ⟨hb, 0, none⟩)) rfl hS ?_
 simp only [sa, sb, sc, Act.put, sd, se, sf]
 refine tk 3 (.map (some M)) rfl (.inl ⟨by rfl, ?r⟩) hS ?_
 case r => intro W hW; simp [go_sem, execOp, Act.eval, hW.2.1]
 simp only [sa, sb, sc, Act.put, sd, se, sf]
 refine tq 4 (.pointer (some ⟨w.heap.size, 5, none⟩)) rfl hS ?_
 simp only [sa, sb, sc, Act.put, sd, se, sf]
 refine tq 5 (.pointer (some ⟨w.heap.size, 5, none⟩)) rfl hS ?_
 simp only [sa, sb, sc, Act.put, sd, se, sf]
 refine tk 6 (.int .i64 ((m : Int) + 1)) rfl (.inl ⟨by rfl, ?r⟩) hS ?_
 case r => intro W hW; simp [go_sem, execOp, Act.eval, hW.1]
 simp only [sa, sb, sc, Act.put, sd, se, sf]
 refine tk 7 (.iface 115 (.pointer (some ⟨ab, 0, none⟩))) rfl (.inl ⟨by rfl, ?r⟩) hS ?_
 case r => intro W hW; simp [go_sem, execOp, Act.eval, hW.2.2.look hm rfl]
 simp only [sa, sb, sc, Act.put, sd, se, sf]
 have b2 := (hB4.block _ (hblk b1)).trans b1
 have u2 : Below w.heap.size w U2 := u1.trans (hB4.mono u1.size)
 clear HU2 hB4 hS b1 bc1 u1
 refine dn ?_
 try simp only [Act.put]
 have bc2 := (cells_of b2).1
 go_wp2_with fail
 go_ret
 exact ⟨rfl, u2⟩
theorem b112_0 (z : Int) (w : World) : (Instr.build 112 #[(0, .agg #[.int .i64 2, .string ⟨#[105, 110, 116]⟩, .int .i64 z, .int .u64 0, .string ⟨#[]⟩, .int .i64 0, .int .i64 0, .int .i64 0, .int .i64 0, .slice none 0 0, .slice none 0 0])]).run Tryz.prog w = .ok (.agg #[.int .i64 2, .string ⟨#[105, 110, 116]⟩, .int .i64 z, .int .u64 0, .string ⟨#[]⟩, .int .i64 0, .int .i64 0, .int .i64 0, .int .i64 0, .slice none 0 0, .slice none 0 0]) w := by kernel_rfl
attribute [local go_sem] b112_0
theorem variable_any (hb M : Nat) (vs : List Value) (m ab : Nat) (hm : vs[m]? = some (.iface 111 (.pointer (some ⟨ab, 0, none⟩)))) (w : World) (h : HeapAt w hb M vs) :
  Calls Tryz.prog 59 #[.pointer (some ⟨hb, 0, none⟩), .int .i64 ((m : Int) + 1)] w fun r w' => r = .returned (.pointer (some ⟨ab, 0, none⟩)) ∧ w' = w := by
 have hlk := h.look hm rfl
 have cc := (cells_of h.box).1
 go_enter Tryz.func59, Tryz.ntmps59
 go_wp2_with fail
 go_ret
 exact ⟨rfl, rfl⟩
theorem Box_whole (hb M : Nat) (vs : List Value) (hl : vs.length < 1000) (z : Int) (hz : FlatR (wholeD z)) (w : World) (hN : NamesAt w) (h : HeapAt w hb M vs) :
  Calls Tryz.prog 26 #[.pointer (some ⟨hb, 0, none⟩), .agg #[.int .i64 2, .string ⟨#[105, 110, 116]⟩, .int .i64 z, .int .u64 0, .string ⟨#[]⟩, .int .i64 0, .int .i64 0, .int .i64 0, .int .i64 0, .slice none 0 0, .slice none 0 0]] w fun r w' => r = .returned (.tuple #[.int .i64 ((vs.length : Int) + 1), .nilIface]) ∧ ∃ ab, HeapAt w' hb M (vs ++ [.iface 111 (.pointer (some ⟨ab, 0, none⟩))]) ∧ w'.heap[ab]? = some (.cells #[.int .i64 2, .string ⟨#[105, 110, 116]⟩, .int .i64 z, .int .u64 0, .string ⟨#[]⟩, .int .i64 0, .int .i64 0, .int .i64 0, .int .i64 0, .slice none 0 0, .slice none 0 0] 112) ∧ Kp (fun b => b = hb ∨ b = M) w w' ∧ w.heap.size ≤ ab := by
 have hlt1 := hblk h.box
 have hlt2 := hblk h.map
 have HA : Hid (∀ v W, HeapAt W hb M vs → Calls Tryz.prog 43 #[.pointer (some ⟨hb, 0, none⟩), v] W fun r w' => r = .returned (.tuple #[.int .i64 ((vs.length : Int) + 1), .nilIface]) ∧ HeapAt w' hb M (vs ++ [v]) ∧ Kp (fun b => b = hb ∨ b = M) W w') := fun v W hW => add_any v hb M vs hl W hW
 have HR : Hid (∀ W, Below w.heap.size w W → Calls Tryz.prog 39 #[.agg #[.int .i64 2, .string ⟨#[105, 110, 116]⟩, .int .i64 z, .int .u64 0, .string ⟨#[]⟩, .int .i64 0, .int .i64 0, .int .i64 0, .int .i64 0, .slice none 0 0, .slice none 0 0]] W fun r w' => r = .returned (.bool true) ∧ Below W.heap.size W w') := fun W hW => by
  have := Right_any 4 (wholeD z) W (hN.kept hW) (hz.inn _ _)
  rw [hz.right] at this
  exact this
 go_enter Tryz.func26, Tryz.ntmps26
 go_wp2_with fail
 obtain ⟨U0, hU0⟩ : ∃ W, W = w.alloc (.cells #[.int .i64 2, .string ⟨#[105, 110, 116]⟩, .int .i64 z, .int .u64 0, .string ⟨#[]⟩, .int .i64 0, .int .i64 0, .int .i64 0, .int .i64 0, .slice none 0 0, .slice none 0 0] 32) := ⟨_, rfl⟩
 rw [← hU0]
 have u0 : Below w.heap.size w U0 := by rw [hU0]; exact below1 w _
 have b0 : U0.heap[w.heap.size]? = some (.cells #[.int .i64 2, .string ⟨#[105, 110, 116]⟩, .int .i64 z, .int .u64 0, .string ⟨#[]⟩, .int .i64 0, .int .i64 0, .int .i64 0, .int .i64 0, .slice none 0 0, .slice none 0 0] 32) := by rw [hU0]; exact heap_alloc_new _ _
 clear hU0
 refine (HR.out _ u0).mono ?_
 rintro _ U1 ⟨rfl, c1⟩
 have u1 : Below w.heap.size w U1 := u0.trans (c1.mono u0.size)
 have b1 := (c1.block _ (hblk b0)).trans b0
 clear b0 u0 c1
 have bc1 := (cells_of b1).1
 go_wp2_with fail
 refine (copied_flat 2 ⟨#[105, 110, 116]⟩ z 0 0 0 0 (by show 3 ≤ 60000; omega) _).mono ?_
 rintro _ U2 ⟨rfl, c2⟩
 have u2 : Below w.heap.size w U2 := u1.trans (c2.mono u1.size)
 clear b1 bc1 u1 c2
 simp only [flatD, MD.val, D, List.length_nil]
 go_wp2_with fail
 obtain ⟨U3, hU3⟩ : ∃ W, W = U2.alloc (.cells #[.int .i64 2, .string ⟨#[105, 110, 116]⟩, .int .i64 z, .int .u64 0, .string ⟨#[]⟩, .int .i64 0, .int .i64 0, .int .i64 0, .int .i64 0, .slice none 0 0, .slice none 0 0] 112) := ⟨_, rfl⟩
 rw [← hU3]
 have c3 : Below U2.heap.size U2 U3 := by rw [hU3]; exact below1 _ _
 have a3 : U3.heap[U2.heap.size]? = some (.cells #[.int .i64 2, .string ⟨#[105, 110, 116]⟩, .int .i64 z, .int .u64 0, .string ⟨#[]⟩, .int .i64 0, .int .i64 0, .int .i64 0, .int .i64 0, .slice none 0 0, .slice none 0 0] 112) := by rw [hU3]; exact heap_alloc_new _ _
 have u3 : Below w.heap.size w U3 := u2.trans (c3.mono u2.size)
 have y2 := u2.size
 clear hU3 c3 u2
 refine (HA.out _ _ (h.below u3)).mono ?_
 rintro _ V ⟨rfl, hV, kV⟩
 have a4 := (kV.block _ (hblk a3) (by omega)).trans a3
 have k4 : Kp (fun b => b = hb ∨ b = M) w V := (Kp.of u3).trans kV fun _ _ e => e
 go_wp2_with fail
 exact bodyPost_ret (v := .tuple #[.int .i64 ((vs.length : Int) + 1), .nilIface]) (by simp [results, Tryz.results26, go_sem]) rfl ⟨rfl, U2.heap.size, hV, a4, k4, y2⟩
end Go.Proofs.YtdbijkgnddcneaaGreatDoor
