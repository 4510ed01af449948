/- . -/
import Derived.Test.YtdbijkgnddcneaaGreatDoorSq
import Derived.Test.YtdbijkgnddcneaaGreatDoorXa
import Derived.Deep.RegionWith
import Derived.BigRegion
import Derived.Deep.RegionHeld3
namespace Go.Proofs.YtdbijkgnddcneaaGreatDoor
open Go.RowKit Go.ChangeMaps
set_option maxRecDepth 100000
set_option maxHeartbeats 4000000
attribute [local go_sem] refold2 cell3_0 cell3_1 b28_0 b28_01
theorem wp_updI {P : Program} {o : Oper} {a : Act} {w w' : World} {K : Act → World → Prop} {Q : Exit → Act → World → Prop} (t : TypeId) (m x v : Operand) (hop : o.op = .mapUpdate t m x v) {mv xv vv : Value} (hm : a.eval m = mv) (hx : a.eval x = xv) (hv : a.eval v = vv)
  (hrun : (Instr.mapUpdate t mv xv vv).run P w = .ok () w') (h : K (a.put o.dst undef) w') : o.wp P a w K Q := by
 unfold Oper.wp
 simp [execOp, hop, hm, hx, hv, hrun, Result.andThen]
 exact h
theorem info32 : (Tryz.prog.info? 32).map (·.size) = some 11 := by kernel_rfl
theorem b32_012 (k n : Int) (t : ByteArray) (w : World) : (Instr.build 32 #[(0, .int .i64 k), (1, .string t), (2, .int .i64 n)]).run Tryz.prog w = .ok (.agg #[.int .i64 k, .string t, .int .i64 n, .int .u64 0, .string ⟨#[]⟩, .int .i64 0, .int .i64 0, .int .i64 0, .int .i64 0, .slice none 0 0, .slice none 0 0]) w := by kernel_rfl
theorem b32_015 (k o f l c : Int) (t : ByteArray) (w : World) : (Instr.build 32 #[(0, .int .i64 k), (1, .string t), (5, .agg #[.int .i64 o, .int .i64 f, .int .i64 l, .int .i64 c, .slice none 0 0])]).run Tryz.prog w = .ok (.agg #[.int .i64 k, .string t, .int .i64 0, .int .u64 0, .string ⟨#[]⟩, .int .i64 o, .int .i64 f, .int .i64 l, .int .i64 c, .slice none 0 0, .slice none 0 0]) w := by kernel_rfl
theorem b30_023 (o l c : Int) (w : World) : (Instr.build 30 #[(0, .int .i64 o), (2, .int .i64 l), (3, .int .i64 c)]).run Tryz.prog w = .ok (.agg #[.int .i64 o, .int .i64 0, .int .i64 l, .int .i64 c, .slice none 0 0]) w := by kernel_rfl
theorem b30_0123 (o f l c : Int) (w : World) : (Instr.build 30 #[(0, .int .i64 o), (1, .int .i64 f), (2, .int .i64 l), (3, .int .i64 c)]).run Tryz.prog w = .ok (.agg #[.int .i64 o, .int .i64 f, .int .i64 l, .int .i64 c, .slice none 0 0]) w := by kernel_rfl
theorem b30_0 (o : Int) (w : World) : (Instr.build 30 #[(0, .int .i64 o)]).run Tryz.prog w = .ok (.agg #[.int .i64 o, .int .i64 0, .int .i64 0, .int .i64 0, .slice none 0 0]) w := by kernel_rfl
theorem b131_0 (p : Option Addr) (n c : Nat) (w : World) : (Instr.build 131 #[(0, .slice p n c)]).run Tryz.prog w = .ok (.agg #[.slice p n c]) w := by kernel_rfl
attribute [local go_sem] b32_012 b32_015 b30_023 b30_0123 b30_0 b131_0
theorem whole_any (z : Int) (w : World) : Calls Tryz.prog 8 #[.int .i64 z] w fun r w' => r = .returned (wholeD z).val ∧ Below w.heap.size w w' := by
 go_enter Tryz.func8, Tryz.ntmps8
 go_wp2_with fail
 exact bodyPost_ret (v := (wholeD z).val) (by simp [results, Tryz.results8, go_sem, wholeD, MD.val, D]) rfl ⟨rfl, below1 _ _⟩
theorem leading_any (k o f l c : Int) (t : ByteArray) (ht : t.size ≤ 60000) (w : World) : Calls Tryz.prog 38 #[.int .i64 k, .string t, .agg #[.int .i64 o, .int .i64 f, .int .i64 l, .int .i64 c, .slice none 0 0]] w fun r w' => r = .returned (leadD k t o f l c).val ∧ Below w.heap.size w w' := by
 have HC : Hid (∀ W, Calls Tryz.prog 66 #[.string t] W fun e w' => e = .returned (.string t) ∧ Below W.heap.size W w') := fun W => clone_any t W (by omega)
 go_enter Tryz.func38, Tryz.ntmps38
 go_wp2_with fail
 obtain ⟨U0, hU0⟩ : ∃ W, W = (w.alloc (.cells #[.int .i64 o, .int .i64 f, .int .i64 l, .int .i64 c, .slice none 0 0] 30)).alloc (.cells #[.int .i64 0, .string ⟨#[]⟩, .int .i64 0, .int .u64 0, .string ⟨#[]⟩, .int .i64 0, .int .i64 0, .int .i64 0, .int .i64 0, .slice none 0 0, .slice none 0 0] 32) := ⟨_, rfl⟩
 rw [← hU0]
 have u0 : Below w.heap.size w U0 := by rw [hU0]; exact below2 w _ _
 have y0 : w.heap.size + 1 < U0.heap.size := by rw [hU0]; simp
 have b0 : U0.heap[w.heap.size]? = some (.cells #[.int .i64 o, .int .i64 f, .int .i64 l, .int .i64 c, .slice none 0 0] 30) := by rw [hU0, Below.heap_alloc _ _ _ (by simp)]; exact heap_alloc_new _ _
 have r0 : U0.heap[w.heap.size + 1]? = some (.cells #[.int .i64 0, .string ⟨#[]⟩, .int .i64 0, .int .u64 0, .string ⟨#[]⟩, .int .i64 0, .int .i64 0, .int .i64 0, .int .i64 0, .slice none 0 0, .slice none 0 0] 32) := by rw [hU0]; exact heap2_1 _ _ _
 clear hU0
 refine rg (S := fun W => (∀ j, W.cell? ⟨w.heap.size, j, none⟩ = (#[.int .i64 o, .int .i64 f, .int .i64 l, .int .i64 c, .slice none 0 0] : Array Value)[j]?)) (fun U1 hB4 HU1 => ?_)
 have hS := (cells_of ((hB4.block _ (by omega)).trans b0)).1
 refine tq 0 (.int .i64 k) rfl hS ?_
 simp only [sa, sb, Act.put, sd, se, sf]
 refine tq 1 (.string t) rfl hS ?_
 simp only [sa, sb, sc, Act.put, sd, se, sf]
 refine tk 3 (.agg #[.int .i64 o, .int .i64 f, .int .i64 l, .int .i64 c, .slice none 0 0]) rfl (.inl ⟨by rfl, ?r⟩) hS ?_
 case r => intro W hW; simp [go_sem, execOp, Act.eval, hW]
 simp only [sa, sb, sc, Act.put, sd, se, sf]
 have u1 : Below w.heap.size w U1 := u0.trans (hB4.mono (by omega))
 have y1 : w.heap.size + 1 < U1.heap.size := Nat.lt_of_lt_of_le y0 hB4.size
 have b1 : U1.heap[w.heap.size]? = _ := (hB4.block _ (by omega)).trans b0
 have r1 : U1.heap[w.heap.size + 1]? = _ := (hB4.block _ (by omega)).trans r0
 clear HU1 hB4
 refine one 2 rfl (fun K hK => ?_)
 simp only [sa, sb, sc]
 go_simp
 refine (HC.out _).mono ?_
 rintro r U2 ⟨rfl, c2⟩
 have u2 : Below w.heap.size w U2 := u1.trans (c2.mono (by omega))
 have b2 : U2.heap[w.heap.size]? = _ := (c2.block _ (by omega)).trans b1
 have r2 : U2.heap[w.heap.size + 1]? = _ := (c2.block _ (by omega)).trans r1
 go_simp
 have hS2 := (cells_of b2).1
 refine hK _ _ ⟨hS2, ?_⟩
 clear hK K hS
 have hS := hS2
 refine tq 4 (.agg #[.int .i64 k, .string t, .int .i64 0, .int .u64 0, .string ⟨#[]⟩, .int .i64 o, .int .i64 f, .int .i64 l, .int .i64 c, .slice none 0 0, .slice none 0 0]) rfl hS ?_
 simp only [sa, sb, sc, Act.put, sd, se, sf]
 refine one 5 rfl (fun K hK => ?_)
 simp only [sa, sb, sc]
 refine wp_store_row 32 _ _ rfl (w.heap.size + 1) _ rfl rfl 32 _ r2 info32 rfl (by simp [Value.oneCell']) ?_
 refine hK _ _ ⟨fun j => (srow (by omega)).trans (hS j), ?_⟩
 clear hK K
 refine dn ?_
 try simp only [Act.put]
 go_wp2_with fail
 refine bodyPost_ret (v := (leadD k t o f l c).val) (by simp [results, Tryz.results38, go_sem, rowT r2, leadD, MD.val, D]) rfl ⟨rfl, ?_⟩
 exact brow u2 (by omega) _
theorem add_any (v : Value) (hb M : Nat) (vs : List Value) (hl : vs.length < 1000) (w : World) (h : HeapAt w hb M vs) : Calls Tryz.prog 43 #[.pointer (some ⟨hb, 0, none⟩), v] w fun r w' => r = .returned (.tuple #[.int .i64 ((vs.length : Int) + 1), .nilIface]) ∧ HeapAt w' hb M (vs ++ [v]) ∧ Kp (fun b => b = hb ∨ b = M) w w' := by
 have cc := (cells_of h.box).1
 have ff := (cells_of h.box).2
 go_enter Tryz.func43, Tryz.ntmps43
 go_wp2_with fail
 obtain ⟨U0, hU0⟩ : ∃ W, W = w.setCell ⟨hb, 1, none⟩ (.int .i64 ((vs.length : Int) + 1)) := ⟨_, rfl⟩
 rw [← hU0]
 have b0 : U0.heap[hb]? = some (.cells #[.map (some M), .int .i64 ((vs.length : Int) + 1)] 69) := by rw [hU0]; exact heap_set h.box 1 _
 have k0 : Kp (fun b => b = hb ∨ b = M) w U0 := by rw [hU0]; exact Kp.set _ _ _ _ (Or.inl rfl)
 have m0 : U0.heap[M]? = some (.map (tents 0 vs).toArray vs.length) := by rw [hU0, heap_set_other _ _ _ _ _ h.ne.symm]; exact h.map
 clear hU0 cc ff
 refine rg (S := fun W => (∀ j, W.cell? ⟨hb, j, none⟩ = (#[.map (some M), .int .i64 ((vs.length : Int) + 1)] : Array Value)[j]?)) (fun U1 hB4 HU1 => ?_)
 have hS := (cells_of ((hB4.block _ (hblk b0)).trans b0)).1
 have b1 := (hB4.block _ (hblk b0)).trans b0
 have m1 := (hB4.block _ (hblk m0)).trans m0
 have k1 := k0.next hB4
 clear HU1 hB4
 refine tq 0 (.pointer (some ⟨hb, 0, none⟩)) rfl hS ?_
 simp only [sa, sb, Act.put, sd, se, sf]
 refine tq 1 (.pointer (some ⟨hb, 0, none⟩)) rfl hS ?_
 simp only [sa, sb, sc, Act.put, sd, se, sf]
 refine tq 2 (.pointer (some ⟨hb, 0, none⟩)) rfl hS ?_
 simp only [sa, sb, sc, Act.put, sd, se, sf]
 refine tk 3 (.map (some M)) rfl (.inl ⟨by rfl, ?r⟩) hS ?_
 case r => intro W hW; simp [go_sem, execOp, Act.eval, hW]
 simp only [sa, sb, sc, Act.put, sd, se, sf]
 refine tq 4 (.pointer (some ⟨hb, 0, none⟩)) rfl hS ?_
 simp only [sa, sb, sc, Act.put, sd, se, sf]
 refine tq 5 (.pointer (some ⟨hb, 0, none⟩)) rfl hS ?_
 simp only [sa, sb, sc, Act.put, sd, se, sf]
 refine tq 6 (.pointer (some ⟨hb, 1, none⟩)) rfl hS ?_
 simp only [sa, sb, sc, Act.put, sd, se, sf]
 refine tk 7 (.int .i64 ((vs.length : Int) + 1)) rfl (.inl ⟨by rfl, ?r⟩) hS ?_
 case r => intro W hW; simp [go_sem, execOp, Act.eval, hW]
 simp only [sa, sb, sc, Act.put, sd, se, sf]
 refine tq 8 v rfl hS ?_
 simp only [sa, sb, sc, Act.put, sd, se, sf]
 refine one 9 rfl (fun K hK => ?_)
 simp only [sa, sb, sc]
 refine wp_updI 67 _ _ _ rfl rfl rfl rfl (HeapAt.upd m1 v) ?_
 obtain ⟨U2, hU2⟩ : ∃ W, W = setBlock U1 M (.map (tents 0 (vs ++ [v])).toArray (vs ++ [v]).length) := ⟨_, rfl⟩
 rw [← hU2]
 have k2 : Kp (fun b => b = hb ∨ b = M) w U2 := k1.trans (S' := fun b => b = M) (by rw [hU2]; exact Kp.setB _ _ _ rfl) fun _ _ e => Or.inr e
 have b2 : U2.heap[hb]? = some (.cells #[.map (some M), .int .i64 ((vs.length : Int) + 1)] 69) := by rw [hU2, setBlock_other _ _ _ _ h.ne]; exact b1
 have m2 : U2.heap[M]? = some (.map (tents 0 (vs ++ [v])).toArray (vs ++ [v]).length) := by rw [hU2]; exact setBlock_same _ _ _ (hblk m1)
 clear hU2
 refine hK _ _ ⟨(cells_of b2).1, ?_⟩
 clear hK K
 have cc := (cells_of b2).1
 refine dn ?_
 try simp only [Act.put]
 go_wp2_with fail
 exact bodyPost_ret (v := .tuple #[.int .i64 ((vs.length : Int) + 1), .nilIface]) (by simp [results, Tryz.results43, go_sem]) rfl ⟨rfl, ⟨by rw [b2]; simp, m2, h.ne⟩, k2⟩
end Go.Proofs.YtdbijkgnddcneaaGreatDoor
