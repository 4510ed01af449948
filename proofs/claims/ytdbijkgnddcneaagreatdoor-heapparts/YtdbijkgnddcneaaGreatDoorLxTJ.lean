/-
  .
  .
  .
-/
import Derived.Test.YtdbijkgnddcneaaGreatDoorSq
import Derived.Test.YtdbijkgnddcneaaGreatDoorLxN2J
import Derived.Stop.Asserts
namespace Go.Proofs.YtdbijkgnddcneaaGreatDoor.Lx
open Go.RowKit Go.ChangeMaps Go.Extern
set_option maxRecDepth 100000
set_option maxHeartbeats 4000000
theorem fld2_S (g cap pb : Nat) (W : World) : (Instr.field 199 (.agg #[.int .i64 8, .bool false, .slice (some ⟨g, 0, none⟩) 2 cap, .map (some pb)]) 2).run Tryz.prog W = .ok (.slice (some ⟨g, 0, none⟩) 2 cap) W := by kernel_rfl
theorem fld2_T (g cap pb : Nat) (W : World) : (Instr.field 199 (.agg #[.int .i64 8, .bool false, .slice (some ⟨g, 0, none⟩) 1 cap, .map (some pb)]) 2).run Tryz.prog W = .ok (.slice (some ⟨g, 0, none⟩) 1 cap) W := by kernel_rfl
theorem clone_run (M : Nat) (es : Array MapEntry) (clk : Nat) (w : World) (hM : w.heap[M]? = some (.map es clk)) : (MapsClone.clone #[.iface 146 (.map (some M))]).run Tryz.prog w = .ok (.iface 146 (.map (some w.heap.size))) (w.alloc (.map es clk)) := by
 have h := MapKept.run_getObj_map (P := Tryz.prog) hM
 have e : MapsClone.clone #[.iface 146 (.map (some M))] = (getObj M >>= fun o => match o with
   | .map entries clock => (newObj (.map entries clock) >>= fun n => pure (.iface 146 (.map (some n))))
   | _ => stuck "maps.clone: a map expected") := rfl
 rw [e]
 simp [h, Result.andThen]
theorem mapsClone_any (M : Nat) (es : Array MapEntry) (clk : Nat) (w : World) (hM : w.heap[M]? = some (.map es clk)) :
  Calls Tryz.prog 112 #[.map (some M)] w fun e w' => e = .returned (.map (some w.heap.size)) ∧ w' = w.alloc (.map es clk) := by
 have x69 := @run_callFunc_extern Tryz.prog 156 _ MapsClone.clone Tryz.func156 (by kernel_rfl) (by kernel_rfl) (by kernel_rfl) (by kernel_rfl)
 have hc := clone_run M es clk w hM
 have he : ∀ W, Sem.run Tryz.prog (binOp .eql 146 (.map (some M)) (.map none)) W = .ok (.bool false) W := fun W => by kernel_rfl
 have hta : ∀ W, Sem.run Tryz.prog (Instr.typeAssert (.iface 146 (.map (some w.heap.size))) 20 146 false) W = .ok (.map (some w.heap.size)) W := fun W => by kernel_rfl
 go_enter Tryz.func112, Tryz.ntmps112
 go_wp2_with fail
 go_ret
 exact ⟨rfl, rfl⟩
theorem within_none (mb EB : Nat) (v0 v1 v3 l : Value) (s : ByteArray) (w : World) (hm : w.heap[mb]? = some (.cells #[v0, v1, .map (some EB), v3] 151)) (hE : w.heap[EB]? = some (.map #[] 0)) :
  Calls Tryz.prog 111 #[.pointer (some ⟨mb, 0, none⟩), .string s, l] w fun e w' => e = .returned (.slice none 0 0) ∧ w' = w := by
 have mc := (cells_of hm).1
 have hl := look_no (P := Tryz.prog) (s := s) Tryz.underlying148 Tryz.underlying9 hE rfl (Tryz.zeroValue200 _) false
 go_enter Tryz.func111, Tryz.ntmps111
 go_wp2_with fail
 refine wp_loop_rounds 1 ?_
 rw [rounds_succ]
 go_wp2_with fail
 go_ret
 exact ⟨rfl, rfl⟩
theorem index_none (s : ByteArray) (w : World) :
  Calls Tryz.prog 155 #[.slice none 0 0, .string s] w fun e w' => e = .returned (.int .i64 (-1)) ∧ w' = w := by
 go_enter Tryz.func155, Tryz.ntmps155
 go_wp2_with fail
 refine wp_loop_rounds 1 ?_
 rw [rounds_succ]
 go_wp2_with fail
 go_ret
 exact ⟨rfl, rfl⟩
theorem contains_none (s : ByteArray) (w : World) :
  Calls Tryz.prog 110 #[.slice none 0 0, .string s] w fun e w' => e = .returned (.bool false) ∧ w' = w := by
 go_enter Tryz.func110, Tryz.ntmps110
 go_wp2_with fail
 refine Calls.mono (index_none _ _) ?_
 rintro _ _ ⟨rfl, rfl⟩
 go_wp2_with fail
 go_ret
 exact ⟨rfl, rfl⟩
theorem cycle_S (M mb EB MB : Nat) (es : Array MapEntry) (clk : Nat) (w : World) (hM : w.heap[M]? = some (.map es clk)) (hm : w.heap[mb]? = some (.cells #[.map (some M), .int .i64 2, .map (some EB), .map (some MB)] 151)) (KS : Nat) (hE : w.heap[EB]? = some (.map #[] 0)) :
  Calls Tryz.prog 75 #[.pointer (some ⟨mb, 0, none⟩), .agg #[.int .i64 3, .string ⟨#[83]⟩, .int .i64 0, .int .i64 0, .slice (some ⟨KS, 0, none⟩) 2 2]] w fun e w' => e = .returned .nilIface ∧ Below w.heap.size w w' := by
 have hMl := heap_lt hM
 have hml := heap_lt hm
 have hEl := heap_lt hE
 go_enter Tryz.func75, Tryz.ntmps75
 go_wp2_with fail
 obtain ⟨U0, hU0⟩ : ∃ W, W = w.alloc (.cells #[.int .i64 3, .string ⟨#[83]⟩, .int .i64 0, .int .i64 0, .slice (some ⟨KS, 0, none⟩) 2 2] 98) := ⟨_, rfl⟩
 rw [← hU0]
 have u0 : Below w.heap.size w U0 := by rw [hU0]; exact below1 w _
 have y0 : w.heap.size < U0.heap.size := by rw [hU0]; simp
 have hM0 : U0.heap[M]? = some (.map es clk) := (u0.block _ hMl).trans hM
 have hm0 : U0.heap[mb]? = _ := (u0.block _ hml).trans hm
 have hb0 : U0.heap[w.heap.size]? = some (.cells #[.int .i64 3, .string ⟨#[83]⟩, .int .i64 0, .int .i64 0, .slice (some ⟨KS, 0, none⟩) 2 2] 98) := by rw [hU0]; exact heap_new _ _ _ rfl
 clear hU0
 have hE0 : U0.heap[EB]? = some (.map #[] 0) := (u0.block _ hEl).trans hE
 refine rg (S := fun W => (∀ j, W.cell? ⟨w.heap.size, j, none⟩ = (#[.int .i64 3, .string ⟨#[83]⟩, .int .i64 0, .int .i64 0, .slice (some ⟨KS, 0, none⟩) 2 2] : Array Value)[j]?) ∧ (∀ j, W.cell? ⟨mb, j, none⟩ = (#[.map (some M), .int .i64 2, .map (some EB), .map (some MB)] : Array Value)[j]?) ∧ W.heap[M]? = some (.map es clk) ∧ W.heap[EB]? = some (.map #[] 0)) (fun U1 hB4 HU1 => ?_)
 have hS : (∀ j, U1.cell? ⟨w.heap.size, j, none⟩ = (#[.int .i64 3, .string ⟨#[83]⟩, .int .i64 0, .int .i64 0, .slice (some ⟨KS, 0, none⟩) 2 2] : Array Value)[j]?) ∧ (∀ j, U1.cell? ⟨mb, j, none⟩ = (#[.map (some M), .int .i64 2, .map (some EB), .map (some MB)] : Array Value)[j]?) ∧ U1.heap[M]? = some (.map es clk) ∧ U1.heap[EB]? = some (.map #[] 0) := ⟨(cells_of ((hB4.block _ (by omega)).trans hb0)).1, (cells_of ((hB4.block _ (by omega)).trans hm0)).1, (hB4.block _ (by omega)).trans hM0, (hB4.block _ (by omega)).trans hE0⟩
 refine tq 0 (.pointer (some ⟨mb, 0, none⟩)) rfl hS ?_
 simp only [sa, sb, Act.put, sd, se, sf]
 refine tq 1 (.pointer (some ⟨w.heap.size, 1, none⟩)) rfl hS ?_
 simp only [sa, sb, sc, Act.put, sd, se, sf]
 refine tk 2 (.string ⟨#[83]⟩) rfl (.inl ⟨by rfl, ?r⟩) hS ?_
 case r => intro W hW; simp [go_sem, execOp, Act.eval, hW.1]
 simp only [sa, sb, sc, Act.put, sd, se, sf]
 refine tq 3 (.pointer (some ⟨mb, 0, none⟩)) rfl hS ?_
 simp only [sa, sb, sc, Act.put, sd, se, sf]
 refine tq 4 (.pointer (some ⟨mb, 0, none⟩)) rfl hS ?_
 simp only [sa, sb, sc, Act.put, sd, se, sf]
 refine tq 5 (.pointer (some ⟨mb, 0, none⟩)) rfl hS ?_
 simp only [sa, sb, sc, Act.put, sd, se, sf]
 refine tk 6 (.map (some M)) rfl (.inl ⟨by rfl, ?r⟩) hS ?_
 case r => intro W hW; simp [go_sem, execOp, Act.eval, hW.2.1]
 simp only [sa, sb, sc, Act.put, sd, se, sf]
 refine tq 9 (.pointer (some ⟨w.heap.size, 1, none⟩)) rfl hS ?_
 simp only [sa, sb, sc, Act.put, sd, se, sf]
 refine tk 10 (.string ⟨#[83]⟩) rfl (.inl ⟨by rfl, ?r⟩) hS ?_
 case r => intro W hW; simp [go_sem, execOp, Act.eval, hW.1]
 simp only [sa, sb, sc, Act.put, sd, se, sf]
 have u1 : Below w.heap.size w U1 := u0.trans (hB4.mono (by omega))
 have y1 : w.heap.size < U1.heap.size := Nat.lt_of_lt_of_le y0 hB4.size
 have hM1 : U1.heap[M]? = some (.map es clk) := (hB4.block _ (by omega)).trans hM0
 have hm1 : U1.heap[mb]? = _ := (hB4.block _ (by omega)).trans hm0
 have hb1 : U1.heap[w.heap.size]? = _ := (hB4.block _ (by omega)).trans hb0
 have hE1 : U1.heap[EB]? = some (.map #[] 0) := (hB4.block _ (by omega)).trans hE0
 clear HU1 hB4
 refine one 7 rfl (fun K hK => ?_)
 simp only [sa, sb, sc]
 go_simp
 refine (mapsClone_any M es clk _ hM1).mono ?_
 rintro r U2 ⟨rfl, hU2⟩
 have v2 : Below U1.heap.size U1 U2 := by rw [hU2]; exact below1 _ _
 have y2 : U1.heap.size < U2.heap.size := by rw [hU2]; simp
 clear hU2
 have hM2 : U2.heap[M]? = some (.map es clk) := (v2.block _ (by omega)).trans hM1
 have hm2 : U2.heap[mb]? = _ := (v2.block _ (by omega)).trans hm1
 have hb2 : U2.heap[w.heap.size]? = _ := (v2.block _ (by omega)).trans hb1
 have hE2 : U2.heap[EB]? = some (.map #[] 0) := (v2.block _ (by omega)).trans hE1
 go_simp
 have hSU2 : (∀ j, U2.cell? ⟨w.heap.size, j, none⟩ = (#[.int .i64 3, .string ⟨#[83]⟩, .int .i64 0, .int .i64 0, .slice (some ⟨KS, 0, none⟩) 2 2] : Array Value)[j]?) ∧ (∀ j, U2.cell? ⟨mb, j, none⟩ = (#[.map (some M), .int .i64 2, .map (some EB), .map (some MB)] : Array Value)[j]?) ∧ U2.heap[M]? = some (.map es clk) ∧ U2.heap[EB]? = some (.map #[] 0) := ⟨(cells_of hb2).1, (cells_of hm2).1, hM2, hE2⟩
 refine hK _ _ ⟨hSU2, ?_⟩
 clear hK K hS
 have hS := hSU2
 clear hSU2
 try simp only [Act.put, sd, se, sf]
 refine one 8 rfl (fun K hK => ?_)
 simp only [sa, sb, sc]
 go_simp
 refine (within_none mb EB _ _ _ _ _ _ hm2 hE2).mono ?_
 rintro r _ ⟨rfl, rfl⟩
 go_simp
 refine hK _ _ ⟨hS, ?_⟩
 clear hK K
 try simp only [Act.put, sd, se, sf]
 refine one 11 rfl (fun K hK => ?_)
 simp only [sa, sb, sc]
 go_simp
 refine (contains_none _ _).mono ?_
 rintro r _ ⟨rfl, rfl⟩
 go_simp
 refine hK _ _ ⟨hS, ?_⟩
 clear hK K
 try simp only [Act.put, sd, se, sf]
 refine dn ?_
 try simp only [Act.put]
 go_wp2_with fail
 go_ret
 exact ⟨rfl, u1.trans (v2.mono (by omega))⟩
theorem room_S (M mb EB MB : Nat) (es : Array MapEntry) (clk : Nat) (w : World) (hM : w.heap[M]? = some (.map es clk)) (hm : w.heap[mb]? = some (.cells #[.map (some M), .int .i64 2, .map (some EB), .map (some MB)] 151)) (g cap pb ix lo : Nat) (hA : Instr.findNow .string (.string ⟨#[83]⟩) es.toList 0 = some (some (ix, shS g cap pb))) (hsh : ShS lo w g cap pb) :
  Calls Tryz.prog 113 #[.pointer (some ⟨mb, 0, none⟩), .string ⟨#[83]⟩, .int .i64 100] w fun e w' => e = .returned (.int .i64 97) ∧ Below w.heap.size w w' := by
 have hMl := heap_lt hM
 have hml := heap_lt hm
 have mc := (cells_of hm).1
 have hl := look_yes (P := Tryz.prog) Tryz.underlying146 Tryz.underlying9 hM hA false
 dsimp only [shS] at hl
 have hf := fld2_S g cap pb
 have hgl := hsh.ghi
 have hn0 := hsh.n0
 have he0 := hsh.e0
 have hn1 := hsh.n1
 have he1 := hsh.e1
 go_enter Tryz.func113, Tryz.ntmps113
 go_wp2_with fail
 refine wp_loop_rounds 3 ?_
 rw [rounds_succ]
 go_wp2_with fail
 rw [rounds_succ]
 go_wp2_with fail
 rw [rounds_succ]
 go_wp2_with fail
 go_ret
 exact ⟨rfl, below2 w _ _ ⟩
theorem sum_S (M mb EB MB : Nat) (es : Array MapEntry) (clk : Nat) (w : World) (hM : w.heap[M]? = some (.map es clk)) (hm : w.heap[mb]? = some (.cells #[.map (some M), .int .i64 2, .map (some EB), .map (some MB)] 151)) (g cap pb ix lo : Nat) (hA : Instr.findNow .string (.string ⟨#[83]⟩) es.toList 0 = some (some (ix, shS g cap pb))) (hsh : ShS lo w g cap pb) (KS : Nat) :
  Calls Tryz.prog 76 #[.pointer (some ⟨mb, 0, none⟩), .agg #[.int .i64 3, .string ⟨#[83]⟩, .int .i64 0, .int .i64 0, .slice (some ⟨KS, 0, none⟩) 2 2]] w fun e w' => e = .returned .nilIface ∧ Below w.heap.size w w' := by
 have hMl := heap_lt hM
 have hml := heap_lt hm
 go_enter Tryz.func76, Tryz.ntmps76
 go_wp2_with fail
 refine Calls.mono (room_S M mb EB MB es clk _ ((heap_old _ _ _ hMl).trans hM) ((heap_old _ _ _ hml).trans hm) g cap pb ix lo hA (hsh.below (below1 w _))) ?_
 rintro _ w1 ⟨rfl, hb1⟩
 go_wp2_with fail
 go_ret
 exact ⟨rfl, (below1 w _).trans (hb1.mono (by simp))⟩
theorem cycle_T (M mb EB MB : Nat) (es : Array MapEntry) (clk : Nat) (w : World) (hM : w.heap[M]? = some (.map es clk)) (hm : w.heap[mb]? = some (.cells #[.map (some M), .int .i64 2, .map (some EB), .map (some MB)] 151)) (KT : Nat) (hE : w.heap[EB]? = some (.map #[] 0)) :
  Calls Tryz.prog 75 #[.pointer (some ⟨mb, 0, none⟩), .agg #[.int .i64 3, .string ⟨#[84]⟩, .int .i64 0, .int .i64 0, .slice (some ⟨KT, 0, none⟩) 1 1]] w fun e w' => e = .returned .nilIface ∧ Below w.heap.size w w' := by
 have hMl := heap_lt hM
 have hml := heap_lt hm
 have hEl := heap_lt hE
 go_enter Tryz.func75, Tryz.ntmps75
 go_wp2_with fail
 obtain ⟨U0, hU0⟩ : ∃ W, W = w.alloc (.cells #[.int .i64 3, .string ⟨#[84]⟩, .int .i64 0, .int .i64 0, .slice (some ⟨KT, 0, none⟩) 1 1] 98) := ⟨_, rfl⟩
 rw [← hU0]
 have u0 : Below w.heap.size w U0 := by rw [hU0]; exact below1 w _
 have y0 : w.heap.size < U0.heap.size := by rw [hU0]; simp
 have hM0 : U0.heap[M]? = some (.map es clk) := (u0.block _ hMl).trans hM
 have hm0 : U0.heap[mb]? = _ := (u0.block _ hml).trans hm
 have hb0 : U0.heap[w.heap.size]? = some (.cells #[.int .i64 3, .string ⟨#[84]⟩, .int .i64 0, .int .i64 0, .slice (some ⟨KT, 0, none⟩) 1 1] 98) := by rw [hU0]; exact heap_new _ _ _ rfl
 clear hU0
 have hE0 : U0.heap[EB]? = some (.map #[] 0) := (u0.block _ hEl).trans hE
 refine rg (S := fun W => (∀ j, W.cell? ⟨w.heap.size, j, none⟩ = (#[.int .i64 3, .string ⟨#[84]⟩, .int .i64 0, .int .i64 0, .slice (some ⟨KT, 0, none⟩) 1 1] : Array Value)[j]?) ∧ (∀ j, W.cell? ⟨mb, j, none⟩ = (#[.map (some M), .int .i64 2, .map (some EB), .map (some MB)] : Array Value)[j]?) ∧ W.heap[M]? = some (.map es clk) ∧ W.heap[EB]? = some (.map #[] 0)) (fun U1 hB4 HU1 => ?_)
 have hS : (∀ j, U1.cell? ⟨w.heap.size, j, none⟩ = (#[.int .i64 3, .string ⟨#[84]⟩, .int .i64 0, .int .i64 0, .slice (some ⟨KT, 0, none⟩) 1 1] : Array Value)[j]?) ∧ (∀ j, U1.cell? ⟨mb, j, none⟩ = (#[.map (some M), .int .i64 2, .map (some EB), .map (some MB)] : Array Value)[j]?) ∧ U1.heap[M]? = some (.map es clk) ∧ U1.heap[EB]? = some (.map #[] 0) := ⟨(cells_of ((hB4.block _ (by omega)).trans hb0)).1, (cells_of ((hB4.block _ (by omega)).trans hm0)).1, (hB4.block _ (by omega)).trans hM0, (hB4.block _ (by omega)).trans hE0⟩
 refine tq 0 (.pointer (some ⟨mb, 0, none⟩)) rfl hS ?_
 simp only [sa, sb, Act.put, sd, se, sf]
 refine tq 1 (.pointer (some ⟨w.heap.size, 1, none⟩)) rfl hS ?_
 simp only [sa, sb, sc, Act.put, sd, se, sf]
 refine tk 2 (.string ⟨#[84]⟩) rfl (.inl ⟨by rfl, ?r⟩) hS ?_
 case r => intro W hW; simp [go_sem, execOp, Act.eval, hW.1]
 simp only [sa, sb, sc, Act.put, sd, se, sf]
 refine tq 3 (.pointer (some ⟨mb, 0, none⟩)) rfl hS ?_
 simp only [sa, sb, sc, Act.put, sd, se, sf]
 refine tq 4 (.pointer (some ⟨mb, 0, none⟩)) rfl hS ?_
 simp only [sa, sb, sc, Act.put, sd, se, sf]
 refine tq 5 (.pointer (some ⟨mb, 0, none⟩)) rfl hS ?_
 simp only [sa, sb, sc, Act.put, sd, se, sf]
 refine tk 6 (.map (some M)) rfl (.inl ⟨by rfl, ?r⟩) hS ?_
 case r => intro W hW; simp [go_sem, execOp, Act.eval, hW.2.1]
 simp only [sa, sb, sc, Act.put, sd, se, sf]
 refine tq 9 (.pointer (some ⟨w.heap.size, 1, none⟩)) rfl hS ?_
 simp only [sa, sb, sc, Act.put, sd, se, sf]
 refine tk 10 (.string ⟨#[84]⟩) rfl (.inl ⟨by rfl, ?r⟩) hS ?_
 case r => intro W hW; simp [go_sem, execOp, Act.eval, hW.1]
 simp only [sa, sb, sc, Act.put, sd, se, sf]
 have u1 : Below w.heap.size w U1 := u0.trans (hB4.mono (by omega))
 have y1 : w.heap.size < U1.heap.size := Nat.lt_of_lt_of_le y0 hB4.size
 have hM1 : U1.heap[M]? = some (.map es clk) := (hB4.block _ (by omega)).trans hM0
 have hm1 : U1.heap[mb]? = _ := (hB4.block _ (by omega)).trans hm0
 have hb1 : U1.heap[w.heap.size]? = _ := (hB4.block _ (by omega)).trans hb0
 have hE1 : U1.heap[EB]? = some (.map #[] 0) := (hB4.block _ (by omega)).trans hE0
 clear HU1 hB4
 refine one 7 rfl (fun K hK => ?_)
 simp only [sa, sb, sc]
 go_simp
 refine (mapsClone_any M es clk _ hM1).mono ?_
 rintro r U2 ⟨rfl, hU2⟩
 have v2 : Below U1.heap.size U1 U2 := by rw [hU2]; exact below1 _ _
 have y2 : U1.heap.size < U2.heap.size := by rw [hU2]; simp
 clear hU2
 have hM2 : U2.heap[M]? = some (.map es clk) := (v2.block _ (by omega)).trans hM1
 have hm2 : U2.heap[mb]? = _ := (v2.block _ (by omega)).trans hm1
 have hb2 : U2.heap[w.heap.size]? = _ := (v2.block _ (by omega)).trans hb1
 have hE2 : U2.heap[EB]? = some (.map #[] 0) := (v2.block _ (by omega)).trans hE1
 go_simp
 have hSU2 : (∀ j, U2.cell? ⟨w.heap.size, j, none⟩ = (#[.int .i64 3, .string ⟨#[84]⟩, .int .i64 0, .int .i64 0, .slice (some ⟨KT, 0, none⟩) 1 1] : Array Value)[j]?) ∧ (∀ j, U2.cell? ⟨mb, j, none⟩ = (#[.map (some M), .int .i64 2, .map (some EB), .map (some MB)] : Array Value)[j]?) ∧ U2.heap[M]? = some (.map es clk) ∧ U2.heap[EB]? = some (.map #[] 0) := ⟨(cells_of hb2).1, (cells_of hm2).1, hM2, hE2⟩
 refine hK _ _ ⟨hSU2, ?_⟩
 clear hK K hS
 have hS := hSU2
 clear hSU2
 try simp only [Act.put, sd, se, sf]
 refine one 8 rfl (fun K hK => ?_)
 simp only [sa, sb, sc]
 go_simp
 refine (within_none mb EB _ _ _ _ _ _ hm2 hE2).mono ?_
 rintro r _ ⟨rfl, rfl⟩
 go_simp
 refine hK _ _ ⟨hS, ?_⟩
 clear hK K
 try simp only [Act.put, sd, se, sf]
 refine one 11 rfl (fun K hK => ?_)
 simp only [sa, sb, sc]
 go_simp
 refine (contains_none _ _).mono ?_
 rintro r _ ⟨rfl, rfl⟩
 go_simp
 refine hK _ _ ⟨hS, ?_⟩
 clear hK K
 try simp only [Act.put, sd, se, sf]
 refine dn ?_
 try simp only [Act.put]
 go_wp2_with fail
 go_ret
 exact ⟨rfl, u1.trans (v2.mono (by omega))⟩
theorem room_T (M mb EB MB : Nat) (es : Array MapEntry) (clk : Nat) (w : World) (hM : w.heap[M]? = some (.map es clk)) (hm : w.heap[mb]? = some (.cells #[.map (some M), .int .i64 2, .map (some EB), .map (some MB)] 151)) (g cap pb ix lo : Nat) (hA : Instr.findNow .string (.string ⟨#[84]⟩) es.toList 0 = some (some (ix, shT g cap pb))) (hsh : ShT lo w g cap pb) :
  Calls Tryz.prog 113 #[.pointer (some ⟨mb, 0, none⟩), .string ⟨#[84]⟩, .int .i64 100] w fun e w' => e = .returned (.int .i64 98) ∧ Below w.heap.size w w' := by
 have hMl := heap_lt hM
 have hml := heap_lt hm
 have mc := (cells_of hm).1
 have hl := look_yes (P := Tryz.prog) Tryz.underlying146 Tryz.underlying9 hM hA false
 dsimp only [shT] at hl
 have hf := fld2_T g cap pb
 have hgl := hsh.ghi
 have hn0 := hsh.n0
 have he0 := hsh.e0
 go_enter Tryz.func113, Tryz.ntmps113
 go_wp2_with fail
 refine wp_loop_rounds 2 ?_
 rw [rounds_succ]
 go_wp2_with fail
 rw [rounds_succ]
 go_wp2_with fail
 go_ret
 exact ⟨rfl, below1 w _ ⟩
theorem sum_T (M mb EB MB : Nat) (es : Array MapEntry) (clk : Nat) (w : World) (hM : w.heap[M]? = some (.map es clk)) (hm : w.heap[mb]? = some (.cells #[.map (some M), .int .i64 2, .map (some EB), .map (some MB)] 151)) (g cap pb ix lo : Nat) (hA : Instr.findNow .string (.string ⟨#[84]⟩) es.toList 0 = some (some (ix, shT g cap pb))) (hsh : ShT lo w g cap pb) (KT : Nat) :
  Calls Tryz.prog 76 #[.pointer (some ⟨mb, 0, none⟩), .agg #[.int .i64 3, .string ⟨#[84]⟩, .int .i64 0, .int .i64 0, .slice (some ⟨KT, 0, none⟩) 1 1]] w fun e w' => e = .returned .nilIface ∧ Below w.heap.size w w' := by
 have hMl := heap_lt hM
 have hml := heap_lt hm
 go_enter Tryz.func76, Tryz.ntmps76
 go_wp2_with fail
 refine Calls.mono (room_T M mb EB MB es clk _ ((heap_old _ _ _ hMl).trans hM) ((heap_old _ _ _ hml).trans hm) g cap pb ix lo hA (hsh.below (below1 w _))) ?_
 rintro _ w1 ⟨rfl, hb1⟩
 go_wp2_with fail
 go_ret
 exact ⟨rfl, (below1 w _).trans (hb1.mono (by simp))⟩
end Go.Proofs.YtdbijkgnddcneaaGreatDoor.Lx
namespace Go.Proofs.YtdbijkgnddcneaaGreatDoor.Lx
open Go.RowKit Go.ChangeMaps
set_option maxRecDepth 100000
set_option maxHeartbeats 8000000
def es0 (B : Nat) : Array MapEntry := #[⟨.string ⟨#[102, 97, 117, 108, 116]⟩, .agg #[.int .i64 8, .bool true, .slice (some ⟨B + 1, 0, none⟩) 2 2, .map (some (B + 1 + 1))], 0⟩, ⟨.string ⟨#[101, 114, 114, 111, 114]⟩, .agg #[.int .i64 0, .bool true, .slice none 0 0, .map (some (B + 1 + 1 + 1))], 1⟩, ⟨.string ⟨#[97, 110, 121]⟩, .agg #[.int .i64 0, .bool true, .slice none 0 0, .map none], 2⟩, ⟨.string ⟨#[98, 111, 111, 108]⟩, .agg #[.int .i64 1, .bool true, .slice none 0 0, .map none], 3⟩, ⟨.string ⟨#[105, 110, 116]⟩, .agg #[.int .i64 2, .bool true, .slice none 0 0, .map none], 4⟩, ⟨.string ⟨#[102, 108, 111, 97, 116]⟩, .agg #[.int .i64 3, .bool true, .slice none 0 0, .map none], 5⟩, ⟨.string ⟨#[116, 101, 120, 116]⟩, .agg #[.int .i64 4, .bool true, .slice none 0 0, .map none], 6⟩, ⟨.string ⟨#[108, 105, 115, 116]⟩, .agg #[.int .i64 5, .bool true, .slice none 0 0, .map none], 7⟩, ⟨.string ⟨#[109, 97, 112]⟩, .agg #[.int .i64 6, .bool true, .slice none 0 0, .map none], 8⟩, ⟨.string ⟨#[102, 117, 110, 99]⟩, .agg #[.int .i64 7, .bool true, .slice none 0 0, .map none], 9⟩]
abbrev es1 (B gS cS pS : Nat) : Array MapEntry := (es0 B).push ⟨.string ⟨#[83]⟩, shS gS cS pS, 10⟩
abbrev es2 (B gS cS pS gT cT pT : Nat) : Array MapEntry := (es1 B gS cS pS).push ⟨.string ⟨#[84]⟩, shT gT cT pT, 11⟩
theorem es0_S (B : Nat) : Instr.findNow .string (.string ⟨#[83]⟩) (es0 B).toList 0 = some none := rfl
theorem es1_T (B gS cS pS : Nat) : Instr.findNow .string (.string ⟨#[84]⟩) (es1 B gS cS pS).toList 0 = some none := rfl
theorem es2_S (B gS cS pS gT cT pT : Nat) : Instr.findNow .string (.string ⟨#[83]⟩) (es2 B gS cS pS gT cT pT).toList 0 = some (some (10, shS gS cS pS)) := rfl
theorem es2_T (B gS cS pS gT cT pT : Nat) : Instr.findNow .string (.string ⟨#[84]⟩) (es2 B gS cS pS gT cT pT).toList 0 = some (some (11, shT gT cT pT)) := rfl
theorem es2_f (B gS cS pS gT cT pT : Nat) : Instr.findNow .string (.string ⟨#[102]⟩) (es2 B gS cS pS gT cT pT).toList 0 = some none := rfl
theorem es2_g (B gS cS pS gT cT pT : Nat) : Instr.findNow .string (.string ⟨#[103]⟩) (es2 B gS cS pS gT cT pT).toList 0 = some none := rfl
theorem es2_a (B gS cS pS gT cT pT : Nat) : Instr.findNow .string (.string ⟨#[97]⟩) (es2 B gS cS pS gT cT pT).toList 0 = some none := rfl
def MakeP (w : World) (e : Ending) (w' : World) : Prop := ∃ tb, e = .returned (.tuple #[.pointer (some ⟨tb, 0, none⟩), .nilIface]) ∧ Below w.heap.size w w'
theorem make_two {gw ow gs os : Nat} (KP KS KT : Nat) (w : World) (ht : TabsAt gw ow gs os w) (hT : TreeAt KP KS KT w) :
  Calls Tryz.prog 53 #[.agg #[.int .i64 1, .string ⟨#[]⟩, .int .i64 0, .int .i64 0, .slice (some ⟨KP, 0, none⟩) 2 2]] w (MakeP w) := by
 have hmm := @run_makeMap Tryz.prog
 go_enter Tryz.func53, Tryz.ntmps53
 go_wp2_with fail
 refine Calls.mono (right_two KP KS KT _ (ht.below (Nat.le_refl _) (below1 w _)) (hT.below (below1 w _))) ?_
 rintro _ W1 ⟨rfl, hb1⟩
 have q1 : Below w.heap.size w W1 := (below1 w _).trans (hb1.mono (by simp))
 have z1 : w.heap.size < W1.heap.size := by have := hb1.size; simp at this; omega
 have p1 : W1.heap[w.heap.size]? = some (.cells #[.int .i64 1, .string ⟨#[]⟩, .int .i64 0, .int .i64 0, .slice (some ⟨KP, 0, none⟩) 2 2] 98) := (hb1.block _ (by simp)).trans (heap_new _ _ _ rfl)
 have pc1 := (cells_of p1).1
 go_wp2_with fail
 refine Calls.mono (beginning_any _) ?_
 rintro _ _ ⟨rfl, rfl⟩
 go_wp2_with fail
 obtain ⟨V0, hV0⟩ : ∃ W, W = (((((((((W1.alloc (.map #[⟨.string ⟨#[102, 97, 117, 108, 116]⟩, .agg #[.int .i64 8, .bool true, .slice (some ⟨W1.heap.size + 1, 0, none⟩) 2 2, .map (some (W1.heap.size + 1 + 1))], 0⟩, ⟨.string ⟨#[101, 114, 114, 111, 114]⟩, .agg #[.int .i64 0, .bool true, .slice none 0 0, .map (some (W1.heap.size + 1 + 1 + 1))], 1⟩, ⟨.string ⟨#[97, 110, 121]⟩, .agg #[.int .i64 0, .bool true, .slice none 0 0, .map none], 2⟩, ⟨.string ⟨#[98, 111, 111, 108]⟩, .agg #[.int .i64 1, .bool true, .slice none 0 0, .map none], 3⟩, ⟨.string ⟨#[105, 110, 116]⟩, .agg #[.int .i64 2, .bool true, .slice none 0 0, .map none], 4⟩, ⟨.string ⟨#[102, 108, 111, 97, 116]⟩, .agg #[.int .i64 3, .bool true, .slice none 0 0, .map none], 5⟩, ⟨.string ⟨#[116, 101, 120, 116]⟩, .agg #[.int .i64 4, .bool true, .slice none 0 0, .map none], 6⟩, ⟨.string ⟨#[108, 105, 115, 116]⟩, .agg #[.int .i64 5, .bool true, .slice none 0 0, .map none], 7⟩, ⟨.string ⟨#[109, 97, 112]⟩, .agg #[.int .i64 6, .bool true, .slice none 0 0, .map none], 8⟩, ⟨.string ⟨#[102, 117, 110, 99]⟩, .agg #[.int .i64 7, .bool true, .slice none 0 0, .map none], 9⟩] 10)).alloc (.cells #[.string ⟨#[119, 111, 114, 100]⟩, .int .i64 0, .string ⟨#[109, 111, 114, 101]⟩, .int .i64 0] 193)).alloc (.map #[⟨.string ⟨#[119, 111, 114, 100]⟩, .agg #[.bool true, .int .i64 0, .bool false, .int .i64 0], 0⟩, ⟨.string ⟨#[109, 111, 114, 101]⟩, .agg #[.bool true, .int .i64 1, .bool false, .int .i64 0], 1⟩, ⟨.string ⟨#[69, 114, 114, 111, 114]⟩, .agg #[.bool false, .int .i64 0, .bool true, .int .i64 0], 2⟩] 3)).alloc (.map #[⟨.string ⟨#[69, 114, 114, 111, 114]⟩, .agg #[.bool false, .int .i64 0, .bool false, .int .i64 0], 0⟩] 1)).alloc (.cells #[.string ⟨#[98, 111, 111, 108]⟩, .string ⟨#[105, 110, 116]⟩, .string ⟨#[102, 108, 111, 97, 116]⟩, .string ⟨#[116, 101, 120, 116]⟩, .string ⟨#[108, 105, 115, 116]⟩, .string ⟨#[109, 97, 112]⟩, .string ⟨#[102, 117, 110, 99]⟩] 9)).alloc (.map #[] 0)).alloc (.map #[] 0)).alloc (.cells #[.map (some W1.heap.size), .int .i64 0, .map (some (W1.heap.size + 1 + 1 + 1 + 1 + 1)), .map (some (W1.heap.size + 1 + 1 + 1 + 1 + 1 + 1))] 151)).alloc (.cells #[.func (.func 73) #[.pointer (some ⟨W1.heap.size + 1 + 1 + 1 + 1 + 1 + 1 + 1, 0, none⟩)] #[], .func (.func 74) #[.pointer (some ⟨W1.heap.size + 1 + 1 + 1 + 1 + 1 + 1 + 1, 0, none⟩)] #[], .func (.func 75) #[.pointer (some ⟨W1.heap.size + 1 + 1 + 1 + 1 + 1 + 1 + 1, 0, none⟩)] #[], .func (.func 76) #[.pointer (some ⟨W1.heap.size + 1 + 1 + 1 + 1 + 1 + 1 + 1, 0, none⟩)] #[]] 143)) := ⟨_, rfl⟩
 rw [← hV0]
 have bV : Below W1.heap.size W1 V0 := by rw [hV0]; repeat (first | exact Below.refl _ _ | refine Below.alloc ?_ (by simp <;> omega) _)
 have zV : W1.heap.size + 1 + 1 + 1 + 1 + 1 + 1 + 1 + 1 + 1 ≤ V0.heap.size := by rw [hV0]; simp
 have M0 : V0.heap[W1.heap.size]? = some (.map (es0 W1.heap.size) 10) := by rw [hV0, heap_old _ _ _ (by simp <;> omega), heap_old _ _ _ (by simp <;> omega), heap_old _ _ _ (by simp <;> omega), heap_old _ _ _ (by simp <;> omega), heap_old _ _ _ (by simp <;> omega), heap_old _ _ _ (by simp <;> omega), heap_old _ _ _ (by simp <;> omega), heap_old _ _ _ (by simp <;> omega)]; exact heap_new _ _ _ (by simp)
 have E0 : V0.heap[W1.heap.size + 1 + 1 + 1 + 1 + 1]? = some (.map #[] 0) := by rw [hV0, heap_old _ _ _ (by simp <;> omega), heap_old _ _ _ (by simp <;> omega), heap_old _ _ _ (by simp <;> omega)]; exact heap_new _ _ _ (by simp)
 have m0 : V0.heap[W1.heap.size + 1 + 1 + 1 + 1 + 1 + 1 + 1]? = some (.cells #[.map (some W1.heap.size), .int .i64 0, .map (some (W1.heap.size + 1 + 1 + 1 + 1 + 1)), .map (some (W1.heap.size + 1 + 1 + 1 + 1 + 1 + 1))] 151) := by rw [hV0, heap_old _ _ _ (by simp <;> omega)]; exact heap_new _ _ _ (by simp)
 have f0 : V0.heap[W1.heap.size + 1 + 1 + 1 + 1 + 1 + 1 + 1 + 1]? = some (.cells #[.func (.func 73) #[.pointer (some ⟨W1.heap.size + 1 + 1 + 1 + 1 + 1 + 1 + 1, 0, none⟩)] #[], .func (.func 74) #[.pointer (some ⟨W1.heap.size + 1 + 1 + 1 + 1 + 1 + 1 + 1, 0, none⟩)] #[], .func (.func 75) #[.pointer (some ⟨W1.heap.size + 1 + 1 + 1 + 1 + 1 + 1 + 1, 0, none⟩)] #[], .func (.func 76) #[.pointer (some ⟨W1.heap.size + 1 + 1 + 1 + 1 + 1 + 1 + 1, 0, none⟩)] #[]] 143) := by rw [hV0]; exact heap_new _ _ _ (by simp)
 clear hV0 pc1
 have p0 : V0.heap[w.heap.size]? = some (.cells #[.int .i64 1, .string ⟨#[]⟩, .int .i64 0, .int .i64 0, .slice (some ⟨KP, 0, none⟩) 2 2] 98) := (bV.block _ (by omega)).trans p1
 have w0 : Below w.heap.size w V0 := q1.trans (bV.mono (by omega))
 clear p1
 have hPl := heap_lt hT.p
 have hSl := heap_lt hT.s
 have hTl := heap_lt hT.t
 refine wp_loop_rounds 5 ?_
 rw [rounds_succ]
 have fc := (cells_of f0).1
 have pc := (cells_of p0).1
 have tr0 := hT.below w0
 have kc := (cells_of tr0.p).1
 have hKl0 : KP < V0.heap.size := heap_lt tr0.p
 have hpl0 : w.heap.size < V0.heap.size := by omega
 have hfl0 : W1.heap.size + 1 + 1 + 1 + 1 + 1 + 1 + 1 + 1 < V0.heap.size := by omega
 go_wp2_with fail
 refine wp_loop_rounds 3 ?_
 rw [rounds_succ]
 go_wp2_with fail
 clear fc pc kc
 obtain ⟨X0, hX0⟩ : ∃ W, W = V0.alloc (.cells #[.int .i64 3, .string ⟨#[83]⟩, .int .i64 0, .int .i64 0, .slice (some ⟨KS, 0, none⟩) 2 2] 98) := ⟨_, rfl⟩
 rw [← hX0]
 have bX0 : Below V0.heap.size V0 X0 := by rw [hX0]; exact below1 _ _
 have zX0 : V0.heap.size < X0.heap.size := by rw [hX0]; simp
 clear hX0
 have EX0 : X0.heap[W1.heap.size + 1 + 1 + 1 + 1 + 1]? = _ := (bX0.block _ (by omega)).trans E0
 have fX0 : X0.heap[W1.heap.size + 1 + 1 + 1 + 1 + 1 + 1 + 1 + 1]? = _ := (bX0.block _ (by omega)).trans f0
 have pX0 : X0.heap[w.heap.size]? = _ := (bX0.block _ (by omega)).trans p0
 have MX0 : X0.heap[W1.heap.size]? = _ := (bX0.block _ (by omega)).trans M0
 have mX0 : X0.heap[W1.heap.size + 1 + 1 + 1 + 1 + 1 + 1 + 1]? = _ := (bX0.block _ (by omega)).trans m0
 have wX0 : Below w.heap.size w X0 := w0.trans (bX0.mono (by omega))
 have trX0 := hT.below wX0
 refine Calls.mono (name_S (W1.heap.size) (W1.heap.size + 1 + 1 + 1 + 1 + 1 + 1 + 1) (W1.heap.size + 1 + 1 + 1 + 1 + 1) (W1.heap.size + 1 + 1 + 1 + 1 + 1 + 1) KS (es0 W1.heap.size) 10 _ MX0 (es0_S _) mX0 (by omega) trX0.s) ?_
 rintro _ V1 ⟨rfl, gS, cS, pS, M1, m1, hcS, shS1, k1⟩
 have z1' := k1.size
 have hk1 : ∀ i, i < X0.heap.size → i ≠ W1.heap.size → i ≠ W1.heap.size + 1 + 1 + 1 + 1 + 1 + 1 + 1 → V1.heap[i]? = X0.heap[i]? := fun i h1 h2 h3 => k1.block i h1 (fun h => by omega)
 have E1 : V1.heap[W1.heap.size + 1 + 1 + 1 + 1 + 1]? = _ := (hk1 _ (by omega) (by omega) (by omega)).trans EX0
 have f1 : V1.heap[W1.heap.size + 1 + 1 + 1 + 1 + 1 + 1 + 1 + 1]? = _ := (hk1 _ (by omega) (by omega) (by omega)).trans fX0
 have p1 : V1.heap[w.heap.size]? = _ := (hk1 _ (by omega) (by omega) (by omega)).trans pX0
 have w1 : Below w.heap.size w V1 := wX0.trans (k1.below (by omega) fun i hi h => by omega)
 have gloS := shS1.glo
 have ploS := shS1.plo
 have ghiS := shS1.ghi
 have phiS := shS1.phi
 have fc := (cells_of f1).1
 have pc := (cells_of p1).1
 have tr1 := hT.below w1
 have kc := (cells_of tr1.p).1
 have hKl1 : KP < V1.heap.size := heap_lt tr1.p
 have hpl1 : w.heap.size < V1.heap.size := by omega
 have hfl1 : W1.heap.size + 1 + 1 + 1 + 1 + 1 + 1 + 1 + 1 < V1.heap.size := by omega
 go_wp2_with fail
 rw [rounds_succ]
 go_wp2_with fail
 clear fc pc kc
 obtain ⟨X1, hX1⟩ : ∃ W, W = V1.alloc (.cells #[.int .i64 3, .string ⟨#[84]⟩, .int .i64 0, .int .i64 0, .slice (some ⟨KT, 0, none⟩) 1 1] 98) := ⟨_, rfl⟩
 rw [← hX1]
 have bX1 : Below V1.heap.size V1 X1 := by rw [hX1]; exact below1 _ _
 have zX1 : V1.heap.size < X1.heap.size := by rw [hX1]; simp
 clear hX1
 have EX1 : X1.heap[W1.heap.size + 1 + 1 + 1 + 1 + 1]? = _ := (bX1.block _ (by omega)).trans E1
 have fX1 : X1.heap[W1.heap.size + 1 + 1 + 1 + 1 + 1 + 1 + 1 + 1]? = _ := (bX1.block _ (by omega)).trans f1
 have pX1 : X1.heap[w.heap.size]? = _ := (bX1.block _ (by omega)).trans p1
 have MX1 : X1.heap[W1.heap.size]? = _ := (bX1.block _ (by omega)).trans M1
 have mX1 : X1.heap[W1.heap.size + 1 + 1 + 1 + 1 + 1 + 1 + 1]? = _ := (bX1.block _ (by omega)).trans m1
 have wX1 : Below w.heap.size w X1 := w1.trans (bX1.mono (by omega))
 have trX1 := hT.below wX1
 have shSX1 := shS1.below bX1
 refine Calls.mono (name_T (W1.heap.size) (W1.heap.size + 1 + 1 + 1 + 1 + 1 + 1 + 1) (W1.heap.size + 1 + 1 + 1 + 1 + 1) (W1.heap.size + 1 + 1 + 1 + 1 + 1 + 1) KT (es1 W1.heap.size gS cS pS) 11 _ MX1 (es1_T _ _ _ _) mX1 (by omega) trX1.t) ?_
 rintro _ V2 ⟨rfl, gT, cT, pT, M2, m2, hcT, shT2, k2⟩
 have z2' := k2.size
 have hk2 : ∀ i, i < X1.heap.size → i ≠ W1.heap.size → i ≠ W1.heap.size + 1 + 1 + 1 + 1 + 1 + 1 + 1 → V2.heap[i]? = X1.heap[i]? := fun i h1 h2 h3 => k2.block i h1 (fun h => by omega)
 have E2 : V2.heap[W1.heap.size + 1 + 1 + 1 + 1 + 1]? = _ := (hk2 _ (by omega) (by omega) (by omega)).trans EX1
 have f2 : V2.heap[W1.heap.size + 1 + 1 + 1 + 1 + 1 + 1 + 1 + 1]? = _ := (hk2 _ (by omega) (by omega) (by omega)).trans fX1
 have p2 : V2.heap[w.heap.size]? = _ := (hk2 _ (by omega) (by omega) (by omega)).trans pX1
 have w2 : Below w.heap.size w V2 := wX1.trans (k2.below (by omega) fun i hi h => by omega)
 have gloT := shT2.glo
 have ploT := shT2.plo
 have ghiT := shT2.ghi
 have phiT := shT2.phi
 have shS2 := shSX1.kp k2 (by omega) (by omega)
 have fc := (cells_of f2).1
 have pc := (cells_of p2).1
 have tr2 := hT.below w2
 have kc := (cells_of tr2.p).1
 have hKl2 : KP < V2.heap.size := heap_lt tr2.p
 have hpl2 : w.heap.size < V2.heap.size := by omega
 have hfl2 : W1.heap.size + 1 + 1 + 1 + 1 + 1 + 1 + 1 + 1 < V2.heap.size := by omega
 go_wp2_with fail
 rw [rounds_succ]
 go_wp2_with fail
 clear fc pc kc
 rw [rounds_succ]
 have fc := (cells_of f2).1
 have pc := (cells_of p2).1
 have tr2 := hT.below w2
 have kc := (cells_of tr2.p).1
 have hKl2 : KP < V2.heap.size := heap_lt tr2.p
 have hpl2 : w.heap.size < V2.heap.size := by omega
 have hfl2 : W1.heap.size + 1 + 1 + 1 + 1 + 1 + 1 + 1 + 1 < V2.heap.size := by omega
 go_wp2_with fail
 refine wp_loop_rounds 3 ?_
 rw [rounds_succ]
 go_wp2_with fail
 clear fc pc kc
 obtain ⟨X2, hX2⟩ : ∃ W, W = V2.alloc (.cells #[.int .i64 3, .string ⟨#[83]⟩, .int .i64 0, .int .i64 0, .slice (some ⟨KS, 0, none⟩) 2 2] 98) := ⟨_, rfl⟩
 rw [← hX2]
 have bX2 : Below V2.heap.size V2 X2 := by rw [hX2]; exact below1 _ _
 have zX2 : V2.heap.size < X2.heap.size := by rw [hX2]; simp
 clear hX2
 have EX2 : X2.heap[W1.heap.size + 1 + 1 + 1 + 1 + 1]? = _ := (bX2.block _ (by omega)).trans E2
 have fX2 : X2.heap[W1.heap.size + 1 + 1 + 1 + 1 + 1 + 1 + 1 + 1]? = _ := (bX2.block _ (by omega)).trans f2
 have pX2 : X2.heap[w.heap.size]? = _ := (bX2.block _ (by omega)).trans p2
 have MX2 : X2.heap[W1.heap.size]? = _ := (bX2.block _ (by omega)).trans M2
 have mX2 : X2.heap[W1.heap.size + 1 + 1 + 1 + 1 + 1 + 1 + 1]? = _ := (bX2.block _ (by omega)).trans m2
 have wX2 : Below w.heap.size w X2 := w2.trans (bX2.mono (by omega))
 have trX2 := hT.below wX2
 have shSX2 := shS2.below bX2
 have shTX2 := shT2.below bX2
 refine Calls.mono (parts_S (W1.heap.size) (W1.heap.size + 1 + 1 + 1 + 1 + 1 + 1 + 1) (W1.heap.size + 1 + 1 + 1 + 1 + 1) (W1.heap.size + 1 + 1 + 1 + 1 + 1 + 1) (es2 W1.heap.size gS cS pS gT cT pT) 12 _ MX2 mX2 (es2_f _ _ _ _ _ _ _) (es2_g _ _ _ _ _ _ _) gS cS pS 10 _ KS (es2_S _ _ _ _ _ _ _) shSX2 hcS trX2.s (by omega) (by omega) (by omega)) ?_
 rintro _ V3 ⟨rfl, k3, shS3⟩
 have z3' := k3.size
 have E3 : V3.heap[W1.heap.size + 1 + 1 + 1 + 1 + 1]? = _ := (k3.block _ (by omega) (by omega)).trans EX2
 have f3 : V3.heap[W1.heap.size + 1 + 1 + 1 + 1 + 1 + 1 + 1 + 1]? = _ := (k3.block _ (by omega) (by omega)).trans fX2
 have p3 : V3.heap[w.heap.size]? = _ := (k3.block _ (by omega) (by omega)).trans pX2
 have M3 : V3.heap[W1.heap.size]? = _ := (k3.block _ (by omega) (by omega)).trans MX2
 have m3 : V3.heap[W1.heap.size + 1 + 1 + 1 + 1 + 1 + 1 + 1]? = _ := (k3.block _ (by omega) (by omega)).trans mX2
 have w3 : Below w.heap.size w V3 := wX2.trans (k3.below (by omega) fun i hi h => by omega)
 have shT3 := shTX2.kp k3 (by omega) (by omega)
 have fc := (cells_of f3).1
 have pc := (cells_of p3).1
 have tr3 := hT.below w3
 have kc := (cells_of tr3.p).1
 have hKl3 : KP < V3.heap.size := heap_lt tr3.p
 have hpl3 : w.heap.size < V3.heap.size := by omega
 have hfl3 : W1.heap.size + 1 + 1 + 1 + 1 + 1 + 1 + 1 + 1 < V3.heap.size := by omega
 go_wp2_with fail
 rw [rounds_succ]
 go_wp2_with fail
 clear fc pc kc
 obtain ⟨X3, hX3⟩ : ∃ W, W = V3.alloc (.cells #[.int .i64 3, .string ⟨#[84]⟩, .int .i64 0, .int .i64 0, .slice (some ⟨KT, 0, none⟩) 1 1] 98) := ⟨_, rfl⟩
 rw [← hX3]
 have bX3 : Below V3.heap.size V3 X3 := by rw [hX3]; exact below1 _ _
 have zX3 : V3.heap.size < X3.heap.size := by rw [hX3]; simp
 clear hX3
 have EX3 : X3.heap[W1.heap.size + 1 + 1 + 1 + 1 + 1]? = _ := (bX3.block _ (by omega)).trans E3
 have fX3 : X3.heap[W1.heap.size + 1 + 1 + 1 + 1 + 1 + 1 + 1 + 1]? = _ := (bX3.block _ (by omega)).trans f3
 have pX3 : X3.heap[w.heap.size]? = _ := (bX3.block _ (by omega)).trans p3
 have MX3 : X3.heap[W1.heap.size]? = _ := (bX3.block _ (by omega)).trans M3
 have mX3 : X3.heap[W1.heap.size + 1 + 1 + 1 + 1 + 1 + 1 + 1]? = _ := (bX3.block _ (by omega)).trans m3
 have wX3 : Below w.heap.size w X3 := w3.trans (bX3.mono (by omega))
 have trX3 := hT.below wX3
 have shSX3 := shS3.below bX3
 have shTX3 := shT3.below bX3
 refine Calls.mono (parts_T (W1.heap.size) (W1.heap.size + 1 + 1 + 1 + 1 + 1 + 1 + 1) (W1.heap.size + 1 + 1 + 1 + 1 + 1) (W1.heap.size + 1 + 1 + 1 + 1 + 1 + 1) (es2 W1.heap.size gS cS pS gT cT pT) 12 _ MX3 mX3 (es2_a _ _ _ _ _ _ _) gT cT pT 11 _ KT (es2_T _ _ _ _ _ _ _) shTX3 hcT trX3.t (by omega) (by omega) (by omega)) ?_
 rintro _ V4 ⟨rfl, k4, shT4⟩
 have z4' := k4.size
 have E4 : V4.heap[W1.heap.size + 1 + 1 + 1 + 1 + 1]? = _ := (k4.block _ (by omega) (by omega)).trans EX3
 have f4 : V4.heap[W1.heap.size + 1 + 1 + 1 + 1 + 1 + 1 + 1 + 1]? = _ := (k4.block _ (by omega) (by omega)).trans fX3
 have p4 : V4.heap[w.heap.size]? = _ := (k4.block _ (by omega) (by omega)).trans pX3
 have M4 : V4.heap[W1.heap.size]? = _ := (k4.block _ (by omega) (by omega)).trans MX3
 have m4 : V4.heap[W1.heap.size + 1 + 1 + 1 + 1 + 1 + 1 + 1]? = _ := (k4.block _ (by omega) (by omega)).trans mX3
 have w4 : Below w.heap.size w V4 := wX3.trans (k4.below (by omega) fun i hi h => by omega)
 have shS4 := shSX3.kp k4 (by omega) (by omega)
 have fc := (cells_of f4).1
 have pc := (cells_of p4).1
 have tr4 := hT.below w4
 have kc := (cells_of tr4.p).1
 have hKl4 : KP < V4.heap.size := heap_lt tr4.p
 have hpl4 : w.heap.size < V4.heap.size := by omega
 have hfl4 : W1.heap.size + 1 + 1 + 1 + 1 + 1 + 1 + 1 + 1 < V4.heap.size := by omega
 go_wp2_with fail
 rw [rounds_succ]
 go_wp2_with fail
 clear fc pc kc
 rw [rounds_succ]
 have fc := (cells_of f4).1
 have pc := (cells_of p4).1
 have tr4 := hT.below w4
 have kc := (cells_of tr4.p).1
 have hKl4 : KP < V4.heap.size := heap_lt tr4.p
 have hpl4 : w.heap.size < V4.heap.size := by omega
 have hfl4 : W1.heap.size + 1 + 1 + 1 + 1 + 1 + 1 + 1 + 1 < V4.heap.size := by omega
 go_wp2_with fail
 refine wp_loop_rounds 3 ?_
 rw [rounds_succ]
 go_wp2_with fail
 clear fc pc kc
 obtain ⟨X4, hX4⟩ : ∃ W, W = V4.alloc (.cells #[.int .i64 3, .string ⟨#[83]⟩, .int .i64 0, .int .i64 0, .slice (some ⟨KS, 0, none⟩) 2 2] 98) := ⟨_, rfl⟩
 rw [← hX4]
 have bX4 : Below V4.heap.size V4 X4 := by rw [hX4]; exact below1 _ _
 have zX4 : V4.heap.size < X4.heap.size := by rw [hX4]; simp
 clear hX4
 have EX4 : X4.heap[W1.heap.size + 1 + 1 + 1 + 1 + 1]? = _ := (bX4.block _ (by omega)).trans E4
 have fX4 : X4.heap[W1.heap.size + 1 + 1 + 1 + 1 + 1 + 1 + 1 + 1]? = _ := (bX4.block _ (by omega)).trans f4
 have pX4 : X4.heap[w.heap.size]? = _ := (bX4.block _ (by omega)).trans p4
 have MX4 : X4.heap[W1.heap.size]? = _ := (bX4.block _ (by omega)).trans M4
 have mX4 : X4.heap[W1.heap.size + 1 + 1 + 1 + 1 + 1 + 1 + 1]? = _ := (bX4.block _ (by omega)).trans m4
 have wX4 : Below w.heap.size w X4 := w4.trans (bX4.mono (by omega))
 have trX4 := hT.below wX4
 have shSX4 := shS4.below bX4
 have shTX4 := shT4.below bX4
 refine Calls.mono (cycle_S (W1.heap.size) (W1.heap.size + 1 + 1 + 1 + 1 + 1 + 1 + 1) (W1.heap.size + 1 + 1 + 1 + 1 + 1) (W1.heap.size + 1 + 1 + 1 + 1 + 1 + 1) (es2 W1.heap.size gS cS pS gT cT pT) 12 _ MX4 mX4 KS EX4) ?_
 rintro _ V5 ⟨rfl, k5⟩
 have z5' := k5.size
 have E5 : V5.heap[W1.heap.size + 1 + 1 + 1 + 1 + 1]? = _ := (k5.block _ (by omega)).trans EX4
 have f5 : V5.heap[W1.heap.size + 1 + 1 + 1 + 1 + 1 + 1 + 1 + 1]? = _ := (k5.block _ (by omega)).trans fX4
 have p5 : V5.heap[w.heap.size]? = _ := (k5.block _ (by omega)).trans pX4
 have M5 : V5.heap[W1.heap.size]? = _ := (k5.block _ (by omega)).trans MX4
 have m5 : V5.heap[W1.heap.size + 1 + 1 + 1 + 1 + 1 + 1 + 1]? = _ := (k5.block _ (by omega)).trans mX4
 have w5 : Below w.heap.size w V5 := wX4.trans (k5.mono (by omega))
 have shS5 := shSX4.below k5
 have shT5 := shTX4.below k5
 have fc := (cells_of f5).1
 have pc := (cells_of p5).1
 have tr5 := hT.below w5
 have kc := (cells_of tr5.p).1
 have hKl5 : KP < V5.heap.size := heap_lt tr5.p
 have hpl5 : w.heap.size < V5.heap.size := by omega
 have hfl5 : W1.heap.size + 1 + 1 + 1 + 1 + 1 + 1 + 1 + 1 < V5.heap.size := by omega
 go_wp2_with fail
 rw [rounds_succ]
 go_wp2_with fail
 clear fc pc kc
 obtain ⟨X5, hX5⟩ : ∃ W, W = V5.alloc (.cells #[.int .i64 3, .string ⟨#[84]⟩, .int .i64 0, .int .i64 0, .slice (some ⟨KT, 0, none⟩) 1 1] 98) := ⟨_, rfl⟩
 rw [← hX5]
 have bX5 : Below V5.heap.size V5 X5 := by rw [hX5]; exact below1 _ _
 have zX5 : V5.heap.size < X5.heap.size := by rw [hX5]; simp
 clear hX5
 have EX5 : X5.heap[W1.heap.size + 1 + 1 + 1 + 1 + 1]? = _ := (bX5.block _ (by omega)).trans E5
 have fX5 : X5.heap[W1.heap.size + 1 + 1 + 1 + 1 + 1 + 1 + 1 + 1]? = _ := (bX5.block _ (by omega)).trans f5
 have pX5 : X5.heap[w.heap.size]? = _ := (bX5.block _ (by omega)).trans p5
 have MX5 : X5.heap[W1.heap.size]? = _ := (bX5.block _ (by omega)).trans M5
 have mX5 : X5.heap[W1.heap.size + 1 + 1 + 1 + 1 + 1 + 1 + 1]? = _ := (bX5.block _ (by omega)).trans m5
 have wX5 : Below w.heap.size w X5 := w5.trans (bX5.mono (by omega))
 have trX5 := hT.below wX5
 have shSX5 := shS5.below bX5
 have shTX5 := shT5.below bX5
 refine Calls.mono (cycle_T (W1.heap.size) (W1.heap.size + 1 + 1 + 1 + 1 + 1 + 1 + 1) (W1.heap.size + 1 + 1 + 1 + 1 + 1) (W1.heap.size + 1 + 1 + 1 + 1 + 1 + 1) (es2 W1.heap.size gS cS pS gT cT pT) 12 _ MX5 mX5 KT EX5) ?_
 rintro _ V6 ⟨rfl, k6⟩
 have z6' := k6.size
 have E6 : V6.heap[W1.heap.size + 1 + 1 + 1 + 1 + 1]? = _ := (k6.block _ (by omega)).trans EX5
 have f6 : V6.heap[W1.heap.size + 1 + 1 + 1 + 1 + 1 + 1 + 1 + 1]? = _ := (k6.block _ (by omega)).trans fX5
 have p6 : V6.heap[w.heap.size]? = _ := (k6.block _ (by omega)).trans pX5
 have M6 : V6.heap[W1.heap.size]? = _ := (k6.block _ (by omega)).trans MX5
 have m6 : V6.heap[W1.heap.size + 1 + 1 + 1 + 1 + 1 + 1 + 1]? = _ := (k6.block _ (by omega)).trans mX5
 have w6 : Below w.heap.size w V6 := wX5.trans (k6.mono (by omega))
 have shS6 := shSX5.below k6
 have shT6 := shTX5.below k6
 have fc := (cells_of f6).1
 have pc := (cells_of p6).1
 have tr6 := hT.below w6
 have kc := (cells_of tr6.p).1
 have hKl6 : KP < V6.heap.size := heap_lt tr6.p
 have hpl6 : w.heap.size < V6.heap.size := by omega
 have hfl6 : W1.heap.size + 1 + 1 + 1 + 1 + 1 + 1 + 1 + 1 < V6.heap.size := by omega
 go_wp2_with fail
 rw [rounds_succ]
 go_wp2_with fail
 clear fc pc kc
 rw [rounds_succ]
 have fc := (cells_of f6).1
 have pc := (cells_of p6).1
 have tr6 := hT.below w6
 have kc := (cells_of tr6.p).1
 have hKl6 : KP < V6.heap.size := heap_lt tr6.p
 have hpl6 : w.heap.size < V6.heap.size := by omega
 have hfl6 : W1.heap.size + 1 + 1 + 1 + 1 + 1 + 1 + 1 + 1 < V6.heap.size := by omega
 go_wp2_with fail
 refine wp_loop_rounds 3 ?_
 rw [rounds_succ]
 go_wp2_with fail
 clear fc pc kc
 obtain ⟨X6, hX6⟩ : ∃ W, W = V6.alloc (.cells #[.int .i64 3, .string ⟨#[83]⟩, .int .i64 0, .int .i64 0, .slice (some ⟨KS, 0, none⟩) 2 2] 98) := ⟨_, rfl⟩
 rw [← hX6]
 have bX6 : Below V6.heap.size V6 X6 := by rw [hX6]; exact below1 _ _
 have zX6 : V6.heap.size < X6.heap.size := by rw [hX6]; simp
 clear hX6
 have EX6 : X6.heap[W1.heap.size + 1 + 1 + 1 + 1 + 1]? = _ := (bX6.block _ (by omega)).trans E6
 have fX6 : X6.heap[W1.heap.size + 1 + 1 + 1 + 1 + 1 + 1 + 1 + 1]? = _ := (bX6.block _ (by omega)).trans f6
 have pX6 : X6.heap[w.heap.size]? = _ := (bX6.block _ (by omega)).trans p6
 have MX6 : X6.heap[W1.heap.size]? = _ := (bX6.block _ (by omega)).trans M6
 have mX6 : X6.heap[W1.heap.size + 1 + 1 + 1 + 1 + 1 + 1 + 1]? = _ := (bX6.block _ (by omega)).trans m6
 have wX6 : Below w.heap.size w X6 := w6.trans (bX6.mono (by omega))
 have trX6 := hT.below wX6
 have shSX6 := shS6.below bX6
 have shTX6 := shT6.below bX6
 refine Calls.mono (sum_S (W1.heap.size) (W1.heap.size + 1 + 1 + 1 + 1 + 1 + 1 + 1) (W1.heap.size + 1 + 1 + 1 + 1 + 1) (W1.heap.size + 1 + 1 + 1 + 1 + 1 + 1) (es2 W1.heap.size gS cS pS gT cT pT) 12 _ MX6 mX6 gS cS pS 10 _ (es2_S _ _ _ _ _ _ _) shSX6 KS) ?_
 rintro _ V7 ⟨rfl, k7⟩
 have z7' := k7.size
 have E7 : V7.heap[W1.heap.size + 1 + 1 + 1 + 1 + 1]? = _ := (k7.block _ (by omega)).trans EX6
 have f7 : V7.heap[W1.heap.size + 1 + 1 + 1 + 1 + 1 + 1 + 1 + 1]? = _ := (k7.block _ (by omega)).trans fX6
 have p7 : V7.heap[w.heap.size]? = _ := (k7.block _ (by omega)).trans pX6
 have M7 : V7.heap[W1.heap.size]? = _ := (k7.block _ (by omega)).trans MX6
 have m7 : V7.heap[W1.heap.size + 1 + 1 + 1 + 1 + 1 + 1 + 1]? = _ := (k7.block _ (by omega)).trans mX6
 have w7 : Below w.heap.size w V7 := wX6.trans (k7.mono (by omega))
 have shS7 := shSX6.below k7
 have shT7 := shTX6.below k7
 have fc := (cells_of f7).1
 have pc := (cells_of p7).1
 have tr7 := hT.below w7
 have kc := (cells_of tr7.p).1
 have hKl7 : KP < V7.heap.size := heap_lt tr7.p
 have hpl7 : w.heap.size < V7.heap.size := by omega
 have hfl7 : W1.heap.size + 1 + 1 + 1 + 1 + 1 + 1 + 1 + 1 < V7.heap.size := by omega
 go_wp2_with fail
 rw [rounds_succ]
 go_wp2_with fail
 clear fc pc kc
 obtain ⟨X7, hX7⟩ : ∃ W, W = V7.alloc (.cells #[.int .i64 3, .string ⟨#[84]⟩, .int .i64 0, .int .i64 0, .slice (some ⟨KT, 0, none⟩) 1 1] 98) := ⟨_, rfl⟩
 rw [← hX7]
 have bX7 : Below V7.heap.size V7 X7 := by rw [hX7]; exact below1 _ _
 have zX7 : V7.heap.size < X7.heap.size := by rw [hX7]; simp
 clear hX7
 have EX7 : X7.heap[W1.heap.size + 1 + 1 + 1 + 1 + 1]? = _ := (bX7.block _ (by omega)).trans E7
 have fX7 : X7.heap[W1.heap.size + 1 + 1 + 1 + 1 + 1 + 1 + 1 + 1]? = _ := (bX7.block _ (by omega)).trans f7
 have pX7 : X7.heap[w.heap.size]? = _ := (bX7.block _ (by omega)).trans p7
 have MX7 : X7.heap[W1.heap.size]? = _ := (bX7.block _ (by omega)).trans M7
 have mX7 : X7.heap[W1.heap.size + 1 + 1 + 1 + 1 + 1 + 1 + 1]? = _ := (bX7.block _ (by omega)).trans m7
 have wX7 : Below w.heap.size w X7 := w7.trans (bX7.mono (by omega))
 have trX7 := hT.below wX7
 have shSX7 := shS7.below bX7
 have shTX7 := shT7.below bX7
 refine Calls.mono (sum_T (W1.heap.size) (W1.heap.size + 1 + 1 + 1 + 1 + 1 + 1 + 1) (W1.heap.size + 1 + 1 + 1 + 1 + 1) (W1.heap.size + 1 + 1 + 1 + 1 + 1 + 1) (es2 W1.heap.size gS cS pS gT cT pT) 12 _ MX7 mX7 gT cT pT 11 _ (es2_T _ _ _ _ _ _ _) shTX7 KT) ?_
 rintro _ V8 ⟨rfl, k8⟩
 have z8' := k8.size
 have E8 : V8.heap[W1.heap.size + 1 + 1 + 1 + 1 + 1]? = _ := (k8.block _ (by omega)).trans EX7
 have f8 : V8.heap[W1.heap.size + 1 + 1 + 1 + 1 + 1 + 1 + 1 + 1]? = _ := (k8.block _ (by omega)).trans fX7
 have p8 : V8.heap[w.heap.size]? = _ := (k8.block _ (by omega)).trans pX7
 have M8 : V8.heap[W1.heap.size]? = _ := (k8.block _ (by omega)).trans MX7
 have m8 : V8.heap[W1.heap.size + 1 + 1 + 1 + 1 + 1 + 1 + 1]? = _ := (k8.block _ (by omega)).trans mX7
 have w8 : Below w.heap.size w V8 := wX7.trans (k8.mono (by omega))
 have shS8 := shSX7.below k8
 have shT8 := shTX7.below k8
 have fc := (cells_of f8).1
 have pc := (cells_of p8).1
 have tr8 := hT.below w8
 have kc := (cells_of tr8.p).1
 have hKl8 : KP < V8.heap.size := heap_lt tr8.p
 have hpl8 : w.heap.size < V8.heap.size := by omega
 have hfl8 : W1.heap.size + 1 + 1 + 1 + 1 + 1 + 1 + 1 + 1 < V8.heap.size := by omega
 go_wp2_with fail
 rw [rounds_succ]
 go_wp2_with fail
 clear fc pc kc
 rw [rounds_succ]
 have mcF := (cells_of m8).1
 have fc := (cells_of f8).1
 go_wp2_with fail
 go_ret2
 exact ⟨V8.heap.size, rfl, w8.trans ((below1 V8 _).mono (by omega))⟩
end Go.Proofs.YtdbijkgnddcneaaGreatDoor.Lx
namespace Go.Proofs.YtdbijkgnddcneaaGreatDoor.Lx
open Go.RowKit Go.ChangeMaps
set_option maxRecDepth 100000
set_option maxHeartbeats 4000000
theorem field_f (w : World) :
  Calls Tryz.prog 52 #[.string ⟨#[102]⟩] w fun e w' => e = .returned (.agg #[.int .i64 8, .string ⟨#[102]⟩, .int .i64 0, .int .i64 0, .slice none 0 0]) ∧ w' = w.alloc (.cells #[.int .i64 8, .string ⟨#[102]⟩, .int .i64 0, .int .i64 0, .slice none 0 0] 98) := by
 go_enter Tryz.func52, Tryz.ntmps52
 go_wp2_with fail
 exact bodyPost_ret (v := .agg #[.int .i64 8, .string ⟨#[102]⟩, .int .i64 0, .int .i64 0, .slice none 0 0]) (by simp [results, Tryz.results52, go_sem]) rfl ⟨rfl, rfl⟩
theorem field_g (w : World) :
  Calls Tryz.prog 52 #[.string ⟨#[103]⟩] w fun e w' => e = .returned (.agg #[.int .i64 8, .string ⟨#[103]⟩, .int .i64 0, .int .i64 0, .slice none 0 0]) ∧ w' = w.alloc (.cells #[.int .i64 8, .string ⟨#[103]⟩, .int .i64 0, .int .i64 0, .slice none 0 0] 98) := by
 go_enter Tryz.func52, Tryz.ntmps52
 go_wp2_with fail
 exact bodyPost_ret (v := .agg #[.int .i64 8, .string ⟨#[103]⟩, .int .i64 0, .int .i64 0, .slice none 0 0]) (by simp [results, Tryz.results52, go_sem]) rfl ⟨rfl, rfl⟩
theorem field_a (w : World) :
  Calls Tryz.prog 52 #[.string ⟨#[97]⟩] w fun e w' => e = .returned (.agg #[.int .i64 8, .string ⟨#[97]⟩, .int .i64 0, .int .i64 0, .slice none 0 0]) ∧ w' = w.alloc (.cells #[.int .i64 8, .string ⟨#[97]⟩, .int .i64 0, .int .i64 0, .slice none 0 0] 98) := by
 go_enter Tryz.func52, Tryz.ntmps52
 go_wp2_with fail
 exact bodyPost_ret (v := .agg #[.int .i64 8, .string ⟨#[97]⟩, .int .i64 0, .int .i64 0, .slice none 0 0]) (by simp [results, Tryz.results52, go_sem]) rfl ⟨rfl, rfl⟩
theorem table_any {gw ow gs os : Nat} (w : World) (ht : TabsAt gw ow gs os w) :
  Calls Tryz.prog 21 #[] w fun e w' => ∃ tb, e = .returned (.pointer (some ⟨tb, 0, none⟩)) ∧ Below w.heap.size w w' := by
 go_enter Tryz.func21, Tryz.ntmps21
 go_wp2_with fail
 refine Calls.mono (field_f _) ?_
 rintro _ _ ⟨rfl, rfl⟩
 go_wp2_with fail
 refine Calls.mono (field_g _) ?_
 rintro _ _ ⟨rfl, rfl⟩
 go_wp2_with fail
 refine Calls.mono (field_a _) ?_
 rintro _ _ ⟨rfl, rfl⟩
 go_wp2_with fail
 obtain ⟨U, hU⟩ : ∃ W, W = (((((((w.alloc (.cells #[.int .i64 8, .string ⟨#[102]⟩, .int .i64 0, .int .i64 0, .slice none 0 0] 98)).alloc (.cells #[.int .i64 8, .string ⟨#[103]⟩, .int .i64 0, .int .i64 0, .slice none 0 0] 98)).alloc (.cells #[.int .i64 8, .string ⟨#[102]⟩, .int .i64 0, .int .i64 0, .slice none 0 0, .int .i64 8, .string ⟨#[103]⟩, .int .i64 0, .int .i64 0, .slice none 0 0] 98)).alloc (.cells #[.int .i64 8, .string ⟨#[97]⟩, .int .i64 0, .int .i64 0, .slice none 0 0] 98)).alloc (.cells #[.int .i64 8, .string ⟨#[97]⟩, .int .i64 0, .int .i64 0, .slice none 0 0] 98)).alloc (.cells #[.int .i64 3, .string ⟨#[83]⟩, .int .i64 0, .int .i64 0, .slice (some ⟨w.heap.size + 1 + 1, 0, none⟩) 2 2, .int .i64 3, .string ⟨#[84]⟩, .int .i64 0, .int .i64 0, .slice (some ⟨w.heap.size + 1 + 1 + 1 + 1, 0, none⟩) 1 1] 98)).alloc (.cells #[.int .i64 1, .string ⟨#[]⟩, .int .i64 0, .int .i64 0, .slice (some ⟨w.heap.size + 1 + 1 + 1 + 1 + 1, 0, none⟩) 2 2] 98)) := ⟨_, rfl⟩
 rw [← hU]
 have bU : Below w.heap.size w U := by rw [hU]; repeat (first | exact Below.refl _ _ | refine Below.alloc ?_ (by simp <;> omega) _)
 have hT : TreeAt (w.heap.size + 1 + 1 + 1 + 1 + 1) (w.heap.size + 1 + 1) (w.heap.size + 1 + 1 + 1 + 1) U := by
  rw [hU]
  exact ⟨by rw [heap_old _ _ _ (by simp <;> omega)]; exact heap_new _ _ _ (by simp), by rw [heap_old _ _ _ (by simp <;> omega), heap_old _ _ _ (by simp <;> omega), heap_old _ _ _ (by simp <;> omega), heap_old _ _ _ (by simp <;> omega)]; exact heap_new _ _ _ (by simp), by rw [heap_old _ _ _ (by simp <;> omega), heap_old _ _ _ (by simp <;> omega)]; exact heap_new _ _ _ (by simp)⟩
 clear hU
 refine Calls.mono (make_two _ _ _ _ (ht.below (Nat.le_refl _) bU) hT) ?_
 rintro _ U2 ⟨tb, rfl, b2⟩
 go_wp2_with fail
 go_ret
 exact ⟨tb, rfl, bU.trans (b2.mono bU.size)⟩
end Go.Proofs.YtdbijkgnddcneaaGreatDoor.Lx
