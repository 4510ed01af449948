/-
  .
  .
  .
-/
import Derived.Test.YtdbijkgnddcneaaGreatDoorXr
import Derived.Sort.OwnSortedInts
import Derived.Maps.AppendAt
import Derived.Test.YtdbijkgnddcneaaGreatDoorSq
namespace Go.Proofs.YtdbijkgnddcneaaGreatDoor
open Go.RowKit Go.ChangeMaps Go.Sort
set_option maxRecDepth 100000
set_option maxHeartbeats 4000000
attribute [local go_sem] refold2 cell3_0 cell3_1 b28_0 b28_01 nz26 nz23
theorem len67 (w : World) (b : Nat) (vs : List Value) (_hl : vs.length < 1000) (ty : TypeId) (hb : w.heap[b]? = some (.map (tents 0 vs).toArray vs.length)) : (Builtin.len_ #[67] ty #[.map (some b)]).run Tryz.prog w = .ok (.int .i64 (vs.length : Int)) w := by
 simp [Builtin.len_, MapKept.run_getObj_map hb, tents_length, Result.andThen]
 rfl
theorem ownsRow_setB {w : World} {base : Nat} {e : TypeId} {size : Nat} {v : Value} {n : Nat} {xs : List Value} (h : w.ownsRow base e size v n xs) {r : Nat} {a : Option Nat} {b c : Nat} {s : Array Nat} (hr : w.heap[r]? = some (.mapIter a b s c)) (o : Obj) : (setBlock w r o).ownsRow base e size v n xs := by
 obtain ⟨h1, h2⟩ := h
 refine ⟨h1, ?_⟩
 rcases h2 with h2 | ⟨g, cap, cur, hv, hg, hh, q⟩
 ·exact .inl h2
 ·refine .inr ⟨g, cap, cur, hv, hg, ?_, q⟩
  rw [setBlock_other _ _ _ _ (fun e => by subst e; rw [hr] at hh; cases hh)]
  exact hh
def ThRel (w0 : World) (hb M : Nat) (vs : List Value) (r : Nat) (v : Value) (wr : World) : Prop := ∃ (k : Nat) (zs : List Int) (seen : Array Nat) (c0 : Nat), v ≠ .slice none 0 0 ∧ wr.heap[r]? = some (.mapIter (some M) vs.length seen c0) ∧ vs.length ≤ c0 ∧ HeapAt wr hb M vs ∧ wr.ownsRow w0.heap.size 3 1 v k (zs.map (Value.int .i64)) ∧ zs.length = k ∧ k + (leftOf (tents 0 vs).toArray seen).size = vs.length ∧ Below w0.heap.size w0 wr
theorem Things_any (hb M : Nat) (vs : List Value) (hl : vs.length < 1000) (w : World) (h : HeapAt w hb M vs) :
  Calls Tryz.prog 31 #[.pointer (some ⟨hb, 0, none⟩)] w fun r w' => (∃ p cap, r = .returned (.slice p vs.length cap)) ∧ Below w.heap.size w w' := by
 have hlen := fun ty => len67 w M vs hl ty h.map
 have cc := (cells_of h.box).1
 obtain ⟨i0, hi, hz0, hz1, hz2⟩ := info_parts info3z
 have hmk := run_make (P := Tryz.prog) w 22 3 i0 (.int .i64 0) Tryz.underlying22 hi hz0 .i64 .i64 0 (vs.length : Int) (by omega) (by omega) (by rw [hz2]; omega) (by omega)
 have hlt1 := hblk h.box
 have hlt2 := hblk h.map
 obtain ⟨Y, hY⟩ : ∃ Y, Y = madeCells (Value.int .i64 0).cells ((vs.length : Int).toNat * i0.size) := ⟨_, rfl⟩
 have hYs : Y.size = vs.length := by rw [hY, size_madeCells, hz1]; simp
 have hmk2 : (Instr.makeSlice 22 (.int .i64 0) (.int .i64 (vs.length : Int))).run Tryz.prog w = .ok (.slice (some ⟨w.heap.size, 0, none⟩) 0 vs.length) (w.alloc (.cells Y 3)) := by
  rw [← hY] at hmk
  simpa using hmk
 clear hmk hY
 have hh1 := h.below (below1 w (.cells Y 3))
 have hrg := run_range_map (P := Tryz.prog) (w.alloc (.cells Y 3)) 67 3 134 M _ _ und67 hh1.map
 have cc1 := (cells_of hh1.box).1
 have u0 := below1 w (.cells Y 3)
 have hown0 : (w.alloc (.cells Y 3)).ownsRow w.heap.size 3 1 (.slice (some ⟨w.heap.size, 0, none⟩) 0 vs.length) 0 [] := World.ownsRow_made _ _ _ (Nat.le_refl _) (by unfold maxLen; omega) (by omega)
 go_enter Tryz.func31, Tryz.ntmps31
 go_wp2_with fail
 obtain ⟨U0, hU0⟩ : ∃ W, W = w.alloc (.cells Y 3) := ⟨_, rfl⟩
 have HU0 : Hid (Below w.heap.size w U0 ∧ HeapAt U0 hb M vs ∧ U0.ownsRow w.heap.size 3 1 (.slice (some ⟨w.heap.size, 0, none⟩) 0 vs.length) 0 [] ∧ U0.heap.size = w.heap.size + 1) := by rw [hU0]; exact ⟨u0, hh1, hown0, by simp⟩
 rw [← hU0]
 clear hU0 u0 hh1 hown0 cc1 hrg hmk2 cc hlen
 have T0 : ThRel w hb M vs (w.heap.size + 1) (.slice (some ⟨w.heap.size, 0, none⟩) 0 vs.length) (U0.alloc (.mapIter (some M) vs.length #[] vs.length)) := by
  obtain ⟨q1, q2, q3, q4⟩ := HU0.out
  refine ⟨0, [], #[], vs.length, by simp, by rw [← q4]; exact heap_alloc_new _ _, Nat.le_refl _, q2.below (below1 _ _), q3.alloc _, rfl, ?_, q1.alloc (by omega) _⟩
  have e1 : leftOf (tents 0 vs).toArray #[] = (tents 0 vs).toArray := by unfold leftOf; simp
  rw [e1]; simp [tents_length]
 go_loopw [3] (fun v wr => ThRel w hb M vs (w.heap.size + 1) v wr) (fun _ wr => (leftOf (tents 0 vs).toArray (wr.iterSeen (w.heap.size + 1))).size)
 case atStart => exact T0
 case round =>
  clear T0
  obtain ⟨k, zs, seen, c0, hnn, hr, hsc, hH, hown, hzl, hsum, hbl⟩ := hrel
  have hold : ∀ x ∈ (tents 0 vs).toArray.toList, x.born < vs.length := fun x hx => by
   obtain ⟨_, _, h⟩ := tents_key 0 vs x (by simpa using hx)
   omega
  have hnd : ((tents 0 vs).toArray.toList.map (·.born)).Nodup := by rw [List.toList_toArray, tents_born]; exact List.nodup_range' (step := 1)
  have hseen : wr.iterSeen (w.heap.size + 1) = seen := by unfold World.iterSeen; rw [hr]
  have hrl := hblk hr
  rcases run_next_at (P := Tryz.prog) wr 0 (w.heap.size + 1) M vs.length c0 seen _ vs.length hr hH.map hold hsc with ⟨h0, hnx⟩ | ⟨e, he, w1, hw1, hnx⟩
  ·obtain rfl : k = vs.length := by omega
   rcases hown.2 with ⟨hnil, _⟩ | ⟨g, cap, cur, rfl, hbase, hbk, q1, q2, q3, q4⟩
   ·exact absurd hnil hnn
   have hHd : Holds (Value.int .i64) wr g 0 zs.toArray := holds_of_blockI hbk (by rw [hzl]; simpa using q4)
   have hS := slices_Sort_int g 0 cap zs wr hHd (hblk hbk) (by omega)
   rw [hzl] at hS
   have HS : Hid _ := hS
   clear hown hold hnd hseen hS
   go_wp2_with fail
   refine Calls.mono HS.out ?_
   rintro _ W3 ⟨rfl, nn, os, hW3⟩
   have hgr : wr.grownBy W3 (some g) := by rw [hW3]; exact grownBy_sortedI _
   have hb3 : Below w.heap.size w W3 := Below.grown hbl hgr hbl.size (fun j hj => by cases hj; exact hbase)
   clear hW3 hgr
   go_wp2_with fail
   go_ret
   exact ⟨⟨_, _, rfl⟩, hb3⟩
  ·obtain ⟨W2, hW2⟩ : ∃ W, W = setBlock w1 (w.heap.size + 1) (.mapIter (some M) vs.length (seen.push e.born) vs.length) := ⟨_, rfl⟩
   rw [← hW2] at hnx
   have hr1 : w1.heap[w.heap.size + 1]? = some (.mapIter (some M) vs.length seen c0) := by rcases hw1 with rfl | rfl <;> exact hr
   have hH1 : HeapAt w1 hb M vs := by rcases hw1 with rfl | rfl; exact hH; exact ⟨hH.box, hH.map, hH.ne⟩
   have hown1 : w1.ownsRow w.heap.size 3 1 u3 k (zs.map (Value.int .i64)) := by rcases hw1 with rfl | rfl; exact hown; exact hown
   have hbl1 : Below w.heap.size w w1 := by rcases hw1 with rfl | rfl; exact hbl; exact hbl.drew
   have k2 : Kp (· = w.heap.size + 1) w1 W2 := by rw [hW2]; exact Kp.setB _ _ _ rfl
   have hr2 : W2.heap[w.heap.size + 1]? = some (.mapIter (some M) vs.length (seen.push e.born) vs.length) := by rw [hW2]; exact setBlock_same _ _ _ (hblk hr1)
   have hown2 : W2.ownsRow w.heap.size 3 1 u3 k (zs.map (Value.int .i64)) := by rw [hW2]; exact ownsRow_setB hown1 hr1 _
   have hH2 : HeapAt W2 hb M vs := hH1.kp k2 (by omega) (by omega)
   have hbl2 : Below w.heap.size w W2 := hbl1.trans (k2.below hbl1.size fun i hi e => by omega)
   have hls := left_size _ _ _ hnd he
   have hmem : e ∈ tents 0 vs := by have := he; unfold leftOf at this; simp at this; exact this.1
   obtain ⟨n, hkey, _⟩ := tents_key 0 vs e hmem
   have hen := run_entry_at (P := Tryz.prog) W2 (w.heap.size + 1) M vs.length seen _ vs.length e hr2 hH2.map (by simpa using hmem) hnd
   rw [hkey] at hen hnx
   have HO : Hid (W2.ownsRow w.heap.size 3 1 u3 k (zs.map (Value.int .i64))) := hown2
   have hkl : k ≤ 1000 := by omega
   have y2 := hblk hr2
   clear hW2 hr1 hH1 hown1 hbl1 k2 hw1 hr hH hown hbl hold hmem hown2
   go_wp2_with (at_builtin; refine wpList_append_own _ rfl _ _ 22 rfl w.heap.size 3 i0 (.int .i64 0) 1 8 Tryz.underlying22 hi hz0 hz1 hz2 rfl (by decide) _ _ _ rfl (HO.out.alloc _) ⟨W2.heap.size, 0, none⟩ 1 1 [.int .i64 n] rfl rfl (cell_one_new _ _ _) (fun x hx => by simp at hx; subst hx; rfl) (by unfold maxLen; omega) (by omega) (by simp; have := hbl2.size; omega) ?_; intro v' w3 hown3 hgr3 hn3; have HB3 : Hid (Below w.heap.size w w3) := (Below.grown (hbl2.alloc hbl2.size _) hgr3 (by simp; have := hbl2.size; omega) (fun j hj => by have := (HO.out.lt _ hj).1; omega)); have HO3 : Hid (w3.ownsRow w.heap.size 3 1 v' (k + 1) ((zs ++ [n]).map (Value.int .i64))) := (by show World.ownsRow _ _ _ _ _ _ _; rw [List.map_append]; exact hown3); have HN3 : Hid (v' ≠ .slice none 0 0) := (fun hv => by have := (hn3.1 hv).2; omega); have HG3 : Hid ((W2.alloc (.cells #[.int .i64 n] 3)).grownBy w3 _) := hgr3; clear hown3 hgr3 hn3)
   have hne : some (w.heap.size + 1) ≠ u3.ownBlock := fun hq => by
    rcases HO.out.2 with ⟨hnil, _⟩ | ⟨g, cap, cur, rfl, hbase, hbk, _⟩
    ·rw [hnil] at hq; simp [Value.ownBlock] at hq
    ·simp only [Value.ownBlock, Option.some.injEq] at hq
     rw [← hq, hr2] at hbk
     cases hbk
   have old : ∀ b o, b < w.heap.size → W2.heap[b]? = some o → w3.heap[b]? = some o := fun b o hb2 ho => by
    refine (HG3.out.block b (by simp; have := hblk ho; omega) fun hq => ?_).trans ((Below.heap_alloc _ _ _ (hblk ho)).trans ho)
    have := (HO.out.lt b hq.symm).1
    omega
   have hr3 : w3.heap[w.heap.size + 1]? = some (.mapIter (some M) vs.length (seen.push e.born) vs.length) := (HG3.out.block _ (by simp; omega) hne).trans ((Below.heap_alloc _ _ _ y2).trans hr2)
   have hs3 : w3.iterSeen (w.heap.size + 1) = seen.push e.born := by unfold World.iterSeen; rw [hr3]
   refine ⟨⟨k + 1, zs ++ [n], seen.push e.born, vs.length, HN3.out, hr3, Nat.le_refl _, ⟨old _ _ hlt1 hH2.box, old _ _ hlt2 hH2.map, hH2.ne⟩, HO3.out, by simp; omega, by omega, HB3.out⟩, ?_⟩
   rw [hs3, hseen]
   omega
end Go.Proofs.YtdbijkgnddcneaaGreatDoor
namespace Go.Proofs.YtdbijkgnddcneaaGreatDoor
open Go.RowKit Go.ChangeMaps
set_option maxRecDepth 100000
set_option maxHeartbeats 4000000
attribute [local go_sem] refold2 cell3_0 cell3_1 b28_0 b28_01 nz26 nz23
theorem alike_same (ga gb ca cb : Nat) (zs : List Int) (hl : zs.length ≤ 4000) (w : World) (hga : ga < w.heap.size) (hgb : gb < w.heap.size) (hA : ∀ (j : Nat) (hj : j < zs.length), w.cell? ⟨ga, j, none⟩ = some (.int .i64 zs[j])) (hB : ∀ (j : Nat) (hj : j < zs.length), w.cell? ⟨gb, j, none⟩ = some (.int .i64 zs[j])) :
  Calls Tryz.prog 13 #[.slice (some ⟨ga, 0, none⟩) zs.length ca, .slice (some ⟨gb, 0, none⟩) zs.length cb] w fun r w' => r = .returned (.bool true) ∧ Below w.heap.size w w' := by
 go_enter Tryz.func13, Tryz.ntmps13
 go_wp2_with fail
 go_loopw [5] (fun i wr => ∃ k : Nat, i = .int .i64 k ∧ k ≤ zs.length ∧ Below w.heap.size w wr) (fun i _ => zs.length - (intOf i).toNat)
 case atStart => exact ⟨0, rfl, Nat.zero_le _, Below.refl _ _⟩
 case round =>
  obtain ⟨k, rfl, hk, hb⟩ := hrel
  by_cases hlt : k < zs.length
  ·have i1 : (k : Int) < zs.length := by omega
   have i0 : (0 : Int) ≤ k := by omega
   go_wp2_with fail
   refine rg (S := fun W => (∀ (j : Nat) (hj : j < zs.length), W.cell? ⟨ga, j, none⟩ = some (.int .i64 zs[j])) ∧ (∀ (j : Nat) (hj : j < zs.length), W.cell? ⟨gb, j, none⟩ = some (.int .i64 zs[j]))) (fun U1 hB4 HU1 => ?_)
   have hS : (∀ (j : Nat) (hj : j < zs.length), U1.cell? ⟨ga, j, none⟩ = some (.int .i64 zs[j])) ∧ (∀ (j : Nat) (hj : j < zs.length), U1.cell? ⟨gb, j, none⟩ = some (.int .i64 zs[j])) := ⟨fun j hj => (hB4.cell (p := ⟨ga, j, none⟩) (Nat.lt_of_lt_of_le hga hb.size)).trans ((hb.cell (p := ⟨ga, j, none⟩) hga).trans (hA j hj)), fun j hj => (hB4.cell (p := ⟨gb, j, none⟩) (Nat.lt_of_lt_of_le hgb hb.size)).trans ((hb.cell (p := ⟨gb, j, none⟩) hgb).trans (hB j hj))⟩
   refine tq 0 (.slice (some ⟨ga, 0, none⟩) zs.length ca) rfl hS ?_
   simp only [sa, sb, Act.put, sd, se, sf]
   refine tq 1 (.int .i64 (k : Int)) rfl hS ?_
   simp only [sa, sb, sc, Act.put, sd, se, sf]
   refine tk 2 (.pointer (some ⟨ga, k, none⟩)) rfl (.inl ⟨by rfl, ?r⟩) hS ?_
   case r => intro W hW; simp [go_sem, execOp, Act.eval, i1, i0]
   simp only [sa, sb, sc, Act.put, sd, se, sf]
   refine tk 3 (.int .i64 zs[k]) rfl (.inl ⟨by rfl, ?r⟩) hS ?_
   case r => intro W hW; simp [go_sem, execOp, Act.eval, hW.1 k hlt]
   simp only [sa, sb, sc, Act.put, sd, se, sf]
   refine tq 4 (.slice (some ⟨gb, 0, none⟩) zs.length cb) rfl hS ?_
   simp only [sa, sb, sc, Act.put, sd, se, sf]
   refine tq 5 (.int .i64 (k : Int)) rfl hS ?_
   simp only [sa, sb, sc, Act.put, sd, se, sf]
   refine tk 6 (.pointer (some ⟨gb, k, none⟩)) rfl (.inl ⟨by rfl, ?r⟩) hS ?_
   case r => intro W hW; simp [go_sem, execOp, Act.eval, i1, i0]
   simp only [sa, sb, sc, Act.put, sd, se, sf]
   refine tk 7 (.int .i64 zs[k]) rfl (.inl ⟨by rfl, ?r⟩) hS ?_
   case r => intro W hW; simp [go_sem, execOp, Act.eval, hW.2 k hlt]
   simp only [sa, sb, sc, Act.put, sd, se, sf]
   refine tq 8 (.bool false) rfl hS ?_
   simp only [sa, sb, sc, Act.put, sd, se, sf]
   have hb2 : Below w.heap.size w U1 := hb.trans (hB4.mono hb.size)
   clear HU1 hB4 hS
   refine dn ?_
   try simp only [Act.put]
   go_wp2_with fail
   exact ⟨⟨k + 1, by simp, hlt, hb2⟩, by simp [intOf]; omega⟩
  ·have i1 : ¬ (k : Int) < zs.length := by omega
   go_wp2_with fail
   go_ret
   exact ⟨rfl, hb⟩
end Go.Proofs.YtdbijkgnddcneaaGreatDoor
namespace Go.Proofs.YtdbijkgnddcneaaGreatDoor
open Go.RowKit Go.ChangeMaps
set_option maxRecDepth 100000
set_option maxHeartbeats 4000000
attribute [local go_sem] refold2 cell3_0 cell3_1 b28_0 b28_01 nz26 nz23 b32_012 b32_015 b30_023 b30_0123 b30_0 b131_0 ta84 ta129
theorem pieceA_nil (ab : Nat) (o : Int) (w : World) (ha : w.heap[ab]? = some (.cells #[.slice none 0 0] 131)) :
  Calls Tryz.prog 65 #[.pointer (some ⟨ab, 0, none⟩), .agg #[.int .i64 o, .int .i64 0, .int .i64 0, .int .i64 0, .slice none 0 0]] w fun r w' => r = .returned (.slice none 0 0) ∧ Below w.heap.size w w' := by
 have h00 : IntKind.i64.wrap 0 = 0 := by decide
 go_enter Tryz.func65, Tryz.ntmps65
 go_wp2_with fail
 obtain ⟨U0, hU0⟩ : ∃ W, W = w.alloc (.cells #[.int .i64 o, .int .i64 0, .int .i64 0, .int .i64 0, .slice none 0 0] 30) := ⟨_, rfl⟩
 rw [← hU0]
 have u0 : Below w.heap.size w U0 := by rw [hU0]; exact below1 w _
 have b0 : U0.heap[w.heap.size]? = some (.cells #[.int .i64 o, .int .i64 0, .int .i64 0, .int .i64 0, .slice none 0 0] 30) := by rw [hU0]; exact heap_alloc_new _ _
 have a0 : U0.heap[ab]? = _ := (u0.block _ (hblk ha)).trans ha
 clear hU0
 refine rg (S := fun W => (∀ j, W.cell? ⟨w.heap.size, j, none⟩ = (#[.int .i64 o, .int .i64 0, .int .i64 0, .int .i64 0, .slice none 0 0] : Array Value)[j]?) ∧ (∀ j, W.cell? ⟨ab, j, none⟩ = (#[.slice none 0 0] : Array Value)[j]?)) (fun U1 hB4 HU1 => ?_)
 have hS : (∀ j, U1.cell? ⟨w.heap.size, j, none⟩ = (#[.int .i64 o, .int .i64 0, .int .i64 0, .int .i64 0, .slice none 0 0] : Array Value)[j]?) ∧ (∀ j, U1.cell? ⟨ab, j, none⟩ = (#[.slice none 0 0] : Array Value)[j]?) := ⟨(cells_of ((hB4.block _ (hblk b0)).trans b0)).1, (cells_of ((hB4.block _ (hblk a0)).trans a0)).1⟩
 refine tq 0 (.pointer (some ⟨ab, 0, none⟩)) rfl hS ?_
 simp only [sa, sb, Act.put, sd, se, sf]
 refine tq 1 (.pointer (some ⟨ab, 0, none⟩)) rfl hS ?_
 simp only [sa, sb, sc, Act.put, sd, se, sf]
 refine tq 2 (.pointer (some ⟨ab, 0, none⟩)) rfl hS ?_
 simp only [sa, sb, sc, Act.put, sd, se, sf]
 refine tk 3 (.slice none 0 0) rfl (.inl ⟨by rfl, ?r⟩) hS ?_
 case r => intro W hW; simp [go_sem, execOp, Act.eval, hW.2]
 simp only [sa, sb, sc, Act.put, sd, se, sf]
 refine tq 4 (.pointer (some ⟨w.heap.size, 1, none⟩)) rfl hS ?_
 simp only [sa, sb, sc, Act.put, sd, se, sf]
 refine tk 5 (.int .i64 0) rfl (.inl ⟨by rfl, ?r⟩) hS ?_
 case r => intro W hW; simp [go_sem, execOp, Act.eval, hW.1]
 simp only [sa, sb, sc, Act.put, sd, se, sf]
 refine tq 6 (.pointer (some ⟨w.heap.size, 1, none⟩)) rfl hS ?_
 simp only [sa, sb, sc, Act.put, sd, se, sf]
 refine tk 7 (.int .i64 0) rfl (.inl ⟨by rfl, ?r⟩) hS ?_
 case r => intro W hW; simp [go_sem, execOp, Act.eval, hW.1]
 simp only [sa, sb, sc, Act.put, sd, se, sf]
 refine tq 8 (.pointer (some ⟨w.heap.size, 2, none⟩)) rfl hS ?_
 simp only [sa, sb, sc, Act.put, sd, se, sf]
 refine tk 9 (.int .i64 0) rfl (.inl ⟨by rfl, ?r⟩) hS ?_
 case r => intro W hW; simp [go_sem, execOp, Act.eval, hW.1]
 simp only [sa, sb, sc, Act.put, sd, se, sf]
 refine tk 10 (.int .i64 0) rfl (.inl ⟨by rfl, ?r⟩) hS ?_
 case r => intro W hW; simp [go_sem, execOp, Act.eval, h00]
 simp only [sa, sb, sc, Act.put, sd, se, sf]
 refine tq 11 (.pointer (some ⟨w.heap.size, 1, none⟩)) rfl hS ?_
 simp only [sa, sb, sc, Act.put, sd, se, sf]
 refine tk 12 (.int .i64 0) rfl (.inl ⟨by rfl, ?r⟩) hS ?_
 case r => intro W hW; simp [go_sem, execOp, Act.eval, hW.1]
 simp only [sa, sb, sc, Act.put, sd, se, sf]
 refine tq 13 (.pointer (some ⟨w.heap.size, 3, none⟩)) rfl hS ?_
 simp only [sa, sb, sc, Act.put, sd, se, sf]
 refine tk 14 (.int .i64 0) rfl (.inl ⟨by rfl, ?r⟩) hS ?_
 case r => intro W hW; simp [go_sem, execOp, Act.eval, hW.1]
 simp only [sa, sb, sc, Act.put, sd, se, sf]
 refine tk 15 (.int .i64 0) rfl (.inl ⟨by rfl, ?r⟩) hS ?_
 case r => intro W hW; simp [go_sem, execOp, Act.eval, h00]
 simp only [sa, sb, sc, Act.put, sd, se, sf]
 have u1 : Below w.heap.size w U1 := u0.trans (hB4.mono u0.size)
 refine one 16 rfl (fun K hK => ?_)
 simp only [sa, sb, sc]
 go_simp
 refine hK _ _ ⟨hS, ?_⟩
 clear hK K
 try simp only [Act.put, sd, se, sf]
 refine one 17 rfl (fun K hK => ?_)
 simp only [sa, sb, sc]
 go_simp
 refine hK _ _ ⟨hS, ?_⟩
 clear hK K
 try simp only [Act.put, sd, se, sf]
 refine dn ?_
 try simp only [Act.put]
 go_wp2_with fail
 go_ret
 exact ⟨rfl, u1⟩
theorem piece_nil (hb M : Nat) (vs : List Value) (m ab : Nat) (hm : vs[m]? = some (arrV ab)) (t : ByteArray) (hF : FlatR (leadD 5 t ((m : Int) + 1) 0 0 0)) (w : World) (hN : NamesAt w) (h : HeapAt w hb M vs) (ha : w.heap[ab]? = some (.cells #[.slice none 0 0] 131)) :
  Calls Tryz.prog 36 #[.pointer (some ⟨hb, 0, none⟩), .agg #[.int .i64 5, .string t, .int .i64 0, .int .u64 0, .string ⟨#[]⟩, .int .i64 ((m : Int) + 1), .int .i64 0, .int .i64 0, .int .i64 0, .slice none 0 0, .slice none 0 0]] w fun r w' => r = .returned (.tuple #[.slice none 0 0, .bool true]) ∧ Below w.heap.size w w' := by
 have HF : Hid (∀ W, Below w.heap.size w W → Calls Tryz.prog 64 #[.pointer (some ⟨hb, 0, none⟩), .agg #[.int .i64 5, .string t, .int .i64 0, .int .u64 0, .string ⟨#[]⟩, .int .i64 ((m : Int) + 1), .int .i64 0, .int .i64 0, .int .i64 0, .slice none 0 0, .slice none 0 0]] W fun r w' => r = .returned (.bool true) ∧ Below W.heap.size W w') := fun W hW => fits_list hb M vs m ab hm none 0 t _ 0 0 0 rfl hF (by omega) (by omega) W (hN.kept hW) (h.below hW) ((hW.block _ (hblk ha)).trans ha)
 go_enter Tryz.func36, Tryz.ntmps36
 go_wp2_with fail
 have u0 := below1 w (.cells #[.int .i64 5, .string t, .int .i64 0, .int .u64 0, .string ⟨#[]⟩, .int .i64 ((m : Int) + 1), .int .i64 0, .int .i64 0, .int .i64 0, .slice none 0 0, .slice none 0 0] 32)
 obtain ⟨U0, hU0⟩ : ∃ W, W = w.alloc (.cells #[.int .i64 5, .string t, .int .i64 0, .int .u64 0, .string ⟨#[]⟩, .int .i64 ((m : Int) + 1), .int .i64 0, .int .i64 0, .int .i64 0, .slice none 0 0, .slice none 0 0] 32) := ⟨_, rfl⟩
 rw [← hU0] at u0 ⊢
 have b0 : U0.heap[w.heap.size]? = some (.cells #[.int .i64 5, .string t, .int .i64 0, .int .u64 0, .string ⟨#[]⟩, .int .i64 ((m : Int) + 1), .int .i64 0, .int .i64 0, .int .i64 0, .slice none 0 0, .slice none 0 0] 32) := by rw [hU0]; exact heap_alloc_new _ _
 clear hU0
 refine (HF.out U0 u0).mono ?_
 rintro _ U1 ⟨rfl, c1⟩
 have u1 : Below w.heap.size w U1 := u0.trans (c1.mono u0.size)
 have b1 : U1.heap[w.heap.size]? = some (.cells #[.int .i64 5, .string t, .int .i64 0, .int .u64 0, .string ⟨#[]⟩, .int .i64 ((m : Int) + 1), .int .i64 0, .int .i64 0, .int .i64 0, .slice none 0 0, .slice none 0 0] 32) := (c1.block _ (hblk b0)).trans b0
 clear b0 u0 c1
 go_wp2_with fail
 refine rg (S := fun W => (∀ j, W.cell? ⟨w.heap.size, j, none⟩ = (#[.int .i64 5, .string t, .int .i64 0, .int .u64 0, .string ⟨#[]⟩, .int .i64 ((m : Int) + 1), .int .i64 0, .int .i64 0, .int .i64 0, .slice none 0 0, .slice none 0 0] : Array Value)[j]?) ∧ (∀ j, W.cell? ⟨hb, j, none⟩ = (#[.map (some M), .int .i64 vs.length] : Array Value)[j]?) ∧ HeapAt W hb M vs) (fun U2 hB4 HU2 => ?_)
 have hS : (∀ j, U2.cell? ⟨w.heap.size, j, none⟩ = (#[.int .i64 5, .string t, .int .i64 0, .int .u64 0, .string ⟨#[]⟩, .int .i64 ((m : Int) + 1), .int .i64 0, .int .i64 0, .int .i64 0, .slice none 0 0, .slice none 0 0] : Array Value)[j]?) ∧ (∀ j, U2.cell? ⟨hb, j, none⟩ = (#[.map (some M), .int .i64 vs.length] : Array Value)[j]?) ∧ HeapAt U2 hb M vs := ⟨(cells_of ((hB4.block _ (hblk b1)).trans b1)).1, (cells_of ((h.below u1).below hB4).box).1, (h.below u1).below hB4⟩
 refine tq 0 (.pointer (some ⟨hb, 0, none⟩)) rfl hS ?_
 simp only [sa, sb, Act.put, sd, se, sf]
 refine tq 1 (.pointer (some ⟨hb, 0, none⟩)) rfl hS ?_
 simp only [sa, sb, sc, Act.put, sd, se, sf]
 refine tq 2 (.pointer (some ⟨hb, 0, none⟩)) rfl hS ?_
 simp only [sa, sb, sc, Act.put, sd, se, sf]
 refine tk 3 (.map (some M)) rfl (.inl ⟨by rfl, ?r⟩) hS ?_
 case r => intro W hW; simp [go_sem, execOp, Act.eval, hW.2.1]
 simp only [sa, sb, sc, Act.put, sd, se, sf]
 refine tq 4 (.pointer (some ⟨w.heap.size, 5, none⟩)) rfl hS ?_
 simp only [sa, sb, sc, Act.put, sd, se, sf]
 refine tq 5 (.pointer (some ⟨w.heap.size, 5, none⟩)) rfl hS ?_
 simp only [sa, sb, sc, Act.put, sd, se, sf]
 refine tk 6 (.int .i64 ((m : Int) + 1)) rfl (.inl ⟨by rfl, ?r⟩) hS ?_
 case r => intro W hW; simp [go_sem, execOp, Act.eval, hW.1]
 simp only [sa, sb, sc, Act.put, sd, se, sf]
 refine tk 7 (.iface 129 (.pointer (some ⟨ab, 0, none⟩))) rfl (.inl ⟨by rfl, ?r⟩) hS ?_
 case r => intro W hW; simp [go_sem, execOp, Act.eval, hW.2.2.look hm rfl, arrV]
 simp only [sa, sb, sc, Act.put, sd, se, sf]
 refine tq 8 (.tuple #[.pointer (some ⟨ab, 0, none⟩), .bool true]) rfl hS ?_
 simp only [sa, sb, sc, Act.put, sd, se, sf]
 refine tq 9 (.tuple #[.pointer (some ⟨ab, 0, none⟩), .bool true]) rfl hS ?_
 simp only [sa, sb, sc, Act.put, sd, se, sf]
 refine tq 10 (.pointer (some ⟨ab, 0, none⟩)) rfl hS ?_
 simp only [sa, sb, sc, Act.put, sd, se, sf]
 refine tq 11 (.bool true) rfl hS ?_
 simp only [sa, sb, sc, Act.put, sd, se, sf]
 have b2 : U2.heap[w.heap.size]? = _ := (hB4.block _ (hblk b1)).trans b1
 have u2 : Below w.heap.size w U2 := u1.trans (hB4.mono u1.size)
 have a2 : U2.heap[ab]? = _ := (u2.block _ (hblk ha)).trans ha
 clear HU2 hB4 b1 u1
 refine one 12 rfl (fun K hK => ?_)
 simp only [sa, sb, sc]
 go_simp
 refine hK _ _ ⟨hS, ?_⟩
 clear hK K
 try simp only [Act.put, sd, se, sf]
 refine one 13 rfl (fun K hK => ?_)
 simp only [sa, sb, sc]
 go_simp
 refine hK _ _ ⟨hS, ?_⟩
 clear hK K
 try simp only [Act.put, sd, se, sf]
 refine dn ?_
 try simp only [Act.put]
 have bc2 := (cells_of b2).1
 go_wp2_with fail
 refine (pieceA_nil ab _ _ a2).mono ?_
 rintro _ U3 ⟨rfl, c3⟩
 have u3 : Below w.heap.size w U3 := u2.trans (c3.mono u2.size)
 go_wp2_with fail
 exact bodyPost_ret (v := .tuple #[.slice none 0 0, .bool true]) (by simp [results, Tryz.results36, go_sem]) rfl ⟨rfl, u3⟩
end Go.Proofs.YtdbijkgnddcneaaGreatDoor
