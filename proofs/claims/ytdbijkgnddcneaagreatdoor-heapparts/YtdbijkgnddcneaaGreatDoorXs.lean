/- . -/
import Derived.Test.YtdbijkgnddcneaaGreatDoorXr
import Derived.Sort.OwnSortedInts
import Derived.Maps.AppendAt
namespace Go.Proofs.YtdbijkgnddcneaaGreatDoor
open Go.RowKit Go.ChangeMaps Go.Sort
set_option maxRecDepth 100000
set_option maxHeartbeats 4000000
attribute [local go_sem] refold2 cell3_0 cell3_1 b28_0 b28_01 nz26 nz23
theorem len67 (w : World) (b : Nat) (vs : List Value) (_hl : vs.length < 1000) (ty : TypeId) (hb : w.heap[b]? = some (.map (tents 0 vs).toArray vs.length)) : (Builtin.len_ #[67] ty #[.map (some b)]).run Tryz.prog w = .ok (.int .i64 (vs.length : Int)) w := by
 simp [Builtin.len_, MapKept.run_getObj_map hb, tents_length, Result.andThen]
 rfl
theorem ownsRow_setB {w : World} {base : Nat} {e : TypeId} {size : Nat} {v : Value} {n : Nat} {xs : List Value} (h : w.ownsRow base e size v n xs) {r : Nat} {a : Option Nat} {b c : Nat} {s : Array Nat} (hr : w.heap[r]? = some (.mapIter a b s c)) (o : Obj) : (setBlock w r o).ownsRow base e size v n xs := by
 obtain ⟨h1, h2⟩ := h
 refine ⟨h1, ?_⟩
 rcases h2 with h2 | ⟨g, cap, cur, hv, hg, hh, q⟩
 ·exact .inl h2
 ·refine .inr ⟨g, cap, cur, hv, hg, ?_, q⟩
  rw [setBlock_other _ _ _ _ (fun e => by subst e; rw [hr] at hh; cases hh)]
  exact hh
def ThRel (w0 : World) (hb M : Nat) (vs : List Value) (r : Nat) (v : Value) (wr : World) : Prop := ∃ (k : Nat) (zs : List Int) (seen : Array Nat) (c0 : Nat), v ≠ .slice none 0 0 ∧ wr.heap[r]? = some (.mapIter (some M) vs.length seen c0) ∧ vs.length ≤ c0 ∧ HeapAt wr hb M vs ∧ wr.ownsRow w0.heap.size 3 1 v k (zs.map (Value.int .i64)) ∧ zs.length = k ∧ k + (leftOf (tents 0 vs).toArray seen).size = vs.length ∧ Below w0.heap.size w0 wr
theorem Things_any (hb M : Nat) (vs : List Value) (hl : vs.length < 1000) (w : World) (h : HeapAt w hb M vs) :
  Calls Tryz.prog 31 #[.pointer (some ⟨hb, 0, none⟩)] w fun r w' => (∃ p cap, r = .returned (.slice p vs.length cap)) ∧ Below w.heap.size w w' := by
 have hlen := fun ty => len67 w M vs hl ty h.map
 have cc := (cells_of h.box).1
 obtain ⟨i0, hi, hz0, hz1, hz2⟩ := info_parts info3z
 have hmk := run_make (P := Tryz.prog) w 22 3 i0 (.int .i64 0) Tryz.underlying22 hi hz0 .i64 .i64 0 (vs.length : Int) (by omega) (by omega) (by rw [hz2]; omega) (by omega)
 have hlt1 := hblk h.box
 have hlt2 := hblk h.map
 obtain ⟨Y, hY⟩ : ∃ Y, Y = madeCells (Value.int .i64 0).cells ((vs.length : Int).toNat * i0.size) := ⟨_, rfl⟩
 have hYs : Y.size = vs.length := by rw [hY, size_madeCells, hz1]; simp
 have hmk2 : (Instr.makeSlice 22 (.int .i64 0) (.int .i64 (vs.length : Int))).run Tryz.prog w = .ok (.slice (some ⟨w.heap.size, 0, none⟩) 0 vs.length) (w.alloc (.cells Y 3)) := by
  rw [← hY] at hmk
  simpa using hmk
 clear hmk hY
 have hh1 := h.below (below1 w (.cells Y 3))
 have hrg := run_range_map (P := Tryz.prog) (w.alloc (.cells Y 3)) 67 3 134 M _ _ und67 hh1.map
 have cc1 := (cells_of hh1.box).1
 have u0 := below1 w (.cells Y 3)
 have hown0 : (w.alloc (.cells Y 3)).ownsRow w.heap.size 3 1 (.slice (some ⟨w.heap.size, 0, none⟩) 0 vs.length) 0 [] := World.ownsRow_made _ _ _ (Nat.le_refl _) (by unfold maxLen; omega) (by omega)
 go_enter Tryz.func31, Tryz.ntmps31
 go_wp2_with fail
 obtain ⟨U0, hU0⟩ : ∃ W, W = w.alloc (.cells Y 3) := ⟨_, rfl⟩
 have HU0 : Hid (Below w.heap.size w U0 ∧ HeapAt U0 hb M vs ∧ U0.ownsRow w.heap.size 3 1 (.slice (some ⟨w.heap.size, 0, none⟩) 0 vs.length) 0 [] ∧ U0.heap.size = w.heap.size + 1) := by rw [hU0]; exact ⟨u0, hh1, hown0, by simp⟩
 rw [← hU0]
 clear hU0 u0 hh1 hown0 cc1 hrg hmk2 cc hlen
 have T0 : ThRel w hb M vs (w.heap.size + 1) (.slice (some ⟨w.heap.size, 0, none⟩) 0 vs.length) (U0.alloc (.mapIter (some M) vs.length #[] vs.length)) := by
  obtain ⟨q1, q2, q3, q4⟩ := HU0.out
  refine ⟨0, [], #[], vs.length, by simp, by rw [← q4]; exact heap_alloc_new _ _, Nat.le_refl _, q2.below (below1 _ _), q3.alloc _, rfl, ?_, q1.alloc (by omega) _⟩
  have e1 : leftOf (tents 0 vs).toArray #[] = (tents 0 vs).toArray := by unfold leftOf; simp
  rw [e1]; simp [tents_length]
 go_loopw [3] (fun v wr => ThRel w hb M vs (w.heap.size + 1) v wr) (fun _ wr => (leftOf (tents 0 vs).toArray (wr.iterSeen (w.heap.size + 1))).size)
 case atStart => exact T0
 case round =>
  clear T0
  obtain ⟨k, zs, seen, c0, hnn, hr, hsc, hH, hown, hzl, hsum, hbl⟩ := hrel
  have hold : ∀ x ∈ (tents 0 vs).toArray.toList, x.born < vs.length := fun x hx => by
   obtain ⟨_, _, h⟩ := tents_key 0 vs x (by simpa using hx)
   omega
  have hnd : ((tents 0 vs).toArray.toList.map (·.born)).Nodup := by rw [List.toList_toArray, tents_born]; exact List.nodup_range' (step := 1)
  have hseen : wr.iterSeen (w.heap.size + 1) = seen := by unfold World.iterSeen; rw [hr]
  have hrl := hblk hr
  rcases run_next_at (P := Tryz.prog) wr 0 (w.heap.size + 1) M vs.length c0 seen _ vs.length hr hH.map hold hsc with ⟨h0, hnx⟩ | ⟨e, he, w1, hw1, hnx⟩
  ·obtain rfl : k = vs.length := by omega
   rcases hown.2 with ⟨hnil, _⟩ | ⟨g, cap, cur, rfl, hbase, hbk, q1, q2, q3, q4⟩
   ·exact absurd hnil hnn
   have hHd : Holds (Value.int .i64) wr g 0 zs.toArray := holds_of_blockI hbk (by rw [hzl]; simpa using q4)
   have hS := slices_Sort_int g 0 cap zs wr hHd (hblk hbk) (by omega)
   rw [hzl] at hS
   have HS : Hid _ := hS
   clear hown hold hnd hseen hS
   go_wp2_with fail
   refine Calls.mono HS.out ?_
   rintro _ W3 ⟨rfl, nn, os, hW3⟩
   have hgr : wr.grownBy W3 (some g) := by rw [hW3]; exact grownBy_sortedI _
   have hb3 : Below w.heap.size w W3 := Below.grown hbl hgr hbl.size (fun j hj => by cases hj; exact hbase)
   clear hW3 hgr
   go_wp2_with fail
   go_ret
   exact ⟨⟨_, _, rfl⟩, hb3⟩
  ·obtain ⟨W2, hW2⟩ : ∃ W, W = setBlock w1 (w.heap.size + 1) (.mapIter (some M) vs.length (seen.push e.born) vs.length) := ⟨_, rfl⟩
   rw [← hW2] at hnx
   have hr1 : w1.heap[w.heap.size + 1]? = some (.mapIter (some M) vs.length seen c0) := by rcases hw1 with rfl | rfl <;> exact hr
   have hH1 : HeapAt w1 hb M vs := by rcases hw1 with rfl | rfl; exact hH; exact ⟨hH.box, hH.map, hH.ne⟩
   have hown1 : w1.ownsRow w.heap.size 3 1 u3 k (zs.map (Value.int .i64)) := by rcases hw1 with rfl | rfl; exact hown; exact hown
   have hbl1 : Below w.heap.size w w1 := by rcases hw1 with rfl | rfl; exact hbl; exact hbl.drew
   have k2 : Kp (· = w.heap.size + 1) w1 W2 := by rw [hW2]; exact Kp.setB _ _ _ rfl
   have hr2 : W2.heap[w.heap.size + 1]? = some (.mapIter (some M) vs.length (seen.push e.born) vs.length) := by rw [hW2]; exact setBlock_same _ _ _ (hblk hr1)
   have hown2 : W2.ownsRow w.heap.size 3 1 u3 k (zs.map (Value.int .i64)) := by rw [hW2]; exact ownsRow_setB hown1 hr1 _
   have hH2 : HeapAt W2 hb M vs := hH1.kp k2 (by omega) (by omega)
   have hbl2 : Below w.heap.size w W2 := hbl1.trans (k2.below hbl1.size fun i hi e => by omega)
   have hls := left_size _ _ _ hnd he
   have hmem : e ∈ tents 0 vs := by have := he; unfold leftOf at this; simp at this; exact this.1
   obtain ⟨n, hkey, _⟩ := tents_key 0 vs e hmem
   have hen := run_entry_at (P := Tryz.prog) W2 (w.heap.size + 1) M vs.length seen _ vs.length e hr2 hH2.map (by simpa using hmem) hnd
   rw [hkey] at hen hnx
   have HO : Hid (W2.ownsRow w.heap.size 3 1 u3 k (zs.map (Value.int .i64))) := hown2
   have hkl : k ≤ 1000 := by omega
   have y2 := hblk hr2
   clear hW2 hr1 hH1 hown1 hbl1 k2 hw1 hr hH hown hbl hold hmem hown2
   go_wp2_with (at_builtin; refine wpList_append_own _ rfl _ _ 22 rfl w.heap.size 3 i0 (.int .i64 0) 1 8 Tryz.underlying22 hi hz0 hz1 hz2 rfl (by decide) _ _ _ rfl (HO.out.alloc _) ⟨W2.heap.size, 0, none⟩ 1 1 [.int .i64 n] rfl rfl (cell_one_new _ _ _) (fun x hx => by simp at hx; subst hx; rfl) (by unfold maxLen; omega) (by omega) (by simp; have := hbl2.size; omega) ?_; intro v' w3 hown3 hgr3 hn3; have HB3 : Hid (Below w.heap.size w w3) := (Below.grown (hbl2.alloc hbl2.size _) hgr3 (by simp; have := hbl2.size; omega) (fun j hj => by have := (HO.out.lt _ hj).1; omega)); have HO3 : Hid (w3.ownsRow w.heap.size 3 1 v' (k + 1) ((zs ++ [n]).map (Value.int .i64))) := (by show World.ownsRow _ _ _ _ _ _ _; rw [List.map_append]; exact hown3); have HN3 : Hid (v' ≠ .slice none 0 0) := (fun hv => by have := (hn3.1 hv).2; omega); have HG3 : Hid ((W2.alloc (.cells #[.int .i64 n] 3)).grownBy w3 _) := hgr3; clear hown3 hgr3 hn3)
   have hne : some (w.heap.size + 1) ≠ u3.ownBlock := fun hq => by
    rcases HO.out.2 with ⟨hnil, _⟩ | ⟨g, cap, cur, rfl, hbase, hbk, _⟩
    ·rw [hnil] at hq; simp [Value.ownBlock] at hq
    ·simp only [Value.ownBlock, Option.some.injEq] at hq
     rw [← hq, hr2] at hbk
     cases hbk
   have old : ∀ b o, b < w.heap.size → W2.heap[b]? = some o → w3.heap[b]? = some o := fun b o hb2 ho => by
    refine (HG3.out.block b (by simp; have := hblk ho; omega) fun hq => ?_).trans ((Below.heap_alloc _ _ _ (hblk ho)).trans ho)
    have := (HO.out.lt b hq.symm).1
    omega
   have hr3 : w3.heap[w.heap.size + 1]? = some (.mapIter (some M) vs.length (seen.push e.born) vs.length) := (HG3.out.block _ (by simp; omega) hne).trans ((Below.heap_alloc _ _ _ y2).trans hr2)
   have hs3 : w3.iterSeen (w.heap.size + 1) = seen.push e.born := by unfold World.iterSeen; rw [hr3]
   refine ⟨⟨k + 1, zs ++ [n], seen.push e.born, vs.length, HN3.out, hr3, Nat.le_refl _, ⟨old _ _ hlt1 hH2.box, old _ _ hlt2 hH2.map, hH2.ne⟩, HO3.out, by simp; omega, by omega, HB3.out⟩, ?_⟩
   rw [hs3, hseen]
   omega
end Go.Proofs.YtdbijkgnddcneaaGreatDoor
