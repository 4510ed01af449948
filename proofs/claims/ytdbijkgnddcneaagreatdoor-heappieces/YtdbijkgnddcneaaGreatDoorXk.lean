/-
  .
-/
import Derived.Test.YtdbijkgnddcneaaGreatDoorXjJ
import Derived.Laws.CopyRow
namespace Go.Proofs.YtdbijkgnddcneaaGreatDoor
open Go.RowKit Go.ChangeMaps
set_option maxRecDepth 100000
set_option maxHeartbeats 4000000
attribute [local go_sem] refold2 cell3_0 cell3_1 b28_0 b28_01 nz26 nz23 b32_012 b32_015 b30_023 b30_0123 b30_0 b131_0
theorem rowOf_append : ∀ (a b : List MD), rowOf (a ++ b) = rowOf a ++ rowOf b
 | [], _ => rfl
 | x :: a, b => by show x.cells.toList ++ rowOf (a ++ b) = (x.cells.toList ++ rowOf a) ++ rowOf b; rw [rowOf_append a b, List.append_assoc]
theorem mk_zero (m : Nat) (hm : m ≤ 1048576) (W : World) : (Instr.makeSlice 27 (.int .i64 (m : Int)) (.int .i64 (m : Int))).run Tryz.prog W = .ok (.slice (some ⟨W.heap.size, 0, none⟩) m m) (W.alloc (.cells (rowOf (List.replicate m zeroD)).toArray 32)) := by
 obtain ⟨i0, hi, hz0, hz1, hz2⟩ := info_parts info32z
 have h := run_make (P := Tryz.prog) W 27 32 i0 (.agg #[.int .i64 0, .string ⟨#[]⟩, .int .i64 0, .int .u64 0, .string ⟨#[]⟩, .int .i64 0, .int .i64 0, .int .i64 0, .int .i64 0, .slice none 0 0, .slice none 0 0]) Tryz.underlying27 hi hz0 .i64 .i64 (m : Int) (m : Int) (by omega) (by omega) (by rw [hz2]; omega) (by omega)
 have e : madeCells (Value.agg #[.int .i64 0, .string ⟨#[]⟩, .int .i64 0, .int .u64 0, .string ⟨#[]⟩, .int .i64 0, .int .i64 0, .int .i64 0, .int .i64 0, .slice none 0 0, .slice none 0 0]).cells (((m : Nat) : Int).toNat * i0.size) = (rowOf (List.replicate m zeroD)).toArray := by
  have hc : (Value.agg #[.int .i64 0, .string ⟨#[]⟩, .int .i64 0, .int .u64 0, .string ⟨#[]⟩, .int .i64 0, .int .i64 0, .int .i64 0, .int .i64 0, .slice none 0 0, .slice none 0 0]).cells = zeroD.cells := by kernel_rfl
  rw [hc, hz1]
  apply Array.ext_getElem?
  intro j
  have er : (rowOf (List.replicate m zeroD)).toArray[j]? = (rowOf (List.replicate m zeroD))[j]? := by simp
  rw [er]
  by_cases hj : j < m * 11
  ·have e : j / 11 * 11 + j % 11 = j := by omega
   have hq : j / 11 < (List.replicate m zeroD).length := by simp; omega
   have hr : j % 11 < 11 := Nat.mod_lt _ (by omega)
   have h1 := rowOf_get (List.replicate m zeroD) (j / 11) hq (j % 11) hr
   rw [e, List.getElem_replicate] at h1
   rw [h1]
   unfold madeCells
   rw [Array.getElem?_map, Array.getElem?_range, if_pos (by simpa using hj)]
   show some (zeroD.cells[j % 11]!) = _
   have hr' : j % 11 < zeroD.cells.size := hr
   rw [getElem!_pos zeroD.cells (j % 11) hr', Array.getElem?_eq_getElem hr']
  ·rw [Array.getElem?_eq_none (by rw [size_madeCells]; simp; omega), List.getElem?_eq_none (by rw [rowOf_length]; simp; omega)]
 rw [e] at h
 simpa using h
theorem putL_list : ∀ (vs A B C : List Value), B.length = vs.length → putL (A ++ B ++ C).toArray A.length vs = (A ++ vs ++ C).toArray := by
 intro vs A B C h
 apply Array.ext_getElem?
 intro j
 by_cases h1 : A.length ≤ j ∧ j < A.length + vs.length
 ·have := putL_in vs A.length (A ++ B ++ C).toArray (j - A.length) (by omega) (by simp; omega)
  rw [show A.length + (j - A.length) = j by omega] at this
  rw [this, List.getElem?_toArray, List.append_assoc, List.getElem?_append_right (by omega), List.getElem?_append_left (by omega)]
 ·rw [putL_out _ _ _ _ (by omega), List.getElem?_toArray, List.getElem?_toArray]
  by_cases h2 : j < A.length
  ·rw [List.append_assoc, List.append_assoc, List.getElem?_append_left h2, List.getElem?_append_left h2]
  ·rw [List.getElem?_append_right (by simp; omega), List.getElem?_append_right (by simp; omega)]
   simp only [List.length_append, h]
theorem row_put {l k R : Nat} (ps as' : List MD) (hps : ps.length = l) (hks : as'.length = k) (hR : l + k ≤ R) : putL (rowOf (ps ++ List.replicate (R - l) zeroD)).toArray (l * 11) (rowOf as') = (rowOf (ps ++ as' ++ List.replicate (R - l - k) zeroD)).toArray := by
 have e : List.replicate (R - l) zeroD = List.replicate k zeroD ++ List.replicate (R - l - k) zeroD := by rw [List.replicate_append_replicate]; congr 1; omega
 rw [e, rowOf_append, rowOf_append, rowOf_append, rowOf_append, ← List.append_assoc]
 have := putL_list (rowOf as') (rowOf ps) (rowOf (List.replicate k zeroD)) (rowOf (List.replicate (R - l - k) zeroD)) (by rw [rowOf_length, rowOf_length, List.length_replicate, hks])
 rw [rowOf_length, hps] at this
 exact this
theorem run_copy_row11 (w : World) (ty : TypeId) (g dLen dCap : Nat) (a : Addr) (sLen sCap : Nat) (cur : Array Value) (cs : List Value) (hg : w.heap[g]? = some (.cells cur 32)) (hn : cs.length = sLen * 11) (hsd : sLen ≤ dLen)
  (hsrc : ∀ j v, cs[j]? = some v → w.cell? (a.add j) = some v) (hfit : cs.length ≤ cur.size) (h1 : ∀ v ∈ cs, v.oneCell' = true) :
  (Builtin.copy_ #[27, 27] ty #[.slice (some ⟨g, 0, none⟩) dLen dCap, .slice (some a) sLen sCap]).run Tryz.prog w = .ok (goInt sLen) (w.setRow g (cs ++ cur.toList.drop cs.length).toArray) := by
 have hl := run_loadCells_list (P := Tryz.prog) w a cs hsrc
 have hst := run_storeCells_at Tryz.prog g 0 32 cs 0 cur w hg (by simpa using hfit) h1
 obtain ⟨i0, hi, hz0, hz1, hz2⟩ := info_parts info32z
 have hm : min sLen dLen = sLen := Nat.min_eq_left hsd
 simp only [Nat.zero_add, List.take_zero, List.nil_append] at hst
 simp [Builtin.copy_, run_underlying Tryz.underlying27, Builtin.lenOf, Builtin.firstCells, sizeOf, typeInfo, hi, hz1, hm, ← hn, hl, hst]
theorem Append_grow (hb M : Nat) (vs : List Value) (hvs : vs.length < 1000) (m f l c k cap gs R : Nat) (pp : Option Addr) (ps as' : List MD) (t : ByteArray) (ht : t.size ≤ 60000) (hlk : c < l + k) (hlc : l ≤ c) (hc : c ≤ 1048576) (eR : max (2 * (c : Int)) ((l : Int) + k) = (R : Int)) (hR : R ≤ 1048576) (hps : ps.length = l) (hks : as'.length = k) (has : ∀ d ∈ as', FlatR d) (w : World) (hN : NamesAt w) (h : HeapAt w hb M vs) (HP0 : ∀ W, Below w.heap.size w W → Calls Tryz.prog 36 #[.pointer (some ⟨hb, 0, none⟩), .agg #[.int .i64 5, .string t, .int .i64 0, .int .u64 0, .string ⟨#[]⟩, .int .i64 ((m : Int) + 1), .int .i64 (f : Int), .int .i64 (l : Int), .int .i64 (c : Int), .slice none 0 0, .slice none 0 0]] W fun r w' => r = .returned (.tuple #[.slice pp l c, .bool true]) ∧ Below W.heap.size W w')
  (hgs : gs < w.heap.size) (hsrc : ∀ (i : Nat) (hi : i < as'.length), MD.CellsAt w gs (0 + i * 11) as'[i])
  (HC0 : ∀ W g, Below w.heap.size w W → w.heap.size ≤ g → W.heap[g]? = some (.cells (rowOf (List.replicate R zeroD)).toArray 32) → (Builtin.copy_ #[27, 27] 3 #[.slice (some ⟨g, 0, none⟩) R R, .slice pp l c]).run Tryz.prog W = .ok (goInt l) (W.setRow g (rowOf (ps ++ List.replicate (R - l) zeroD)).toArray)) :
  Calls Tryz.prog 14 #[.pointer (some ⟨hb, 0, none⟩), .agg #[.int .i64 5, .string t, .int .i64 0, .int .u64 0, .string ⟨#[]⟩, .int .i64 ((m : Int) + 1), .int .i64 (f : Int), .int .i64 (l : Int), .int .i64 (c : Int), .slice none 0 0, .slice none 0 0], .slice (some ⟨gs, 0, none⟩) k cap] w fun r w' => r = .returned (.tuple #[(leadD 5 t ((vs.length : Int) + 1) 0 (l + k : Nat) R).val, .nilIface]) ∧ ∃ ab g, HeapAt w' hb M (vs ++ [arrV ab]) ∧ w'.heap[ab]? = some (.cells #[.slice (some ⟨g, 0, none⟩) R R] 131) ∧ w'.heap[g]? = some (.cells (rowOf (ps ++ as' ++ List.replicate (R - l - k) zeroD)).toArray 32) ∧ Kp (fun b => b = hb ∨ b = M) w w' ∧ w.heap.size ≤ ab ∧ w.heap.size ≤ g := by
 have HP : Hid _ := HP0
 have HC : Hid _ := HC0
 have HA : Hid (∀ W, Below w.heap.size w W → Calls Tryz.prog 32 #[.slice (some ⟨gs, 0, none⟩) k cap] W fun r w' => r = .returned (.bool true) ∧ Below W.heap.size W w') := fun W hW => by
  have := allRight_flat gs 0 cap as' has (by omega) W (hN.kept hW) (Nat.lt_of_lt_of_le hgs hW.size) (fun i hi => (hsrc i hi).below hgs hW)
  rw [hks] at this
  exact this
 clear HP0 HC0
 have hlt1 := hblk h.box
 have hlt2 := hblk h.map
 have hRl : l + k ≤ R := by omega
 have hk1 : 1 ≤ k := by omega
 have e1 : ((l + k : Nat) : Int) = (l : Int) + k := by omega
 rw [e1]
 clear e1
 have i1 : ¬ (l : Int) + k ≤ c := by omega
 have i2 : ¬ (1048576 : Int) < R := by omega
 have hmk := mk_zero R hR
 have HE : Hid (max (2 * (c : Int)) ((l : Int) + k) = (R : Int)) := eR
 clear eR
 go_enter Tryz.func14, Tryz.ntmps14
 go_wp2_with fail
 obtain ⟨U0, hU0⟩ : ∃ W, W = (w.alloc (.cells #[.int .i64 5, .string t, .int .i64 0, .int .u64 0, .string ⟨#[]⟩, .int .i64 ((m : Int) + 1), .int .i64 (f : Int), .int .i64 (l : Int), .int .i64 (c : Int), .slice none 0 0, .slice none 0 0] 32)).alloc (.cells #[.int .i64 0, .string ⟨#[]⟩, .int .i64 0, .int .u64 0, .string ⟨#[]⟩, .int .i64 0, .int .i64 0, .int .i64 0, .int .i64 0, .slice none 0 0, .slice none 0 0] 32) := ⟨_, rfl⟩
 rw [← hU0]
 have u0 : Below w.heap.size w U0 := by rw [hU0]; exact below2 w _ _
 have y0 : w.heap.size + 1 < U0.heap.size := by rw [hU0]; simp
 have b0 : U0.heap[w.heap.size]? = some (.cells #[.int .i64 5, .string t, .int .i64 0, .int .u64 0, .string ⟨#[]⟩, .int .i64 ((m : Int) + 1), .int .i64 (f : Int), .int .i64 (l : Int), .int .i64 (c : Int), .slice none 0 0, .slice none 0 0] 32) := by rw [hU0, Below.heap_alloc _ _ _ (by simp)]; exact heap_alloc_new _ _
 have r0 : U0.heap[w.heap.size + 1]? = some (.cells #[.int .i64 0, .string ⟨#[]⟩, .int .i64 0, .int .u64 0, .string ⟨#[]⟩, .int .i64 0, .int .i64 0, .int .i64 0, .int .i64 0, .slice none 0 0, .slice none 0 0] 32) := by rw [hU0]; exact heap2_1 _ _ _
 clear hU0
 refine (HP.out _ u0).mono ?_
 rintro _ V1 ⟨rfl, c1⟩
 have u1 : Below w.heap.size w V1 := u0.trans (c1.mono u0.size)
 have b1 : V1.heap[w.heap.size]? = _ := (c1.block _ (by omega)).trans b0
 have r1 : V1.heap[w.heap.size + 1]? = _ := (c1.block _ (by omega)).trans r0
 have y1 : w.heap.size + 1 < V1.heap.size := Nat.lt_of_lt_of_le y0 c1.size
 clear c1 r0 b0 u0 y0
 go_wp2_with fail
 refine (HA.out _ u1).mono ?_
 rintro _ V2 ⟨rfl, c2⟩
 have u2 : Below w.heap.size w V2 := u1.trans (c2.mono u1.size)
 have b2 : V2.heap[w.heap.size]? = _ := (c2.block _ (by omega)).trans b1
 have r2 : V2.heap[w.heap.size + 1]? = _ := (c2.block _ (by omega)).trans r1
 have y2 : w.heap.size + 1 < V2.heap.size := Nat.lt_of_lt_of_le y1 c2.size
 clear c2 r1 b1 u1 y1
 have hE := HE.out
 go_wp2_with fail
 clear hE
 obtain ⟨G, hG⟩ : ∃ G, G = V2.heap.size := ⟨_, rfl⟩
 obtain ⟨U3, hU3⟩ : ∃ W, W = V2.alloc (.cells (rowOf (List.replicate R zeroD)).toArray 32) := ⟨_, rfl⟩
 have c3 : Below V2.heap.size V2 U3 := by rw [hU3]; exact below1 _ _
 have g3 : U3.heap[G]? = some (.cells (rowOf (List.replicate R zeroD)).toArray 32) := by rw [hU3, hG]; exact heap_alloc_new _ _
 have u3 : Below w.heap.size w U3 := u2.trans (c3.mono u2.size)
 have b3 : U3.heap[w.heap.size]? = _ := (c3.block _ (by omega)).trans b2
 have r3 : U3.heap[w.heap.size + 1]? = _ := (c3.block _ (by omega)).trans r2
 have hG2 : w.heap.size + 1 < G := by omega
 rw [← hU3, ← hG, HC.out U3 G u3 (by omega) g3]
 clear hU3 hG c3 b2 r2 y2 u2 HE
 obtain ⟨U4, hU4⟩ : ∃ W, W = U3.setRow G (rowOf (ps ++ List.replicate (R - l) zeroD)).toArray := ⟨_, rfl⟩
 rw [← hU4]
 have g4 : U4.heap[G]? = some (.cells (rowOf (ps ++ List.replicate (R - l) zeroD)).toArray 32) := by rw [hU4]; exact setRow_heap _ _ _ _ 32 (0, 0) g3
 have k4 : Kp (· = G) U3 U4 := by rw [hU4]; exact ⟨rfl, rfl, rfl, by simp, fun j _ hn => setRow_other _ _ _ _ hn⟩
 clear hU4
 have b4 : U4.heap[w.heap.size]? = _ := (k4.block _ (hblk b3) (by omega)).trans b3
 have r4 : U4.heap[w.heap.size + 1]? = _ := (k4.block _ (hblk r3) (by omega)).trans r3
 have u4 : Below w.heap.size w U4 := u3.trans (k4.below u3.size fun i hi e => by omega)
 clear g3 k4 b3 r3 u3
 have i3 : (l : Int) ≤ R := by omega
 have i4 : ¬ R = l := by omega
 go_wp2_with fail
 have hL := layCopies_flat G (l * 11) gs 0 (R - l) (R - l) cap _ as' (fun d hd => (has d hd).flat) (by omega) (by omega) U4 g4 (by rw [List.size_toArray, rowOf_length, List.length_append, List.length_replicate]; omega) (by omega) (Nat.lt_of_lt_of_le hgs u4.size) (fun i hi => (hsrc i hi).below hgs u4)
 rw [hks, row_put ps as' hps hks hRl] at hL
 refine hL.mono ?_
 rintro _ V5 ⟨rfl, g5, k5⟩
 have b5 : V5.heap[w.heap.size]? = _ := (k5.block _ (hblk b4) (by omega)).trans b4
 have r5 : V5.heap[w.heap.size + 1]? = _ := (k5.block _ (hblk r4) (by omega)).trans r4
 have u5 : Below w.heap.size w V5 := u4.trans (k5.below u4.size fun i hi e => by omega)
 have y5 := hblk g5
 clear hL k5 b4 r4 g4 u4
 have bc5 := (cells_of b5).1
 go_wp2_with fail
 refine (listOf_any hb M vs hvs t ht _ R hR _ _ (h.below u5)).mono ?_
 rintro _ V ⟨rfl, ab, h1, h2, h3, h4⟩
 have hr3 := (h3.block _ (hblk r5) (by omega)).trans r5
 have hg4 := (h3.block _ y5 (by omega)).trans g5
 have k1 : Kp (fun b => b = hb ∨ b = M) w V := (Kp.of u5).trans h3 fun _ _ e => e
 have y1 : w.heap.size + 2 ≤ ab := by omega
 clear r5 b5 g5 h3 u5 bc5
 obtain ⟨rc2, rf2⟩ := cells_of hr3
 simp only [leadD, MD.val, D, List.length_nil]
 go_wp2_with fail
 have kU8 := kp_eleven V (w.heap.size + 1) (.int .i64 5) (.string t) (.int .i64 0) (.int .u64 0) (.string ⟨#[]⟩) (.int .i64 ((vs.length : Int) + 1)) (.int .i64 0) (.int .i64 ((l : Int) + k)) (.int .i64 (R : Int)) (.slice none 0 0) (.slice none 0 0)
 have hrU8 := eleven_set hr3 (.int .i64 5) (.string t) (.int .i64 0) (.int .u64 0) (.string ⟨#[]⟩) (.int .i64 ((vs.length : Int) + 1)) (.int .i64 0) (.int .i64 ((l : Int) + k)) (.int .i64 (R : Int)) (.slice none 0 0) (.slice none 0 0)
 obtain ⟨U8, hU8⟩ : ∃ W, W = (((((((((((V.setCell ⟨w.heap.size + 1, 0, none⟩ (.int .i64 5)).setCell ⟨w.heap.size + 1, 1, none⟩ (.string t)).setCell ⟨w.heap.size + 1, 2, none⟩ (.int .i64 0)).setCell ⟨w.heap.size + 1, 3, none⟩ (.int .u64 0)).setCell ⟨w.heap.size + 1, 4, none⟩ (.string ⟨#[]⟩)).setCell ⟨w.heap.size + 1, 5, none⟩ (.int .i64 ((vs.length : Int) + 1))).setCell ⟨w.heap.size + 1, 6, none⟩ (.int .i64 0)).setCell ⟨w.heap.size + 1, 7, none⟩ (.int .i64 ((l : Int) + k))).setCell ⟨w.heap.size + 1, 8, none⟩ (.int .i64 (R : Int))).setCell ⟨w.heap.size + 1, 9, none⟩ (.slice none 0 0)).setCell ⟨w.heap.size + 1, 10, none⟩ (.slice none 0 0)) := ⟨_, rfl⟩
 rw [← hU8] at kU8 hrU8 ⊢
 clear hU8
 have rcU8 := (cells_of hrU8).1
 have y8 := kU8.size
 exact bodyPost_ret (v := .tuple #[(leadD 5 t ((vs.length : Int) + 1) 0 ((l : Int) + k) R).val, .nilIface]) (by simp [results, Tryz.results14, go_sem, rcU8, leadD, MD.val, D]) rfl ⟨rfl, ab, G, h1.kp kU8 (by omega) (by omega), (kU8.block _ (hblk h2) (by omega)).trans h2, (kU8.block _ (hblk hg4) (by omega)).trans hg4, k1.trans kU8 fun i hi e => by omega, by omega, by omega⟩
end Go.Proofs.YtdbijkgnddcneaaGreatDoor
