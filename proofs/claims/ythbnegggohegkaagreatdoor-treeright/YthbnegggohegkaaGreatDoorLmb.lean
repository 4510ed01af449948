/-
  The document's own answer for trees: the way of look through a node's Kids.
-/
import Derived.Test.YthbnegggohegkaaGreatDoorQoJ
namespace Go.Proofs.YthbnegggohegkaaGreatDoor
open Go.RowKit

set_option maxRecDepth 100000 in
set_option maxHeartbeats 8000000 in
theorem look_goodB (lb ah : Nat) (deep : Int) (k : Int) (s : ByteArray) (n a : Int) (p : Option Addr) (ks : List MT) (c st : Nat) (w : World) (hlb : lb < w.heap.size) (hrow : w.heap[lb]? = some (.cells (lkC (ah : Nat) 0 0 ⟨#[]⟩) 59 (0, 0))) (hin : (MT.node k s n a p c ks).In lb w) (lo hi mo : Int)
    (h43 : ∀ W, Below w.heap.size w W → Calls Tryz.prog 43 #[.agg (nd k s n a p ks.length c), .int .i64 (st : Nat)] W fun e w' => e = .returned (.bool true) ∧ Below W.heap.size W w')
    (h44 : ∀ W, Below w.heap.size w W → Calls Tryz.prog 44 #[.agg (nd k s n a p ks.length c), .int .i64 (st : Nat)] W fun e w' => e = .returned (.bool true) ∧ Below W.heap.size W w')
    (h45 : ∀ W, Below w.heap.size w W → Calls Tryz.prog 45 #[.agg (nd k s n a p ks.length c), .int .i64 (st : Nat)] W fun e w' => e = .returned (.tuple #[.int .i64 lo, .int .i64 hi]) ∧ Below W.heap.size W w')
    (h46 : ∀ W, Calls Tryz.prog 46 #[.int .i64 k] W fun e w' => e = .returned (.int .i64 mo) ∧ w' = W) (ss : Nat → Nat) (C : MT → Nat → Nat → Except (Nat × MT) Nat)
    (h48 : ∀ W j, Chk lb w W → j < ks.length → Calls Tryz.prog 48 #[.agg (nd k s n a p ks.length c), .int .i64 (j : Nat), .int .i64 (st : Nat)] W fun e w' => e = .returned (.int .i64 (ss j : Nat)) ∧ Below W.heap.size W w')
    (hle : ∀ kid r b cn, C kid r b = .ok cn → b ≤ 20000 → cn ≤ 20000)
    (hself : ∀ W kid j b, b ≤ 20000 → j < ks.length → kid.In lb W → lb < W.heap.size → W.heap[lb]? = some (.cells (lkC (b : Nat) 0 0 ⟨#[]⟩) 59 (0, 0)) → Calls Tryz.prog 29 #[.pointer (some ⟨lb, 0, none⟩), nodeV kid, .int .i64 (deep + 1), .int .i64 (ss j : Nat)] W (LookP lb W (C kid (ss j) b)))
    (hcode : ∀ kid r b code x, C kid r b = .error (code, x) → code ≠ 0)
    (h1 : ah < 20000) (h0 : 0 ≤ deep) (h2 : deep ≤ 60) (h3 : 1 ≤ k) (h4 : k ≤ 51) (h5 : lo ≤ ((ks.length : Nat) : Int)) (h6 : hi < 0) (h8 : 0 < mo) (h9 : ((ks.length : Nat) : Int) ≤ mo) :
    Calls Tryz.prog 29 #[.pointer (some ⟨lb, 0, none⟩), .agg (nd k s n a p ks.length c), .int .i64 deep, .int .i64 (st : Nat)] w (LookP lb w (chkK C ss 0 ks (ah + 1))) := by
  have hkids := hin.kidsL
  have hcap := hin.cap_le
  have hlc := hin.len_le
  unfold maxLen at hcap
  simp only [MT.ptr_node, MT.cap_node, MT.kids_node] at hkids hcap hlc
  have H48 : Hid _ := h48
  have HSF : Hid _ := hself
  have HCD : Hid _ := hcode
  have HLE : Hid _ := hle
  clear hin h48 hself hcode hle
  obtain ⟨R, hRd⟩ : ∃ R, R = chkK C ss 0 ks (ah + 1) := ⟨_, rfl⟩
  rw [← hRd]
  have HRR : Hid (R = chkK C ss 0 ks (ah + 1)) := hRd
  clear hRd
  have H43 : Hid _ := h43
  have H44 : Hid _ := h44
  have H45 : Hid _ := h45
  have H46 : Hid _ := h46
  clear h43 h44 h45 h46
  have hb0 := below1 w (.cells (nd k s n a p ks.length c) 24)
  have N0 := CellsOf.new w (nd k s n a p ks.length c) 24
  go_enter Tryz.func29, Tryz.ntmps29
  go_wp2_with fail
  refine (H43.out _ hb0).mono ?_
  rintro e w1 ⟨rfl, hb1⟩
  have hB1 : Below w.heap.size w w1 := hb0.trans (hb1.mono (by simp))
  have hz1 := hb1.size
  simp only [World.size_alloc] at hz1
  have N1 := N0.below (by simp) hb1
  have a0 := N1 0 _ rfl
  have a1 := N1 1 _ rfl
  have a2 := N1 2 _ rfl
  have a3 := N1 3 _ rfl
  have a4 := N1 4 _ rfl
  clear hb0 hb1 N0
  go_wp2_with fail
  refine (H44.out _ hB1).mono ?_
  rintro e w2 ⟨rfl, hb2⟩
  have hB2 : Below w.heap.size w w2 := hB1.trans (hb2.mono hB1.size)
  have hz2 := hb2.size
  have N2 := N1.below (by omega) hb2
  clear a0 a1 a2 a3 a4 hb2 N1 hB1
  have a0 := N2 0 _ rfl
  have a1 := N2 1 _ rfl
  have a2 := N2 2 _ rfl
  have a3 := N2 3 _ rfl
  have a4 := N2 4 _ rfl
  go_wp2_with fail
  refine (H45.out _ hB2).mono ?_
  rintro e w3 ⟨rfl, hb3⟩
  have hB3 : Below w.heap.size w w3 := hB2.trans (hb3.mono hB2.size)
  have hz3 := hb3.size
  have N3 := N2.below (by omega) hb3
  clear a0 a1 a2 a3 a4 hb3 N2 hB2
  have a0 := N3 0 _ rfl
  have a1 := N3 1 _ rfl
  have a2 := N3 2 _ rfl
  have a3 := N3 3 _ rfl
  have a4 := N3 4 _ rfl
  go_wp2_with fail
  refine (H46.out _).mono ?_
  rintro e w4 ⟨rfl, hw4⟩
  rw [hw4]
  clear hw4 w4
  have hrow3 := (hB3.block _ hlb).trans hrow
  obtain ⟨hcl, hfl⟩ := row_cells hrow3
  have l0 := hcl 0
  have l1 := hcl 1
  have l2 := hcl 2
  have l3 := hcl 3
  have f0 := hfl 0
  have f1 := hfl 1
  have f2 := hfl 2
  have f3 := hfl 3
  simp only [List.getElem?_toArray, List.getElem?_cons_zero, List.getElem?_cons_succ] at l0 l1 l2 l3
  clear hcl hfl
  have h1' : ¬ (20000 : Int) ≤ ((ah : Nat) : Int) := by omega
  have h2' : ¬ 60 < deep := by omega
  have h3' : ¬ k < 1 := by omega
  have h4' : ¬ 51 < k := by omega
  have h5' : ¬ ((ks.length : Nat) : Int) < lo := by omega
  have h6' : ¬ 0 ≤ hi := by omega
  have h9' : ¬ mo < ((ks.length : Nat) : Int) := by omega
  obtain ⟨W6, hW6⟩ : ∃ W6, W6 = w3.setCell ⟨lb, 0, none⟩ (.int .i64 (((ah : Nat) : Int) + 1)) := ⟨_, rfl⟩
  have hrow6 : W6.heap[lb]? = some (.cells (lkC ((ah + 1 : Nat) : Int) 0 0 ⟨#[]⟩) 59 (0, 0)) := by rw [hW6]; exact heap_set hrow3 0 _
  have hK6 : Chk lb w W6 := by rw [hW6]; exact (Chk.of hB3 (by omega)).trans (Chk.setAt lb 0 _ _)
  have hS6 : w3.heap.size ≤ W6.heap.size := by rw [hW6]; exact (Chk.setAt lb 0 w3 _).size
  have N6 : CellsOf W6 w.heap.size (nd k s n a p ks.length c) := by rw [hW6]; exact (Chk.setAt lb 0 _ _).cells N3 (by omega) (by omega)
  have e6 : w3.setCell ⟨lb, 0, none⟩ (.int .i64 (((ah : Nat) : Int) + 1)) = W6 := hW6.symm
  have hA0 : LkAt lb w (nd k s n a p ks.length c) (ah + 1) W6 := ⟨hrow6, hK6, N6, by omega, by omega⟩
  clear hrow6 hK6 N6 hW6 hrow3 hB3 N3 hS6 H43 H44 H45 H46
  go_wp2_with fail
  clear e6 l0 l1 l2 l3 f0 f1 f2 f3 a0 a1 a2 a3 a4
  go_loopg [13, 14] (ks.length + 1) (fun gk i _ wr => (∃ j b : Nat, gk = ks.length - j + 1 ∧ j ≤ ks.length ∧ i = .int .i64 j ∧ Hid (R = chkK C ss j (ks.drop j) b) ∧ LkAt lb w (nd k s n a p ks.length c) b wr) ∨ (∃ (j : Nat) (z : Int) (code : Nat) (x : MT), gk = ks.length - j ∧ j ≤ ks.length ∧ i = .int .i64 j ∧ Hid (R = .error (code, x)) ∧ code ≠ 0 ∧ Chk lb w wr ∧ CellsOf wr w.heap.size (nd k s n a p ks.length c) ∧ wr.heap[lb]? = some (.cells (lkC z (code : Nat) x.at_ (toldName x.text)) 59 (0, 0))))
  case atStart => exact .inl ⟨0, ah + 1, rfl, Nat.zero_le _, rfl, HRR.out, hA0⟩
  case round =>
    clear hA0
    rcases hrel with ⟨j, b, hj, hjl, rfl, hRj, hA⟩ | ⟨j, z, code, x, hj, hjl, rfl, HE, hcd, hK, hN, hrw⟩
    · have r0 := hA.node 0 _ rfl
      have r1 := hA.node 1 _ rfl
      have r2 := hA.node 2 _ rfl
      have r3 := hA.node 3 _ rfl
      have r4 := hA.node 4 _ rfl
      by_cases hlt : j < ks.length
      · obtain ⟨kb, ko, rfl, hbB, hL⟩ := hkids.resolve_left (fun h => by rw [h] at hlt; simp at hlt)
        have HRj : Hid (R = match C ks[j] (ss j) b with | .error e => .error e | .ok c => chkK C ss (j + 1) (ks.drop (j + 1)) c) := hRj.out.trans (chkK_drop _ _ _ _ _ hlt)
        have hbig := hA.big
        have d1 := (row_cells hA.row).1 1
        simp only [List.getElem?_toArray, List.getElem?_cons_zero, List.getElem?_cons_succ] at d1
        have HJ : Hid (gk = ks.length - j + 1) := hj
        have HLL : Hid (MT.InL lb w kb ko ks) := hL
        have H48j : Hid _ := H48.out wr j hA.chk hlt
        have hj62 : j < 9223372036854775807 := by omega
        have hlt' : ((j : Nat) : Int) < ((ks.length : Nat) : Int) := by omega
        clear hj hL hkids hRj HRR H48
        go_wp2_with fail
        refine Calls.mono H48j.out ?_
        rintro e w7 ⟨rfl, hb7⟩
        have hz7 := hb7.size
        have hA7 : LkAt lb w (nd k s n a (some ⟨kb, ko, none⟩) ks.length c) b w7 := ⟨(hb7.block _ (by omega)).trans hA.row, hA.chk.trans (Chk.of hb7 (by omega)), hA.node.below (by omega) hb7, by omega, hA.few⟩
        clear hA hb7 r0 r1 r2 r3 r4 d1 H48j
        have r4 := hA7.node 4 _ rfl
        obtain ⟨⟨c0, c1, c2, c3, c4⟩, hkin⟩ := (MT.InL.below hA7.chk.below kb ko hbB ks HLL.out).get j hlt
        have hbw : kb < w7.heap.size := by omega
        generalize ks[j] = kid at c0 c1 c2 c3 c4 hkin HRj
        have HCC : Hid (Calls Tryz.prog 29 #[.pointer (some ⟨lb, 0, none⟩), nodeV kid, .int .i64 (deep + 1), .int .i64 (ss j : Nat)] w7 (LookP lb w7 (C kid (ss j) b))) := HSF.out w7 kid j b hA7.few hlt hkin (by omega) hA7.row
        have HCO : Hid (∀ code x, C kid (ss j) b = .error (code, x) → code ≠ 0) := HCD.out kid (ss j) b
        have HLC : Hid (∀ cn, C kid (ss j) b = .ok cn → cn ≤ 20000) := fun cn h => HLE.out kid (ss j) b cn h hA7.few
        clear hkin HSF HCD HLL HLE
        generalize C kid (ss j) b = D at HCC HRj HCO HLC
        generalize ss j = sj at HCC
        go_wp2_with fail
        refine Calls.mono HCC.out ?_
        rintro e w8 ⟨⟨u, rfl⟩, hk8, hres⟩
        have hz8 := hk8.size
        have hN8 := hk8.cells hA7.node (by omega) (by omega)
        have hC8 := hA7.chk.trans hk8
        cases D with
        | error x =>
          obtain ⟨code, x⟩ := x
          obtain ⟨z, hrw⟩ := hres
          have HE : Hid (R = .error (code, x)) := HRj.out
          have HX : Hid (code ≠ 0 ∧ Chk lb w w8 ∧ CellsOf w8 w.heap.size (nd k s n a (some ⟨kb, ko, none⟩) ks.length c) ∧ w8.heap[lb]? = some (.cells (lkC z (code : Nat) x.at_ (toldName x.text)) 59 (0, 0))) := ⟨HCO.out code x rfl, hC8, hN8, hrw⟩
          clear hrw hk8 hA7 hN8 hC8 c0 c1 c2 c3 c4 r4 HCC HRj HCO HLC
          go_wp2_with fail
          go_roundg (ks.length - (j + 1))
          case measure => have := HJ.out; omega
          case rel => exact .inr ⟨j + 1, z, code, x, rfl, by omega, by go_num, HE.out, HX.out.1, HX.out.2.1, HX.out.2.2.1, HX.out.2.2.2⟩
        | ok cn =>
          have HN : Hid (R = chkK C ss (j + 1) (ks.drop (j + 1)) cn) := HRj.out
          have HA : Hid (LkAt lb w (nd k s n a (some ⟨kb, ko, none⟩) ks.length c) cn w8) := ⟨hres, hC8, hN8, by omega, HLC.out cn rfl⟩
          clear hres hk8 hA7 hN8 hC8 c0 c1 c2 c3 c4 r4 HCC HRj HCO HLC
          go_wp2_with fail
          go_roundg (ks.length - (j + 1) + 1)
          case measure => have := HJ.out; omega
          case rel => exact .inl ⟨j + 1, cn, rfl, by omega, by go_num, HN.out, HA.out⟩
      · have HN : Hid (R = .ok b) := by
          have := hRj.out
          rwa [List.drop_of_length_le (by omega), chkK] at this
        have HP : Hid (Chk lb w wr ∧ wr.heap[lb]? = some (.cells (lkC (b : Nat) 0 0 ⟨#[]⟩) 59 (0, 0))) := ⟨hA.chk, hA.row⟩
        have hlt' : ¬ ((j : Nat) : Int) < ((ks.length : Nat) : Int) := by omega
        clear hkids hRj HRR hj hA H48 HSF HCD HLE
        go_wp2_with fail
        refine bodyPost_end (v := .tuple #[]) (results_none rfl _ _ _) rfl ⟨⟨_, rfl⟩, HP.out.1, ?_⟩
        rw [HN.out]; exact HP.out.2
    · have r4 := hN 4 _ rfl
      have d1 := (row_cells hrw).1 1
      simp only [List.getElem?_toArray, List.getElem?_cons_zero, List.getElem?_cons_succ] at d1
      have hcd' : (((code : Nat) : Int) == 0) = false := by simp; omega
      have HP : Hid (Chk lb w wr ∧ wr.heap[lb]? = some (.cells (lkC z (code : Nat) x.at_ (toldName x.text)) 59 (0, 0))) := ⟨hK, hrw⟩
      clear hkids HRR hj hK hN hrw H48 HSF HCD HLE
      by_cases hlt : j < ks.length
      · have hlt' : ((j : Nat) : Int) < ((ks.length : Nat) : Int) := by omega
        go_wp2_with fail
        refine bodyPost_end (v := .tuple #[]) (results_none rfl _ _ _) rfl ⟨⟨_, rfl⟩, HP.out.1, ?_⟩
        rw [HE.out]; exact ⟨z, HP.out.2⟩
      · have hlt' : ¬ ((j : Nat) : Int) < ((ks.length : Nat) : Int) := by omega
        go_wp2_with fail
        refine bodyPost_end (v := .tuple #[]) (results_none rfl _ _ _) rfl ⟨⟨_, rfl⟩, HP.out.1, ?_⟩
        rw [HE.out]; exact ⟨z, HP.out.2⟩
end Go.Proofs.YthbnegggohegkaaGreatDoor
