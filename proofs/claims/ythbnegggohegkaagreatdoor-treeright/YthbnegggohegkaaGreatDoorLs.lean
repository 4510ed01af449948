/-
  guiselaw2.still: a tree that was lent is as it was, and what stands behind its lists.
-/
import Derived.Test.YthbnegggohegkaaGreatDoorLtJ
namespace Go.Proofs.YthbnegggohegkaaGreatDoor
open Go.RowKit

theorem MT.AtL.getAt {ok : Nat → Prop} {w : World} {b : Nat} : ∀ {ts : List MT} {o : Nat}, MT.AtL ok w b o ts → ∀ (i : Nat) (h : i < ts.length), MT.At ok w ts[i]
  | [], _, _, i, h => by simp at h
  | t :: ts, o, hl, i, h => by
    rw [MT.AtL] at hl
    cases i with
    | zero => exact hl.2.1
    | succ i => exact MT.AtL.getAt hl.2.2 i (by simpa using h)
theorem MT.twinL_get : ∀ {xs ys : List MT}, MT.twinL xs ys → ∀ (i : Nat) (h1 : i < xs.length) (h2 : i < ys.length), MT.twin xs[i] ys[i]
  | [], _, _, i, h1, _ => by simp at h1
  | x :: xs, ys, h, i, h1, h2 => by
    rw [MT.twinL] at h
    obtain ⟨y, ys', rfl, hx, hl⟩ := h
    cases i with
    | zero => exact hx
    | succ i => exact MT.twinL_get hl i (by simpa using h1) (by simpa using h2)

set_option maxRecDepth 100000 in
set_option maxHeartbeats 4000000 in
theorem still_any (N : Nat) : ∀ (t t' : MT) (w : World), t.size ≤ N → MT.twin t t' → t'.AM (fun b => b < w.heap.size) w → t.In w.heap.size w →
    Calls Tryz.prog 15 #[nodeV t', nodeV t] w fun e w' => e = .returned (.bool true) ∧ Below w.heap.size w w' := by
  induction N with
  | zero => intro t t' w h; have := t.size_pos; omega
  | succ N ih =>
    intro t t' w hN htw hAM hb
    have HI : Hid _ := ih
    clear ih
    obtain ⟨hAt, hMk⟩ := hAM
    have ha : t'.In w.heap.size w := MT.At.toIn (fun b hb => hb) t' hAt
    obtain ⟨k, s, n, a, pb, cb, ksb⟩ := t
    obtain ⟨k1, s1, n1, a1, pa, ca, ksa⟩ := t'
    rw [MT.twin] at htw
    simp only [MT.kind_node, MT.text_node, MT.num_node, MT.at_node, MT.kids_node] at htw
    obtain ⟨rfl, rfl, rfl, rfl, htl⟩ := htw
    rw [MT.Mk] at hMk
    obtain ⟨⟨g, rfl, hg, rfl, m1, m2⟩, hMkL⟩ := hMk
    have hlen : ksa.length = ksb.length := MT.twinL_length htl
    have HT : Hid ((MT.node k1 s1 n1 a1 pb cb ksb).size ≤ N + 1) := hN
    have HAL : Hid (∀ i (h : i < ksa.length), (ksa[i]).AM (fun b => b < w.heap.size) w) := fun i h => by
      refine ⟨?_, MT.MkL.get hMkL _ (List.getElem_mem h)⟩
      rw [MT.At] at hAt
      obtain ⟨_, _, _, h4⟩ := hAt
      rcases h4 with h4 | ⟨b, o, hp, hlt, hl⟩
      · rw [h4] at h; simp at h
      · exact MT.AtL.getAt hl i h
    have HTW : Hid (MT.twinL ksb ksa) := htl
    have hca := ha.cap_le
    have hcb := hb.cap_le
    have hlb := hb.len_le
    unfold maxLen at hca hcb
    have ha1 := ha.kidsL
    have hb1 := hb.kidsL
    have HSZ : Hid (MT.sizeL ksb ≤ N) := by
      have h1 := MT.size_eq (MT.node k1 s1 n1 a1 pb cb ksb)
      rw [MT.kids_node] at h1
      show _ ≤ _; omega
    clear hN HT hAt hMkL htl ha hb
    have NA := BoxAt.new w (MT.node k1 s1 n1 a1 (some ⟨g, 0, none⟩) (ksa.length + 2) ksa)
    have NB := BoxAt.new (w.alloc (nodeO (MT.node k1 s1 n1 a1 (some ⟨g, 0, none⟩) (ksa.length + 2) ksa))) (MT.node k1 s1 n1 a1 pb cb ksb)
    have HB0 : Hid (Below w.heap.size w ((w.alloc (nodeO (MT.node k1 s1 n1 a1 (some ⟨g, 0, none⟩) (ksa.length + 2) ksa))).alloc (nodeO (MT.node k1 s1 n1 a1 pb cb ksb)))) := below2 w _ _
    have m1' : ((w.alloc (nodeO (MT.node k1 s1 n1 a1 (some ⟨g, 0, none⟩) (ksa.length + 2) ksa))).alloc (nodeO (MT.node k1 s1 n1 a1 pb cb ksb))).cell? ⟨g, ksa.length * 5, none⟩ = some (.int .i64 77) := (HB0.out.cell (p := ⟨g, ksa.length * 5, none⟩) hg).trans m1
    have m2' : ((w.alloc (nodeO (MT.node k1 s1 n1 a1 (some ⟨g, 0, none⟩) (ksa.length + 2) ksa))).alloc (nodeO (MT.node k1 s1 n1 a1 pb cb ksb))).cell? ⟨g, (ksa.length + 1) * 5, none⟩ = some (.int .i64 78) := (HB0.out.cell (p := ⟨g, (ksa.length + 1) * 5, none⟩) hg).trans m2
    skip
    have e1 : (k1 != k1) = false := by simp
    have e2 : (s1.toList == s1.toList) = true := by simp
    have e3 : (n1 != n1) = false := by simp
    have e5 : (a1 != a1) = false := by simp
    have e4 : ((ksa.length : Int) != ksb.length) = false := by simp [hlen]
    have HL : Hid (ksa.length = ksb.length) := hlen
    clear hlen
    simp only [nodeV, MT.kind_node, MT.text_node, MT.num_node, MT.at_node, MT.ptr_node, MT.cap_node, MT.kids_node] at *
    go_enter Tryz.func15, Tryz.ntmps15
    go_wp2_with fail
    clear e1 e2 e3 e4 e5 m1' m2'
    go_loopg [6, 7] ksa.length (fun gk i _ wr => ∃ j : Nat, gk + j = ksa.length ∧ i = .int .i64 j ∧ Below (w.heap.size + 2) ((w.alloc (nodeO (MT.node k1 s1 n1 a1 (some ⟨g, 0, none⟩) (ksa.length + 2) ksa))).alloc (nodeO (MT.node k1 s1 n1 a1 pb cb ksb))) wr)
    case atStart => exact ⟨0, rfl, rfl, Below.refl _ _⟩
    case round =>
      obtain ⟨j, hj, rfl, hbb⟩ := hrel
      have HG : Hid (gk + j = ksa.length) := hj
      clear hj
      have HB : Hid (Below w.heap.size w wr) := HB0.out.trans (hbb.mono (by omega))
      have hz := hbb.size
      simp only [World.size_alloc] at hz
      have k4 := ((NA.below (Nat.lt_succ_self _) ((Below.refl _ _).alloc (by simp) (nodeO (MT.node k1 s1 n1 a1 pb cb ksb)))).below (by omega : w.heap.size < w.heap.size + 2) hbb).k4
      have k4' := (NB.below (by simp : (w.alloc (nodeO (MT.node k1 s1 n1 a1 (some ⟨g, 0, none⟩) (ksa.length + 2) ksa))).heap.size < w.heap.size + 2) hbb).k4
      simp only [World.size_alloc, MT.ptr_node, MT.cap_node, MT.kids_node] at k4 k4'
      have HBB : Hid (Below (w.heap.size + 2) ((w.alloc (nodeO (MT.node k1 s1 n1 a1 (some ⟨g, 0, none⟩) (ksa.length + 2) ksa))).alloc (nodeO (MT.node k1 s1 n1 a1 pb cb ksb))) wr) := hbb
      clear hbb
      by_cases hlt : j < ksa.length
      · have hlt2 : j < ksb.length := HL.out ▸ hlt
        obtain ⟨b1, o1, hp1, hbB, hLa0⟩ := ha1.resolve_left (fun h => by rw [h] at hlt; simp at hlt)
        cases hp1
        obtain ⟨b2, o2, rfl, hbB2, hLb0⟩ := hb1.resolve_left (fun h => by rw [h] at hlt2; simp at hlt2)
        have hLa := MT.InL.below HB.out g 0 hbB ksa hLa0
        have hLb := MT.InL.below HB.out b2 o2 hbB2 ksb hLb0
        obtain ⟨hC, hI⟩ := hLa.get j hlt
        obtain ⟨hD, hJ⟩ := hLb.get j hlt2
        have HS : Hid (MT.sizeL (ksb.take (j + 1)) = MT.sizeL (ksb.take j) + (ksb[j]).size) := MT.sizeL_take_succ ksb j hlt2
        have HLE : Hid (MT.sizeL (ksb.take (j + 1)) ≤ MT.sizeL ksb) := MT.sizeL_take_le _ _
        have HTJ : Hid (MT.twin ksb[j] ksa[j]) := MT.twinL_get HTW.out j hlt2 hlt
        have HAJ : Hid ((ksa[j]).AM (fun b => b < w.heap.size) w) := HAL.out j hlt
        have hgw : g < wr.heap.size := by omega
        generalize ksa[j] = x at hC hI HTJ HAJ
        generalize ksb[j] = y at hD hJ HTJ HS
        obtain ⟨c0, c1, c2, c3, c4⟩ := hC
        obtain ⟨d0, d1, d2, d3, d4⟩ := hD
        clear hLa hLb hLa0 hLb0 ha1 hb1 NA NB HAL HTW
        have HC : Hid (∀ W, Below wr.heap.size wr W → Calls Tryz.prog 15 #[nodeV x, nodeV y] W fun e w' => e = .returned (.bool true) ∧ Below wr.heap.size wr w') := fun W hW =>
          (HI.out y x W (by have := HS.out; have := HLE.out; have := HSZ.out; omega) HTJ.out (MT.AM.keep (fun b hb => by have := hW.size; omega) (fun k o hk => ((HB.out.trans (hW.mono (by omega))).cell (p := ⟨k, o, none⟩) hk)) x HAJ.out) (MT.In.later hJ (by omega) hW)).mono
            fun _ _ ⟨h1, h3⟩ => ⟨h1, hW.trans (h3.mono hW.size)⟩
        clear HI hI hJ
        simp only [Nat.zero_add] at c0 c1 c2 c3 c4
        go_wp2_with fail
        go_region_with (go_at_call 15; refine (HC.out _ ?_).mono ?_; exact (Below.refl _ _).drew; rintro e w2 ⟨rfl, hb3⟩)
        all_goals clear c0 c1 c2 c3 c4 d0 d1 d2 d3 d4 k4 k4' HC
        all_goals go_wp2_with fail
        all_goals
          go_roundg (ksa.length - (j + 1))
          case measure => have := HG.out; omega
          case rel => exact ⟨j + 1, by omega, by go_num, HBB.out.trans (hb3.mono (by omega))⟩
      · clear HAL HTW
        go_wp2_with fail
        go_ret
        exact ⟨rfl, HB.out⟩
end Go.Proofs.YthbnegggohegkaaGreatDoor
