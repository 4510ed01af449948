/-
  What holds between two rounds of tree.Same, and at its start.
  The walk of tree.Same, at every two trees.
-/
import Derived.Test.YthbnegggohegkaaGreatDoorAkJ
import Derived.Deep.LoopGhost
import Derived.Deep.DeepCutAuto
namespace Go.Proofs.YthbnegggohegkaaGreatDoor
open Go.RowKit

theorem BoxAt.first (w : World) (x y : MT) : BoxAt (((w.alloc (nodeO x)).alloc (nodeO y)).drew) w.heap.size x ∧ BoxAt (((w.alloc (nodeO x)).alloc (nodeO y)).drew) (w.heap.size + 1) y :=
  ⟨⟨by simp, by simp, by simp, by simp, by simp⟩, ⟨by simp, by simp, by simp, by simp, by simp⟩⟩

theorem own_below {w w' : World} {base e size n : Nat} {v : Value} {xs : List Value} (h : w.ownsRow base e size v n xs) (hb : Below w.heap.size w w') : w'.ownsRow base e size v n xs := by
  refine ⟨h.1, ?_⟩
  rcases h.2 with hn | ⟨g, cap, cur, rfl, hg, hgg, rest⟩
  · exact .inl hn
  · exact .inr ⟨g, cap, cur, rfl, hg, (hb.block g (Array.getElem?_eq_some_iff.1 hgg).1).trans hgg, rest⟩

theorem info71 : (Tryz.prog.info? 71).map (fun i => (i.zero, i.size, i.bytes)) = some (some (.agg #[.slice none 0 0, .slice none 0 0]), 2, 48) := by kernel_rfl

theorem two_new (w : World) (a b : Value) (t : TypeId) : ∀ j u, [a, b][j]? = some u → (w.alloc (.cells #[a, b] t)).cell? ((⟨w.heap.size, 0, none⟩ : Addr).add j) = some u := by
  intro j u hj
  match j, hj with
  | 0, hj => simp at hj; subst hj; simp [Addr.add]
  | 1, hj => simp at hj; subst hj; simp [Addr.add]
  | j + 2, hj => simp at hj

/-- What holds between two rounds of tree.Same. -/
structure SmInv (a b : MT) (B : Nat) (W0 : World) (fs : List Fr) (seen : Nat) (v : Value) (wr : World) : Prop where
  own : wr.ownsRow B 71 2 v fs.length (flat fs)
  some_ : ∃ g cap, v = .slice (some ⟨g, 0, none⟩) fs.length cap
  rows : ∀ f ∈ fs, f.In B wr
  seen_le : seen ≤ 1000000
  few : fs.length ≤ seen + 1
  says : MT.same a b = (okAll fs && decide (seen + total fs ≤ 1000000))
  below : Below B W0 wr

set_option maxHeartbeats 1000000 in
theorem start17 (a b : MT) (w : World) (ha : a.In w.heap.size w) (hb : b.In w.heap.size w) :
    SmInv a b (w.heap.size + 4) ((((w.alloc (nodeO a)).alloc (nodeO b)).alloc (nodeO a)).alloc (nodeO b)) [⟨some ⟨w.heap.size + 2, 0, none⟩, 1, [a], some ⟨w.heap.size + 3, 0, none⟩, 1, [b]⟩] 0 (.slice (some ⟨w.heap.size + 4, 0, none⟩) 1 1)
      (((((w.alloc (nodeO a)).alloc (nodeO b)).alloc (nodeO a)).alloc (nodeO b)).alloc (.cells #[.slice (some ⟨w.heap.size + 2, 0, none⟩) 1 1, .slice (some ⟨w.heap.size + 3, 0, none⟩) 1 1] 71)) := by
  have hB4 : Below w.heap.size w ((((w.alloc (nodeO a)).alloc (nodeO b)).alloc (nodeO a)).alloc (nodeO b)) := ((((Below.refl _ _).alloc (Nat.le_refl _) _).alloc (by simp) _).alloc (by simp; omega) _).alloc (by simp; omega) _
  have hz : ((((w.alloc (nodeO a)).alloc (nodeO b)).alloc (nodeO a)).alloc (nodeO b)).heap.size = w.heap.size + 4 := by simp
  have hc2 : MT.CellsAt ((((w.alloc (nodeO a)).alloc (nodeO b)).alloc (nodeO a)).alloc (nodeO b)) (w.heap.size + 2) 0 a := by
    have h1 := (BoxAt.new ((w.alloc (nodeO a)).alloc (nodeO b)) a).below (B := w.heap.size + 3) (by simp) ((Below.refl _ _).alloc (by simp) (nodeO b))
    simp only [World.size_alloc] at h1
    exact ⟨h1.k0, h1.k1, h1.k2, h1.k3, h1.k4⟩
  have hc3 : MT.CellsAt ((((w.alloc (nodeO a)).alloc (nodeO b)).alloc (nodeO a)).alloc (nodeO b)) (w.heap.size + 3) 0 b := by
    have h1 := BoxAt.new (((w.alloc (nodeO a)).alloc (nodeO b)).alloc (nodeO a)) b
    simp only [World.size_alloc] at h1
    exact ⟨h1.k0, h1.k1, h1.k2, h1.k3, h1.k4⟩
  generalize ((((w.alloc (nodeO a)).alloc (nodeO b)).alloc (nodeO a)).alloc (nodeO b)) = W4 at *
  have hb5 : Below (w.heap.size + 4) W4 (W4.alloc (.cells #[.slice (some ⟨w.heap.size + 2, 0, none⟩) 1 1, .slice (some ⟨w.heap.size + 3, 0, none⟩) 1 1] 71)) := (Below.refl _ _).alloc (by omega) _
  have ha' := MT.In.mono (Nat.le_add_right _ 4) a (MT.In.below (hB4.trans (hb5.mono (by omega))) a ha)
  have hb' := MT.In.mono (Nat.le_add_right _ 4) b (MT.In.below (hB4.trans (hb5.mono (by omega))) b hb)
  refine ⟨⟨rfl, .inr ⟨w.heap.size + 4, 1, #[.slice (some ⟨w.heap.size + 2, 0, none⟩) 1 1, .slice (some ⟨w.heap.size + 3, 0, none⟩) 1 1], rfl, Nat.le_refl _, ?_, Nat.le_refl _, by unfold maxLen; omega, rfl, rfl⟩⟩, ⟨_, _, rfl⟩, ?_, by omega, by simp, ?_, hb5⟩
  · rw [← hz]; exact heap_alloc_new W4 _
  · intro f hf
    simp only [List.mem_cons, List.not_mem_nil, or_false] at hf
    subst hf
    refine ⟨⟨Nat.le_refl _, by unfold maxLen; simp only; omega, .inr ⟨w.heap.size + 2, 0, rfl, by omega, ?_⟩⟩, ⟨Nat.le_refl _, by unfold maxLen; simp only; omega, .inr ⟨w.heap.size + 3, 0, rfl, by omega, ?_⟩⟩, rfl⟩
    · rw [MT.InL]
      exact ⟨hc2.below (by omega) hb5, ha', by rw [MT.InL]; trivial⟩
    · rw [MT.InL]
      exact ⟨hc3.below (by omega) hb5, hb', by rw [MT.InL]; trivial⟩
  · have h1 : total [Fr.mk (some ⟨w.heap.size + 2, 0, none⟩) 1 [a] (some ⟨w.heap.size + 3, 0, none⟩) 1 [b]] = a.size := by simp [total, MT.sizeL]
    have h2 : okAll [Fr.mk (some ⟨w.heap.size + 2, 0, none⟩) 1 [a] (some ⟨w.heap.size + 3, 0, none⟩) 1 [b]] = MT.alike a b := by simp [okAll, MT.alikeL]
    rw [h1, h2, MT.same, Bool.and_comm, Nat.zero_add]

end Go.Proofs.YthbnegggohegkaaGreatDoor
namespace Go.Proofs.YthbnegggohegkaaGreatDoor
open Go.RowKit

set_option maxRecDepth 100000 in
set_option maxHeartbeats 2000000 in
theorem same_any (a b : MT) (w : World) (ha : a.In w.heap.size w) (hb : b.In w.heap.size w) :
    Calls Tryz.prog 17 #[nodeV a, nodeV b] w fun e w' => ∃ r : Bool, e = .returned (.bool r) ∧ Hid (r = MT.same a b) ∧ Below w.heap.size w w' := by
  have hB4 : Below w.heap.size w ((((w.alloc (nodeO a)).alloc (nodeO b)).alloc (nodeO a)).alloc (nodeO b)) := ((((Below.refl _ _).alloc (Nat.le_refl _) _).alloc (by simp) _).alloc (by simp; omega) _).alloc (by simp; omega) _
  have hI0 := start17 a b w ha hb
  go_enter Tryz.func17, Tryz.ntmps17
  go_wp2_with fail
  go_loopg [5, 6] (2 * a.size + 1) (fun gk v n wr => ∃ (fs : List Fr) (seen : Nat), gk = 2 * total fs + fs.length ∧ n = .int .i64 seen ∧ SmInv a b (w.heap.size + 4) ((((w.alloc (nodeO a)).alloc (nodeO b)).alloc (nodeO a)).alloc (nodeO b)) fs seen v wr)
  case atStart => exact ⟨_, 0, by simp [total, MT.sizeL], rfl, hI0⟩
  case round =>
    obtain ⟨fs, seen, hgk, rfl, hI⟩ := hrel
    clear hI0
    rcases two_cases fs with rfl | ⟨gs, f, rfl⟩
    · obtain ⟨g, cap, rfl⟩ := hI.some_
      go_wp2_with fail
      go_ret
      refine ⟨true, rfl, ?_, hB4.trans (hI.below.mono (by omega))⟩
      have h1 := hI.says; have h2 := hI.seen_le
      show _ = _
      rw [h1]
      show true = (true && decide (seen + 0 ≤ 1000000))
      rw [decide_eq_true (by omega)]; rfl
    · obtain ⟨g, cap, rfl⟩ := hI.some_
      have hown := hI.own
      obtain ⟨hfa, hfb, hfl⟩ := hI.rows f (by simp)
      have hln : (gs ++ [f]).length = gs.length + 1 := by simp
      rw [hln] at hown
      rw [hln]
      have t0 := (own_cell hown (gs.length * 2) (.slice f.p f.xs.length f.c) (by rw [flat_append, List.getElem?_append_right (by rw [flat_length]; omega), flat_length, flat_one]; simp [Fr.cells]))
      have t1 := (own_cell hown (gs.length * 2 + 1) (.slice f.q f.ys.length f.d) (by rw [flat_append, List.getElem?_append_right (by rw [flat_length]; omega), flat_length, flat_one, show gs.length * 2 + 1 - gs.length * 2 = 1 by omega]; simp [Fr.cells]))
      obtain ⟨hcapl, hgl, hgb⟩ : gs.length + 1 ≤ cap ∧ g < wr.heap.size ∧ w.heap.size + 4 ≤ g := by
        rcases hown.2 with ⟨h0, _⟩ | ⟨g', cap', cur, hv, hgb, hg, hn, _⟩
        · cases h0
        · cases hv; exact ⟨hn, (Array.getElem?_eq_some_iff.1 hg).1, hgb⟩
      have hz := hI.below.size
      simp only [World.size_alloc] at hz
      obtain ⟨t0, f0⟩ := t0
      obtain ⟨t1, f1⟩ := t1
      have hfew : gs.length ≤ 1000001 := by have := hI.few; have := hI.seen_le; rw [hln] at *; omega
      have HI : Hid (SmInv a b (w.heap.size + 4) ((((w.alloc (nodeO a)).alloc (nodeO b)).alloc (nodeO a)).alloc (nodeO b)) (gs ++ [f]) seen (.slice (some ⟨g, 0, none⟩) (gs ++ [f]).length cap) wr) := hI
      have HG : Hid (gk = 2 * total (gs ++ [f]) + (gs ++ [f]).length) := hgk
      have HW : Hid (wr.ownsRow (w.heap.size + 4) 71 2 (.slice (some ⟨g, 0, none⟩) (gs.length + 1) cap) (gs.length + 1) (flat (gs ++ [f]))) := hown
      have HB : Hid (Below w.heap.size w wr) := hB4.trans (hI.below.mono (by omega))
      have hsl := hI.seen_le
      clear hI hgk hown hln hB4 ha hb
      obtain ⟨p, c, xs, q, d, ys⟩ := f
      simp only at t0 t1 hfa hfb hfl
      cases xs with
      | nil =>
        cases ys with
        | cons y ys => simp at hfl
        | nil =>
          clear hfl
          go_wp2_with fail
          go_roundg (2 * total gs + gs.length)
          case measure => have := HG.out; rw [total_append] at this; simp [total] at this; omega
          case rel =>
            have hI := HI.out
            refine ⟨gs, seen, rfl, rfl, ⟨?_, ⟨g, cap, rfl⟩, fun f hf => hI.rows f (by simp [hf]), hsl, by have := hI.few; simp at this; omega, ?_, hI.below⟩⟩
            · have := own_cut HW.out gs.length (by omega)
              rwa [flat_append, List.take_left' (flat_length gs)] at this
            · rw [hI.says, okAll_append, total_append]; simp [okAll, total, MT.alikeL_nil, MT.sizeL]; rfl
      | cons x xs =>
        cases ys with
        | nil => simp at hfl
        | cons y ys =>
          have hfl' : xs.length = ys.length := by simpa using hfl
          clear hfl
          obtain ⟨hl1, hm1, hr1⟩ := hfa
          obtain ⟨hl2, hm2, hr2⟩ := hfb
          obtain ⟨b1, o1, rfl, hb1, hL1⟩ := hr1.resolve_left (by simp)
          obtain ⟨b2, o2, rfl, hb2, hL2⟩ := hr2.resolve_left (by simp)
          clear hr1 hr2
          rw [MT.InL] at hL1 hL2
          obtain ⟨⟨c0, c1, c2, c3, c4⟩, hx, hLx⟩ := hL1
          obtain ⟨⟨d0, d1, d2, d3, d4⟩, hy, hLy⟩ := hL2
          have HF : Hid (xs.length = ys.length) := hfl'
          clear hfl'
          simp only [List.length_cons] at t0 t1 hl1 hl2
          unfold maxLen at hm1 hm2
          have hb1' : b1 < wr.heap.size := by omega
          have hb2' : b2 < wr.heap.size := by omega
          go_wp2_with fail
          go_cut [8, 9] (fun u v W => ∃ B8 B9 : Nat, u = .pointer (some ⟨B8, 0, none⟩) ∧ v = .pointer (some ⟨B9, 0, none⟩) ∧ BoxAt W B8 x ∧ BoxAt W B9 y ∧ wr.heap.size ≤ B8 ∧ wr.heap.size ≤ B9 ∧ B8 < W.heap.size ∧ B9 < W.heap.size ∧ Below wr.heap.size wr W)
          case first =>
            go_region
            · go_wp2_with fail
              go_meet
              exact ⟨_, _, rfl, rfl, (BoxAt.first wr x y).1, (BoxAt.first wr x y).2, by simp, by simp, by simp <;> omega, by simp <;> omega, (((Below.refl _ _).alloc (Nat.le_refl _) _).alloc (by simp) _).drew⟩
            · go_wp2_with fail
              go_meet
              exact ⟨_, _, rfl, rfl, (BoxAt.first wr y x).2, (BoxAt.first wr y x).1, by simp, by simp, by simp <;> omega, by simp <;> omega, (((Below.refl _ _).alloc (Nat.le_refl _) _).alloc (by simp) _).drew⟩
          case rest =>
            obtain ⟨B8, B9, rfl, rfl, h8, h9, hg8, hg9, hl8, hl9, hbc⟩ := hcut
            have hzc := hbc.size
            have t0' := (hbc.cell (p := ⟨g, gs.length * 2, none⟩) hgl).trans t0
            have t1' := (hbc.cell (p := ⟨g, gs.length * 2 + 1, none⟩) hgl).trans t1
            have f0' := (hbc.frozen (p := ⟨g, gs.length * 2, none⟩) hgl).trans f0
            have f1' := (hbc.frozen (p := ⟨g, gs.length * 2 + 1, none⟩) hgl).trans f1
            clear t0 t1 f0 f1 c0 c1 c2 c3 c4 d0 d1 d2 d3 d4
            have H8 : Hid (BoxAt wc B8 x) := h8
            have H9 : Hid (BoxAt wc B9 y) := h9
            obtain ⟨c0, c1, c2, c3, c4⟩ := h8
            obtain ⟨d0, d1, d2, d3, d4⟩ := h9
            have HBC : Hid (Below wr.heap.size wr wc) := hbc
            clear hbc
            by_cases hs : seen + 1 ≤ 1000000
            · have g9 : decide ((1000000 : Int) < (seen : Int) + 1) = false := by simp; omega
              go_wp2_with fail
              refine (alike_any x y _).mono ?_
              rintro e w2 ⟨r, rfl, hr, hb2⟩
              cases r
              · go_wp2_with fail
                go_ret
                refine ⟨false, rfl, ?_, HB.out.trans ((HBC.out.trans (hb2.mono hzc)).mono (by omega))⟩
                show _ = _
                rw [HI.out.says, okAll_append]
                have h1 : MT.alikeL (x :: xs) (y :: ys) = false := by rw [MT.alikeL, MT.alike_eq, ← hr.out]; rfl
                simp [okAll, h1]
              · have hz2 := hb2.size
                have t0 := (hb2.cell (p := ⟨g, gs.length * 2, none⟩) (by show g < _; omega)).trans t0'
                have t1 := (hb2.cell (p := ⟨g, gs.length * 2 + 1, none⟩) (by show g < _; omega)).trans t1'
                have f0 := (hb2.frozen (p := ⟨g, gs.length * 2, none⟩) (by show g < _; omega)).trans f0'
                have f1 := (hb2.frozen (p := ⟨g, gs.length * 2 + 1, none⟩) (by show g < _; omega)).trans f1'
                have h8 := (H8.out.below hl8 hb2).k4
                have h9 := (H9.out.below hl9 hb2).k4
                have HB2 : Hid (Below wr.heap.size wr w2) := HBC.out.trans (hb2.mono hzc)
                clear t0' t1' f0' f1' c0 c1 c2 c3 c4 d0 d1 d2 d3 d4 hb2 H8 H9 HBC g9
                go_wp2_with fail
                go_region
                obtain ⟨p1, hp1⟩ : ∃ p1, (if c = 1 then some (⟨b1, o1, none⟩ : Addr) else some ⟨b1, o1 + 5, none⟩) = p1 := ⟨_, rfl⟩
                obtain ⟨p2, hp2⟩ : ∃ p2, (if d = 1 then some (⟨b2, o2, none⟩ : Addr) else some ⟨b2, o2 + 5, none⟩) = p2 := ⟨_, rfl⟩
                rw [hp1, hp2]
                have HP1 : Hid (xs = [] ∨ p1 = some ⟨b1, o1 + 5, none⟩) := by
                  cases xs with
                  | nil => exact .inl rfl
                  | cons x' xs' => exact .inr (by rw [← hp1, if_neg (by simp at hl1; omega)])
                have HP2 : Hid (ys = [] ∨ p2 = some ⟨b2, o2 + 5, none⟩) := by
                  cases ys with
                  | nil => exact .inl rfl
                  | cons x' xs' => exact .inr (by rw [← hp2, if_neg (by simp at hl2; omega)])
                clear hp1 hp2
                obtain ⟨i0, hi, hz0, hz1, hz2'⟩ := info_parts info71
                have hown : (((w2.setCell ⟨g, gs.length * 2, none⟩ (.slice p1 xs.length (c - 1))).setCell ⟨g, gs.length * 2 + 1, none⟩ (.slice p2 ys.length (d - 1))).drew).ownsRow (w.heap.size + 4) 71 2 (.slice (some ⟨g, 0, none⟩) (gs.length + 1) cap) (gs.length + 1) (flat (gs ++ [⟨p1, c - 1, xs, p2, d - 1, ys⟩])) := by
                  have h1 := own_set (own_set (own_below HW.out HB2.out) (gs.length * 2) (.slice p1 xs.length (c - 1))) (gs.length * 2 + 1) (.slice p2 ys.length (d - 1))
                  rw [flat_append, flat_one, List.set_append_right _ _ (by rw [flat_length]; omega), List.set_append_right _ _ (by rw [flat_length]; omega), flat_length, show gs.length * 2 + 1 - gs.length * 2 = 1 by omega, Nat.sub_self] at h1
                  rw [flat_append, flat_one]
                  exact h1
                have hbw : Below (w.heap.size + 4) wr (((w2.setCell ⟨g, gs.length * 2, none⟩ (.slice p1 xs.length (c - 1))).setCell ⟨g, gs.length * 2 + 1, none⟩ (.slice p2 ys.length (d - 1))).drew) :=
                  (((HB2.out.mono hz).setCell (p := ⟨g, gs.length * 2, none⟩) hgb _).setCell (p := ⟨g, gs.length * 2 + 1, none⟩) hgb _).drew
                have hsz : w2.heap.size ≤ (((w2.setCell ⟨g, gs.length * 2, none⟩ (.slice p1 xs.length (c - 1))).setCell ⟨g, gs.length * 2 + 1, none⟩ (.slice p2 ys.length (d - 1))).drew).heap.size := by simp
                have h8' : (((w2.setCell ⟨g, gs.length * 2, none⟩ (.slice p1 xs.length (c - 1))).setCell ⟨g, gs.length * 2 + 1, none⟩ (.slice p2 ys.length (d - 1))).drew).cell? ⟨B8, 4, none⟩ = some (.slice x.ptr x.kids.length x.cap) := (cell_two_sets w2 g B8 _ _ 4 _ _ (by omega)).trans h8
                have h9' : (((w2.setCell ⟨g, gs.length * 2, none⟩ (.slice p1 xs.length (c - 1))).setCell ⟨g, gs.length * 2 + 1, none⟩ (.slice p2 ys.length (d - 1))).drew).cell? ⟨B9, 4, none⟩ = some (.slice y.ptr y.kids.length y.cap) := (cell_two_sets w2 g B9 _ _ 4 _ _ (by omega)).trans h9
                generalize (((w2.setCell ⟨g, gs.length * 2, none⟩ (.slice p1 xs.length (c - 1))).setCell ⟨g, gs.length * 2 + 1, none⟩ (.slice p2 ys.length (d - 1))).drew) = w5 at *
                clear h8 h9 t0 t1 f0 f1
                have hBw : w.heap.size + 4 ≤ w5.heap.size := by omega
                go_wp2_with (at_builtin; refine wpList_append_own _ rfl _ _ 72 rfl (w.heap.size + 4) 71 i0 (.agg #[.slice none 0 0, .slice none 0 0]) 2 48 Tryz.underlying72 hi hz0 hz1 hz2' rfl (by decide) _ _ _ rfl (hown.alloc _) ⟨w5.heap.size, 0, none⟩ 1 1 [.slice x.ptr x.kids.length x.cap, .slice y.ptr y.kids.length y.cap] rfl rfl (two_new _ _ _ _) (by simp [Value.oneCell']) (by unfold maxLen; omega) (by omega) (by simp; omega) ?_; intro v' w6 hown6 hgr6 _)
                have hI := HI.out
                have hbA : Below (w.heap.size + 4) wr w6 := Below.grown (hbw.alloc hBw _) hgr6 (by simp; omega) (fun j hj => by cases hj; exact hgb)
                obtain ⟨hk, hlk⟩ : MT.like x y = true ∧ x.kids.length = y.kids.length := ⟨hr.out.symm, ((MT.like_iff x y).1 hr.out.symm).2.2.2⟩
                have hsx := MT.size_eq x
                go_roundg (2 * total (gs ++ [Fr.mk p1 (c - 1) xs p2 (d - 1) ys, Fr.mk x.ptr x.cap x.kids y.ptr y.cap y.kids]) + (gs ++ [Fr.mk p1 (c - 1) xs p2 (d - 1) ys, Fr.mk x.ptr x.cap x.kids y.ptr y.cap y.kids]).length)
                case measure => have := HG.out; simp [total_append, total, MT.sizeL] at this ⊢; omega
                case rel =>
                  refine ⟨_, seen + 1, rfl, by go_num, ⟨?_, ?_, ?_, hs, ?_, ?_, ?_⟩⟩
                  · have e1 : flat (gs ++ [Fr.mk p1 (c - 1) xs p2 (d - 1) ys, Fr.mk x.ptr x.cap x.kids y.ptr y.cap y.kids]) = flat (gs ++ [Fr.mk p1 (c - 1) xs p2 (d - 1) ys]) ++ [.slice x.ptr x.kids.length x.cap, .slice y.ptr y.kids.length y.cap] := by
                      simp [flat, Fr.cells]
                    rw [e1, show (gs ++ [Fr.mk p1 (c - 1) xs p2 (d - 1) ys, Fr.mk x.ptr x.cap x.kids y.ptr y.cap y.kids]).length = gs.length + 1 + 1 by simp]
                    exact hown6
                  · rw [show (gs ++ [Fr.mk p1 (c - 1) xs p2 (d - 1) ys, Fr.mk x.ptr x.cap x.kids y.ptr y.cap y.kids]).length = gs.length + 1 + 1 by simp]
                    rcases hown6.2 with ⟨h0, h1⟩ | ⟨g', cap', cur, hv, _⟩
                    · omega
                    · exact ⟨g', cap', hv⟩
                  · intro f hf
                    simp only [List.mem_append, List.mem_cons, List.not_mem_nil, or_false] at hf
                    rcases hf with hf | rfl | rfl
                    · have h1 := hI.rows f (by simp [hf])
                      exact ⟨h1.1.below hbA, h1.2.1.below hbA, h1.2.2⟩
                    · refine ⟨⟨by simp only; omega, by unfold maxLen; simp only; omega, ?_⟩, ⟨by simp only; omega, by unfold maxLen; simp only; omega, ?_⟩, HF.out⟩
                      · exact HP1.out.imp id fun h => ⟨b1, o1 + 5, h, hb1, MT.InL.below hbA b1 (o1 + 5) hb1 xs hLx⟩
                      · exact HP2.out.imp id fun h => ⟨b2, o2 + 5, h, hb2, MT.InL.below hbA b2 (o2 + 5) hb2 ys hLy⟩
                    · exact ⟨hx.row.below hbA, hy.row.below hbA, hlk⟩
                  · have := hI.few; simp at this ⊢; omega
                  · rw [hI.says, okAll_append, okAll_append, total_append, total_append]
                    have h1 : MT.alikeL (x :: xs) (y :: ys) = (MT.alikeL x.kids y.kids && MT.alikeL xs ys) := by rw [MT.alikeL, MT.alike_eq, hk, Bool.true_and]
                    have h2 : MT.sizeL (x :: xs) = 1 + MT.sizeL x.kids + MT.sizeL xs := by rw [MT.sizeL, hsx]
                    simp only [okAll, total, h1, h2, Bool.and_true, Nat.add_zero]
                    congr 1
                    · congr 1; rw [Bool.and_comm]
                    · congr 1; rw [eq_iff_iff]; omega
                  · exact hI.below.trans hbA
            · have g9 : decide ((1000000 : Int) < (seen : Int) + 1) = true := by simp; omega
              go_wp2_with fail
              go_ret
              refine ⟨false, rfl, ?_, HB.out.trans (HBC.out.mono (by omega))⟩
              show _ = _
              rw [HI.out.says, total_append]
              have := MT.size_pos x
              rw [decide_eq_false (by simp [total, MT.sizeL]; omega)]; simp
end Go.Proofs.YthbnegggohegkaaGreatDoor
