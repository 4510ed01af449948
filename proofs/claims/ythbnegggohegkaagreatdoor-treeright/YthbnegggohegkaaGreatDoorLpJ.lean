/-
  The document's own answer for trees: look, at every tree.
  The document's own answer for trees: Right, given look.
  The document's own answer for trees: Right, at every tree.
-/
import Derived.Test.YthbnegggohegkaaGreatDoorLkcJ
import Derived.Test.YthbnegggohegkaaGreatDoorLkfJ
import Derived.Test.YthbnegggohegkaaGreatDoorLkiJ
import Derived.Test.YthbnegggohegkaaGreatDoorLma
import Derived.Test.YthbnegggohegkaaGreatDoorLmb
import Derived.Test.YthbnegggohegkaaGreatDoorLmc
import Derived.Test.YthbnegggohegkaaGreatDoorQp
import Derived.Test.YthbnegggohegkaaGreatDoorQoJ
namespace Go.Proofs.YthbnegggohegkaaGreatDoor
open Go.RowKit

theorem most_bound (k : Int) (s : Bytes) (st : Nat) (h : mostS k ≠ 0) : (boundsS k s st).2 < 0 ∧ 0 < mostS k := by
  unfold mostS at h ⊢
  by_cases h3 : k = 3
  · subst h3; exact ⟨show (-1 : Int) < 0 by decide, by decide⟩
  by_cases h4 : k = 4
  · subst h4; exact ⟨show (-1 : Int) < 0 by decide, by decide⟩
  by_cases h13 : k = 13
  · subst h13; exact ⟨show (-1 : Int) < 0 by decide, by decide⟩
  rw [beq_false_of_ne h3, beq_false_of_ne h4, beq_false_of_ne h13] at h
  exact absurd rfl h
theorem look_any (lb : Nat) : ∀ (f : Nat) (t : MT) (ah st : Nat) (w : World), f ≤ 60 → st < 30 → ah ≤ 20000 → t.In lb w → lb < w.heap.size → w.heap[lb]? = some (.cells (lkC (ah : Nat) 0 0 ⟨#[]⟩) 59 (0, 0)) →
    Calls Tryz.prog 29 #[.pointer (some ⟨lb, 0, none⟩), nodeV t, .int .i64 (61 - (f : Nat)), .int .i64 (st : Nat)] w (LookP lb w (lookR f t st ah)) := by
  intro f
  induction f with
  | zero =>
    intro t ah st w _ hst hah hin hlb hrow
    have hsz := hin.text_le
    obtain ⟨k, s, n, a, p, c, ks⟩ := t
    have H43 := fun (W : World) (_ : Below w.heap.size w W) => stands_any st hst k s n a p ks.length c W
    have H44 := fun (W : World) (_ : Below w.heap.size w W) => said_any k s n a p ks.length c st hst hsz W
    have H45 := fun (W : World) (_ : Below w.heap.size w W) => bounds_any k s n a p ks.length c st W
    have H46 := fun (W : World) => most_any k W
    rw [lookR]
    show Calls Tryz.prog 29 #[.pointer (some ⟨lb, 0, none⟩), .agg (nd k s n a p ks.length c), .int .i64 (61 - ((0 : Nat) : Int)), .int .i64 (st : Nat)] w _
    by_cases h1 : 20000 ≤ ah
    · have e : faultR (.node k s n a p c ks) st ah false = 22 := by unfold faultR; rw [if_pos h1]
      rw [e]
      exact look_many lb ah _ k s n a p ks.length c st w hlb hrow (by omega) (h43 := H43) (h44 := H44) (h45 := H45) (h46 := H46) (h1 := h1)
    · have e : faultR (.node k s n a p c ks) st ah false = 21 := by unfold faultR; rw [if_neg h1, if_pos rfl]
      rw [e]
      exact look_deep lb ah _ k s n a p ks.length c st w hlb hrow (by omega) (h43 := H43) (h44 := H44) (h45 := H45) (h46 := H46) (h1 := by omega) (h2 := by omega)
  | succ f ih =>
    intro t ah st w hf hst hah hin hlb hrow
    have hsz := hin.text_le
    obtain ⟨k, s, n, a, p, c, ks⟩ := t
    have H43 := fun (W : World) (_ : Below w.heap.size w W) => stands_any st hst k s n a p ks.length c W
    have H44 := fun (W : World) (_ : Below w.heap.size w W) => said_any k s n a p ks.length c st hst hsz W
    have H45 := fun (W : World) (_ : Below w.heap.size w W) => bounds_any k s n a p ks.length c st W
    have H46 := fun (W : World) => most_any k W
    rw [lookR]
    show Calls Tryz.prog 29 #[.pointer (some ⟨lb, 0, none⟩), .agg (nd k s n a p ks.length c), .int .i64 (61 - ((f + 1 : Nat) : Int)), .int .i64 (st : Nat)] w _
    have hbad : ∀ {cd : Nat}, cd ≠ 0 → faultR (.node k s n a p c ks) st ah true = cd → Calls Tryz.prog 29 #[.pointer (some ⟨lb, 0, none⟩), .agg (nd k s n a p ks.length c), .int .i64 (61 - ((f + 1 : Nat) : Int)), .int .i64 (st : Nat)] w (fun e w' => (∃ u, e = .returned u) ∧ Chk lb w w' ∧ ∃ z : Int, w'.heap[lb]? = some (.cells (lkC z (cd : Nat) a (toldName s)) 59 (0, 0))) → Calls Tryz.prog 29 #[.pointer (some ⟨lb, 0, none⟩), .agg (nd k s n a p ks.length c), .int .i64 (61 - ((f + 1 : Nat) : Int)), .int .i64 (st : Nat)] w (LookP lb w (if faultR (.node k s n a p c ks) st ah true = 0 then chkK (lookR f) (fun i => standS (.node k s n a p c ks) i st) 0 (MT.node k s n a p c ks).kids (ah + 1) else .error (faultR (.node k s n a p c ks) st ah true, .node k s n a p c ks))) := fun h0 h h2 => by
      rw [h, if_neg h0]; exact h2
    by_cases h1 : 20000 ≤ ah
    · exact hbad (by decide) (by unfold faultR; rw [if_pos h1]) (look_many lb ah _ k s n a p ks.length c st w hlb hrow (by omega) (h43 := H43) (h44 := H44) (h45 := H45) (h46 := H46) (h1 := h1))
    have h1' : ah < 20000 := by omega
    have hd : (61 : Int) - ((f + 1 : Nat) : Int) ≤ 60 := by omega
    have hbig : ah < 9000000000000000000 := by omega
    have f20 : okR (.node k s n a p c ks) st = false → faultR (.node k s n a p c ks) st ah true = 20 := fun h => by unfold faultR; rw [if_neg h1, if_neg (by decide), if_pos h]
    have eok : okR (.node k s n a p c ks) st = (decide (1 ≤ k) && decide (k ≤ 51) && standsB st k s.data.toList && (numB k n && textS k s.data.toList st) && decide ((boundsS k s.data.toList st).1 ≤ (ks.length : Int)) && !(decide (0 ≤ (boundsS k s.data.toList st).2) && decide ((boundsS k s.data.toList st).2 < (ks.length : Int)))) := rfl
    by_cases h3 : k < 1
    · exact hbad (by decide) (f20 (by rw [eok, decide_eq_false (show ¬ 1 ≤ k by omega)]; simp)) (look_low lb ah _ k s n a p ks.length c st w hlb hrow hbig (h43 := H43) (h44 := H44) (h45 := H45) (h46 := H46) (h1 := h1') (h2 := hd) (h3 := h3))
    by_cases h4 : 51 < k
    · exact hbad (by decide) (f20 (by rw [eok, decide_eq_false (show ¬ k ≤ 51 by omega)]; simp)) (look_high lb ah _ k s n a p ks.length c st w hlb hrow hbig (h43 := H43) (h44 := H44) (h45 := H45) (h46 := H46) (h1 := h1') (h2 := hd) (h3 := by omega) (h4 := h4))
    have h3' : 1 ≤ k := by omega
    have h4' : k ≤ 51 := by omega
    cases q1 : standsB st k s.data.toList with
    | false =>
      rw [q1] at H43
      exact hbad (by decide) (f20 (by rw [eok, q1]; simp)) (look_st lb ah _ k s n a p ks.length c st w hlb hrow hbig (h43 := H43) (h44 := H44) (h45 := H45) (h46 := H46) (h1 := h1') (h2 := hd) (h3 := h3') (h4 := h4'))
    | true =>
    rw [q1] at H43
    cases q2 : (numB k n && textS k s.data.toList st) with
    | false =>
      rw [q2] at H44
      exact hbad (by decide) (f20 (by rw [eok, q2]; simp)) (look_said lb ah _ k s n a p ks.length c st w hlb hrow hbig (h43 := H43) (h44 := H44) (h45 := H45) (h46 := H46) (h1 := h1') (h2 := hd) (h3 := h3') (h4 := h4'))
    | true =>
    rw [q2] at H44
    by_cases h5 : ((ks.length : Nat) : Int) < (boundsS k s.data.toList st).1
    · exact hbad (by decide) (f20 (by rw [eok, decide_eq_false (show ¬ (boundsS k s.data.toList st).1 ≤ (ks.length : Int) by omega)]; simp)) (look_few lb ah _ k s n a p ks.length c st w hlb hrow hbig (h43 := H43) (h44 := H44) (h45 := H45) (h46 := H46) (h1 := h1') (h2 := hd) (h3 := h3') (h4 := h4') (h5 := h5))
    have h5' : (boundsS k s.data.toList st).1 ≤ ((ks.length : Nat) : Int) := by omega
    by_cases h67 : 0 ≤ (boundsS k s.data.toList st).2 ∧ (boundsS k s.data.toList st).2 < ((ks.length : Nat) : Int)
    · exact hbad (by decide) (f20 (by rw [eok, decide_eq_true h67.1, decide_eq_true h67.2]; simp)) (look_more lb ah _ k s n a p ks.length c st w hlb hrow hbig (h43 := H43) (h44 := H44) (h45 := H45) (h46 := H46) (h1 := h1') (h2 := hd) (h3 := h3') (h4 := h4') (h5 := h5') (h6 := h67.1) (h7 := h67.2))
    have hok : okR (.node k s n a p c ks) st = true := by
      rw [eok, q1, q2, decide_eq_true h3', decide_eq_true h4', decide_eq_true h5']
      simp only [Bool.true_and, Bool.not_eq_true', Bool.and_eq_false_iff, decide_eq_false_iff_not]
      omega
    by_cases h89 : 0 < mostS k ∧ mostS k < ((ks.length : Nat) : Int)
    · have hm := most_bound k s.data.toList st (by omega)
      exact hbad (by decide) (by unfold faultR; rw [if_neg h1, if_neg (by decide), if_neg (by rw [hok]; decide)]; exact if_pos h89) (look_rowA lb ah _ k s n a p ks.length c st w hlb hrow hbig (h43 := H43) (h44 := H44) (h45 := H45) (h46 := H46) (h1 := h1') (h2 := hd) (h3 := h3') (h4 := h4') (h5 := h5') (h6 := hm.1) (h8 := h89.1) (h9 := h89.2))
    have h0 : faultR (.node k s n a p c ks) st ah true = 0 := by unfold faultR; rw [if_neg h1, if_neg (by decide), if_neg (by rw [hok]; decide)]; exact if_neg h89
    rw [if_pos h0]
    have h47 : k = 47 → ks.length = 4 := fun e => by
      subst e
      have e2 : boundsS 47 s.data.toList st = (4, 4) := rfl
      rw [e2] at h5' h67
      simp only at h5' h67
      omega
    have H48 : ∀ (W : World) (j : Nat), Chk lb w W → j < ks.length → Calls Tryz.prog 48 #[.agg (nd k s n a p ks.length c), .int .i64 (j : Nat), .int .i64 (st : Nat)] W fun e w' => e = .returned (.int .i64 ((fun i => standS (.node k s n a p c ks) i st) j : Nat)) ∧ Below W.heap.size W w' := fun W j hW hj =>
      stand_any k s n a p c ks j st hj h47 W (MT.In.mono (by have := hW.size; omega) _ (MT.In.below hW.below _ hin))
    have HSF : ∀ (W : World) (kid : MT) (j b : Nat), b ≤ 20000 → j < ks.length → kid.In lb W → lb < W.heap.size → W.heap[lb]? = some (.cells (lkC (b : Nat) 0 0 ⟨#[]⟩) 59 (0, 0)) → Calls Tryz.prog 29 #[.pointer (some ⟨lb, 0, none⟩), nodeV kid, .int .i64 (61 - ((f + 1 : Nat) : Int) + 1), .int .i64 ((fun i => standS (.node k s n a p c ks) i st) j : Nat)] W (LookP lb W (lookR f kid ((fun i => standS (.node k s n a p c ks) i st) j) b)) := fun W kid j b hb _ hk hl hr => by
      rw [show (61 : Int) - ((f + 1 : Nat) : Int) + 1 = 61 - (f : Nat) by omega]
      exact ih kid b _ W (by omega) (stand_pos _ j st).2 hb hk hl hr
    have HLE : ∀ (kid : MT) (r b cn : Nat), lookR f kid r b = .ok cn → b ≤ 20000 → cn ≤ 20000 := fun kid r b cn h hb => look_count f kid r b cn h hb
    have HCD : ∀ (kid : MT) (r b code : Nat) (x : MT), lookR f kid r b = .error (code, x) → code ≠ 0 := fun kid r b code x h => look_code f kid r b code x h
    by_cases h8 : mostS k = 0
    · by_cases h6 : (boundsS k s.data.toList st).2 < 0
      · exact look_goodA lb ah _ k s n a p ks c st w hlb hrow hin (h43 := H43) (h44 := H44) (h45 := H45) (h46 := H46) (h48 := H48) (hle := HLE) (hself := HSF) (hcode := HCD) (h1 := h1') (h0 := by omega) (h2 := hd) (h3 := h3') (h4 := h4') (h5 := h5') (h6 := h6) (h8 := h8)
      · exact look_goodC lb ah _ k s n a p ks c st w hlb hrow hin (h43 := H43) (h44 := H44) (h45 := H45) (h46 := H46) (h48 := H48) (hle := HLE) (hself := HSF) (hcode := HCD) (h1 := h1') (h0 := by omega) (h2 := hd) (h3 := h3') (h4 := h4') (h5 := h5') (h6 := by omega) (h7 := by omega) (h8 := h8)
    · have hm := most_bound k s.data.toList st h8
      exact look_goodB lb ah _ k s n a p ks c st w hlb hrow hin (h43 := H43) (h44 := H44) (h45 := H45) (h46 := H46) (h48 := H48) (hle := HLE) (hself := HSF) (hcode := HCD) (h1 := h1') (h0 := by omega) (h2 := hd) (h3 := h3') (h4 := h4') (h5 := h5') (h6 := hm.1) (h8 := hm.2) (h9 := by omega)
end Go.Proofs.YthbnegggohegkaaGreatDoor
namespace Go.Proofs.YthbnegggohegkaaGreatDoor
open Go.RowKit

/-- What the document's Right answers. -/
def retR (r : Except (Nat × MT) Nat) : Value := match r with
  | .ok _ => .agg #[.int .i64 0, .int .i64 0, .string ⟨#[]⟩]
  | .error (code, x) => .agg #[.int .i64 (code : Nat), .int .i64 x.at_, .string (toldName x.text)]
theorem LookP.row {lb : Nat} {w : World} {r : Except (Nat × MT) Nat} {e : Ending} {w' : World} (h : LookP lb w r e w') : (∃ u, e = .returned u) ∧ Chk lb w w' ∧ ∃ (z cd a : Int) (nm : ByteArray), w'.heap[lb]? = some (.cells (lkC z cd a nm) 59 (0, 0)) ∧ retR r = .agg #[.int .i64 cd, .int .i64 a, .string nm] := by
  obtain ⟨h1, h2, h3⟩ := h
  refine ⟨h1, h2, ?_⟩
  rcases r with ⟨cd, x⟩ | b
  · obtain ⟨z, h3⟩ := h3; exact ⟨z, _, _, _, h3, rfl⟩
  · exact ⟨_, _, _, _, h3, rfl⟩
abbrev lkW (t : MT) (w : World) : World := ((w.alloc (nodeO t)).alloc (.cells #[.int .i64 0, .int .i64 0, .string ⟨#[]⟩] 28)).alloc (.cells (lkC 0 0 0 ⟨#[]⟩) 59)
set_option maxRecDepth 100000 in
set_option maxHeartbeats 4000000 in
theorem refRight_walk (t : MT) (r : Except (Nat × MT) Nat) (w : World) (HL : Calls Tryz.prog 29 #[.pointer (some ⟨w.heap.size + 1 + 1, 0, none⟩), nodeV t, .int .i64 1, .int .i64 0] (lkW t w) (LookP (w.heap.size + 1 + 1) (lkW t w) r)) :
    Calls Tryz.prog 10 #[nodeV t] w fun e w' => e = .returned (retR r) ∧ Below w.heap.size w w' := by
  have hB0 : Below w.heap.size w (lkW t w) := below3 _ _ _ _
  have o0 : (lkW t w).heap[w.heap.size + 1]? = some (.cells #[.int .i64 0, .int .i64 0, .string ⟨#[]⟩] 28 (0, 0)) := by
    have h1 := (MapKept.heap_alloc (w.alloc (nodeO t)) (.cells #[.int .i64 0, .int .i64 0, .string ⟨#[]⟩] 28)).1
    rw [World.size_alloc] at h1
    exact ((MapKept.heap_alloc _ _).2 _ (by simp)).trans h1
  have HH : Hid _ := HL
  clear HL
  go_enter Tryz.func10, Tryz.ntmps10
  go_wp2_with fail
  refine Calls.mono HH.out ?_
  rintro e w8 hP
  obtain ⟨⟨u, rfl⟩, hk, z, cd, a, nm, hrw, hret⟩ := hP.row
  have HR : Hid _ := hret
  have hz8 := hk.size
  have hzz : (lkW t w).heap.size = w.heap.size + 3 := by simp [lkW]
  have o8 := (hk.below.block (w.heap.size + 1) (by omega)).trans o0
  have hB8 : Below w.heap.size w w8 := hB0.trans (hk.below.mono (by omega))
  obtain ⟨hcl, hfl⟩ := row_cells hrw
  have l1 := hcl 1
  have l2 := hcl 2
  have l3 := hcl 3
  obtain ⟨ocl, ofl⟩ := row_cells o8
  have p0 := ocl 0
  have p1 := ocl 1
  have p2 := ocl 2
  have f0 := ofl 0
  have f1 := ofl 1
  have f2 := ofl 2
  simp only [List.getElem?_toArray, List.getElem?_cons_zero, List.getElem?_cons_succ] at l1 l2 l3 p0 p1 p2
  obtain ⟨W9, hW9⟩ : ∃ W9, W9 = ((w8.setCell ⟨w.heap.size + 1, 0, none⟩ (.int .i64 cd)).setCell ⟨w.heap.size + 1, 1, none⟩ (.int .i64 a)).setCell ⟨w.heap.size + 1, 2, none⟩ (.string nm) := ⟨_, rfl⟩
  have o9 : W9.heap[w.heap.size + 1]? = some (.cells #[.int .i64 cd, .int .i64 a, .string nm] 28 (0, 0)) := by rw [hW9]; exact heap_set (heap_set (heap_set o8 0 _) 1 _) 2 _
  have hB9 : Below w.heap.size w W9 := by
    rw [hW9]
    exact ((hB8.setCell (p := ⟨w.heap.size + 1, 0, none⟩) (by show w.heap.size ≤ w.heap.size + 1; omega) _).setCell (p := ⟨w.heap.size + 1, 1, none⟩) (by show w.heap.size ≤ w.heap.size + 1; omega) _).setCell (p := ⟨w.heap.size + 1, 2, none⟩) (by show w.heap.size ≤ w.heap.size + 1; omega) _
  have e9 : ((w8.setCell ⟨w.heap.size + 1, 0, none⟩ (.int .i64 cd)).setCell ⟨w.heap.size + 1, 1, none⟩ (.int .i64 a)).setCell ⟨w.heap.size + 1, 2, none⟩ (.string nm) = W9 := hW9.symm
  have d0 := (row_cells o9).1 0
  have d1 := (row_cells o9).1 1
  have d2 := (row_cells o9).1 2
  simp only [List.getElem?_toArray, List.getElem?_cons_zero, List.getElem?_cons_succ] at d0 d1 d2
  have HP : Hid (Below w.heap.size w W9) := hB9
  clear hcl hfl ocl ofl hW9 o9 hB9 o8 o0 hrw hret hk hP hB0 hB8 hzz
  go_wp2_with fail
  refine bodyPost_ret (v := .agg #[.int .i64 cd, .int .i64 a, .string nm]) (by simp [results, Tryz.results10, go_sem, d0, d1, d2]) rfl ⟨congrArg Ending.returned HR.out.symm, HP.out⟩
end Go.Proofs.YthbnegggohegkaaGreatDoor
namespace Go.Proofs.YthbnegggohegkaaGreatDoor
open Go.RowKit

theorem refRight_any (t : MT) (w : World) (hin : t.In w.heap.size w) : Calls Tryz.prog 10 #[nodeV t] w fun e w' => e = .returned (retR (rightSpec t)) ∧ Below w.heap.size w w' := by
  refine refRight_walk t (rightSpec t) w ?_
  have h := look_any (w.heap.size + 1 + 1) 60 t 0 0 (lkW t w) (Nat.le_refl _) (by decide) (by decide) (MT.In.mono (by omega) t (MT.In.below (below3 _ _ _ _) t hin)) (by simp [lkW]) (by
    have := (MapKept.heap_alloc ((w.alloc (nodeO t)).alloc (.cells #[.int .i64 0, .int .i64 0, .string ⟨#[]⟩] 28)) (.cells (lkC 0 0 0 ⟨#[]⟩) 59)).1
    rw [World.size_alloc, World.size_alloc] at this
    exact this)
  rw [look_right] at h
  exact h
end Go.Proofs.YthbnegggohegkaaGreatDoor
