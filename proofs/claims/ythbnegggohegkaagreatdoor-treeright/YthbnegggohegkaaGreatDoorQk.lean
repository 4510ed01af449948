/-
  The document's own answer for trees: ofTypes, and Stand at cases, switches and slices.
-/
import Derived.Test.YthbnegggohegkaaGreatDoorQj
namespace Go.Proofs.YthbnegggohegkaaGreatDoor
open Go.RowKit

theorem amongT (y : MT) : [wMap, wFunc, wAny].contains y.text.data.toList = ([[109, 97, 112], [102, 117, 110, 99], [97, 110, 121]] : List Bytes).contains y.text.data.toList := rfl

set_option maxRecDepth 100000 in
set_option maxHeartbeats 8000000 in
theorem ofTypes_none (k : Int) (s : ByteArray) (n a : Int) (p : Option Addr) (c : Nat) (w : World) : Calls Tryz.prog 115 #[.agg (nd k s n a p 0 c)] w fun e w' => e = .returned (.bool false) ∧ Below w.heap.size w w' := by
  go_enter Tryz.func115, Tryz.ntmps115
  go_wp2
  go_ret
  exact ⟨rfl, below1 _ _⟩

set_option maxRecDepth 100000 in
set_option maxHeartbeats 8000000 in
theorem ofTypes_some (k : Int) (s : ByteArray) (n a : Int) (b o m c : Nat) (x : MT) (w : World) (hb0 : b < w.heap.size) (hc : w.cell? ⟨b, o + 4, none⟩ = some (.slice x.ptr x.kids.length x.cap)) (hx : x.In w.heap.size w) :
    Calls Tryz.prog 115 #[.agg (nd k s n a (some ⟨b, o, none⟩) (m + 1) c)] w fun e w' => e = .returned (.bool (x.kids.any typeOnly)) ∧ Below w.heap.size w w' := by
  have hcap := hx.cap_le
  have hlc := hx.len_le
  have hL := hx.kidsL
  unfold maxLen at hcap
  clear hx
  obtain ⟨ys, hys⟩ : ∃ ys, ys = x.kids := ⟨_, rfl⟩
  obtain ⟨q, hq⟩ : ∃ q, q = x.ptr := ⟨_, rfl⟩
  rw [← hys] at hL hlc hc ⊢
  rw [← hq] at hL hc
  obtain ⟨R, hR⟩ : ∃ R, R = ys.any typeOnly := ⟨_, rfl⟩
  rw [← hR]
  have HR : Hid (R = ys.any typeOnly) := hR
  clear hR hys hq
  have hb1 := below1 w (.cells (nd k s n a (some ⟨b, o, none⟩) (m + 1) c) 24)
  go_enter Tryz.func115, Tryz.ntmps115
  go_wp2_with fail
  go_loopg [4] ys.length (fun gk i wr => ∃ (j : Nat), gk + j = ys.length ∧ i = .int .i64 j ∧ Hid (R = (ys.drop j).any typeOnly) ∧ Below w.heap.size w wr ∧ w.heap.size + 1 ≤ wr.heap.size)
  case atStart => exact ⟨0, rfl, rfl, HR.out, hb1, by simp⟩
  case round =>
    obtain ⟨j, hj, rfl, hs, hb, hz⟩ := hrel
    by_cases hlt : j < ys.length
    · obtain ⟨b, o, rfl, hbB, hL0⟩ := hL.resolve_left (fun h => by rw [h] at hlt; simp at hlt)
      obtain ⟨⟨c0, c1, c2, c3, c4⟩, _⟩ := (MT.InL.below hb b o hbB ys hL0).get j hlt
      have HS : Hid (R = (typeOnly ys[j] || (ys.drop (j + 1)).any typeOnly)) := by
        have := hs.out
        rwa [List.drop_eq_getElem_cons hlt, List.any_cons] at this
      clear hs
      generalize ys[j] = y at c0 c1 c2 c3 c4 HS
      have hb' : b < wr.heap.size := by omega
      have HJ : Hid (gk + j = ys.length) := hj
      clear hj hL0 hL hb1 HR
      cases h15 : y.kind == 15 with
      | true =>
        have HY : Hid (R = true) := by have := HS.out; unfold typeOnly at this; rwa [h15, Bool.true_or, Bool.true_or] at this
        rw [eq_of_beq h15] at c0
        clear HS h15
        go_wp2_with fail
        go_ret
        exact ⟨congrArg (fun r => Ending.returned (.bool r)) HY.out.symm, hb⟩
      | false =>
        cases h14 : y.kind == 14 with
        | false =>
          have HN : Hid (R = (ys.drop (j + 1)).any typeOnly) := by have := HS.out; unfold typeOnly at this; rwa [h15, h14, Bool.false_and, Bool.false_or, Bool.false_or] at this
          have HB : Hid (Below w.heap.size w wr ∧ w.heap.size + 1 ≤ wr.heap.size) := ⟨hb, hz⟩
          clear HS
          go_wp2_with fail
          go_roundg (ys.length - (j + 1))
          case measure => have := HJ.out; omega
          case rel => exact ⟨j + 1, by omega, by go_num, HN.out, HB.out.1, HB.out.2⟩
        | true =>
          have e14 : y.kind = 14 := eq_of_beq h14
          rw [e14] at c0
          have hT : typeOnly y = ([[109, 97, 112], [102, 117, 110, 99], [97, 110, 121]] : List Bytes).contains y.text.data.toList := by unfold typeOnly; rw [h15, h14, Bool.false_or, Bool.true_and]; exact amongT y
          rw [hT] at HS
          have HA : Hid (∀ W p, TextsAt W p [[109, 97, 112], [102, 117, 110, 99], [97, 110, 121]] → Calls Tryz.prog 80 #[.string y.text, .slice p 3 3] W fun e w' => e = .returned (.bool (([[109, 97, 112], [102, 117, 110, 99], [97, 110, 121]] : List Bytes).contains y.text.data.toList)) ∧ w' = W) := fun W p hT => among_any _ p _ y.text W (by decide) hT
          generalize ([[109, 97, 112], [102, 117, 110, 99], [97, 110, 121]] : List Bytes).contains y.text.data.toList = z at HA HS
          clear hT h15 h14 e14
          have hTx : TextsAt (wr.alloc (.cells #[.string ⟨#[109, 97, 112]⟩, .string ⟨#[102, 117, 110, 99]⟩, .string ⟨#[97, 110, 121]⟩] 9)) (some ⟨wr.heap.size, 0, none⟩) [[109, 97, 112], [102, 117, 110, 99], [97, 110, 121]] := .inr ⟨_, rfl, by simp, fun i hi => by
            match i, hi with
            | 0, _ => exact cell_mid _ _ _ _ _ _ rfl rfl
            | 1, _ => exact cell_mid _ _ _ _ _ _ rfl rfl
            | 2, _ => exact cell_mid _ _ _ _ _ _ rfl rfl
            | i + 3, h => exact absurd h (by show ¬ (i + 3 < 3); omega)⟩
          have HB : Hid (Below w.heap.size w (wr.alloc (.cells #[.string ⟨#[109, 97, 112]⟩, .string ⟨#[102, 117, 110, 99]⟩, .string ⟨#[97, 110, 121]⟩] 9)) ∧ w.heap.size + 1 ≤ (wr.alloc (.cells #[.string ⟨#[109, 97, 112]⟩, .string ⟨#[102, 117, 110, 99]⟩, .string ⟨#[97, 110, 121]⟩] 9)).heap.size) := ⟨hb.alloc (by omega) _, by simp; omega⟩
          cases z with
          | true =>
            have HY : Hid (R = true) := by have := HS.out; rwa [Bool.true_or] at this
            clear HS
            go_wp2_with fail
            refine (HA.out _ _ hTx).mono ?_
            rintro e w1 ⟨rfl, rfl⟩
            clear hTx
            go_wp2_with fail
            go_ret
            exact ⟨congrArg (fun r => Ending.returned (.bool r)) HY.out.symm, HB.out.1⟩
          | false =>
            have HN : Hid (R = (ys.drop (j + 1)).any typeOnly) := by have := HS.out; rwa [Bool.false_or] at this
            clear HS
            go_wp2_with fail
            refine (HA.out _ _ hTx).mono ?_
            rintro e w1 ⟨rfl, rfl⟩
            clear hTx
            go_wp2_with fail
            go_roundg (ys.length - (j + 1))
            case measure => have := HJ.out; omega
            case rel => exact ⟨j + 1, by omega, by go_num, HN.out, HB.out.1, HB.out.2⟩
    · have HN : Hid (R = false) := by
        have := hs.out
        rwa [List.drop_of_length_le (by omega), List.any_nil] at this
      clear hL hb1 hj hs HR
      go_wp2_with fail
      go_ret
      exact ⟨congrArg (fun r => Ending.returned (.bool r)) HN.out.symm, hb⟩

theorem ofTypes_any (t : MT) (w : World) (hin : t.In w.heap.size w) : Calls Tryz.prog 115 #[nodeV t] w fun e w' => e = .returned (.bool (listsT t)) ∧ Below w.heap.size w w' := by
  obtain ⟨k, s, n, a, p, c, ks⟩ := t
  have hL := hin.kidsL
  simp only [MT.kids_node, MT.ptr_node] at hL
  cases ks with
  | nil =>
    rw [listsT_nil rfl]
    exact ofTypes_none k s n a p c w
  | cons x xs =>
    obtain ⟨b, o, rfl, hb, hL⟩ := hL.resolve_left (by simp)
    rw [MT.InL] at hL
    rw [listsT_cons rfl]
    exact ofTypes_some k s n a b o xs.length c x w hb hL.1.c4 hL.2.1

set_option maxRecDepth 100000 in
set_option maxHeartbeats 8000000 in
theorem dp_27a (s : ByteArray) (n a : Int) (p : Option Addr) (m c i : Nat) (w : World) : Calls Tryz.prog 86 #[.agg (nd 27 s n a p m c), .int .i64 (i : Nat), .int .i64 18] w fun e w' => e = .returned (.int .i64 (atN [20, 6] i : Nat)) ∧ Below w.heap.size w w' := by
  have H : Hid (∀ W g, (∀ (j : Nat) (h : j < ([20, 6] : List Nat).length), W.cell? ⟨g, j, none⟩ = some (.int .i64 ((([20, 6] : List Nat)[j] : Nat)))) → Calls Tryz.prog 84 #[.slice (some ⟨g, 0, none⟩) 2 2, .int .i64 (i : Nat)] W fun e w' => e = .returned (.int .i64 (atN [20, 6] i : Nat)) ∧ w' = W) := fun W g hc => at_any [20, 6] i g W (by decide) (by decide) hc
  generalize atN [20, 6] i = z at H ⊢
  go_enter Tryz.func86, Tryz.ntmps86
  go_wp2_with fail
  refine (H.out _ _ (fun j h => by
    match j, h with
    | 0, _ => exact cell_mid _ _ _ _ _ _ (by simp) rfl
    | 1, _ => exact cell_mid _ _ _ _ _ _ (by simp) rfl
    | j + 2, h => exact absurd h (by show ¬ (j + 2 < 2); omega))).mono ?_
  rintro e w1 ⟨rfl, rfl⟩
  go_wp2_with fail
  go_ret
  exact ⟨rfl, below2 _ _ _⟩
set_option maxRecDepth 100000 in
set_option maxHeartbeats 8000000 in
theorem dp_27b (s : ByteArray) (n a : Int) (p : Option Addr) (m c i st : Nat) (w : World) (h18 : (((st : Nat) : Int) == 18) = false) (h0 : (((st : Nat) : Int) == 0) = false) : Calls Tryz.prog 86 #[.agg (nd 27 s n a p m c), .int .i64 (i : Nat), .int .i64 (st : Nat)] w fun e w' => e = .returned (.int .i64 (atN [19, 6] i : Nat)) ∧ Below w.heap.size w w' := by
  have H : Hid (∀ W g, (∀ (j : Nat) (h : j < ([19, 6] : List Nat).length), W.cell? ⟨g, j, none⟩ = some (.int .i64 ((([19, 6] : List Nat)[j] : Nat)))) → Calls Tryz.prog 84 #[.slice (some ⟨g, 0, none⟩) 2 2, .int .i64 (i : Nat)] W fun e w' => e = .returned (.int .i64 (atN [19, 6] i : Nat)) ∧ w' = W) := fun W g hc => at_any [19, 6] i g W (by decide) (by decide) hc
  generalize atN [19, 6] i = z at H ⊢
  go_enter Tryz.func86, Tryz.ntmps86
  go_wp2_with fail
  refine (H.out _ _ (fun j h => by
    match j, h with
    | 0, _ => exact cell_mid _ _ _ _ _ _ (by simp) rfl
    | 1, _ => exact cell_mid _ _ _ _ _ _ (by simp) rfl
    | j + 2, h => exact absurd h (by show ¬ (j + 2 < 2); omega))).mono ?_
  rintro e w1 ⟨rfl, rfl⟩
  go_wp2_with fail
  go_ret
  exact ⟨rfl, below2 _ _ _⟩
set_option maxRecDepth 100000 in
set_option maxHeartbeats 8000000 in
theorem dp_27c (s : ByteArray) (n a : Int) (p : Option Addr) (m c i : Nat) (w : World) (hq : ∀ W, Below w.heap.size w W → Calls Tryz.prog 115 #[.agg (nd 27 s n a p m c)] W fun e w' => e = .returned (.bool true) ∧ Below W.heap.size W w') : Calls Tryz.prog 86 #[.agg (nd 27 s n a p m c), .int .i64 (i : Nat), .int .i64 0] w fun e w' => e = .returned (.int .i64 (atN [20, 6] i : Nat)) ∧ Below w.heap.size w w' := by
  have HQ : Hid _ := hq
  clear hq
  have H : Hid (∀ W g, (∀ (j : Nat) (h : j < ([20, 6] : List Nat).length), W.cell? ⟨g, j, none⟩ = some (.int .i64 ((([20, 6] : List Nat)[j] : Nat)))) → Calls Tryz.prog 84 #[.slice (some ⟨g, 0, none⟩) 2 2, .int .i64 (i : Nat)] W fun e w' => e = .returned (.int .i64 (atN [20, 6] i : Nat)) ∧ w' = W) := fun W g hc => at_any [20, 6] i g W (by decide) (by decide) hc
  generalize atN [20, 6] i = z at H ⊢
  have hb1 := below1 w (.cells (nd 27 s n a p m c) 24)
  go_enter Tryz.func86, Tryz.ntmps86
  go_wp2_with fail
  refine (HQ.out _ hb1).mono ?_
  rintro e w1 ⟨rfl, hb2⟩
  have hB2 : Below w.heap.size w w1 := hb1.trans (hb2.mono (by simp))
  have HE : Hid (Below w.heap.size w (w1.alloc (.cells #[.int .i64 20, .int .i64 6] 3))) := hB2.alloc hB2.size _
  clear hb1 hb2 hB2
  go_wp2_with fail
  refine (H.out _ _ (fun j h => by
    match j, h with
    | 0, _ => exact cell_mid _ _ _ _ _ _ (by simp) rfl
    | 1, _ => exact cell_mid _ _ _ _ _ _ (by simp) rfl
    | j + 2, h => exact absurd h (by show ¬ (j + 2 < 2); omega))).mono ?_
  rintro e w2 ⟨rfl, rfl⟩
  go_wp2_with fail
  go_ret
  exact ⟨rfl, HE.out⟩
set_option maxRecDepth 100000 in
set_option maxHeartbeats 8000000 in
theorem dp_27d (s : ByteArray) (n a : Int) (p : Option Addr) (m c i : Nat) (w : World) (hq : ∀ W, Below w.heap.size w W → Calls Tryz.prog 115 #[.agg (nd 27 s n a p m c)] W fun e w' => e = .returned (.bool false) ∧ Below W.heap.size W w') : Calls Tryz.prog 86 #[.agg (nd 27 s n a p m c), .int .i64 (i : Nat), .int .i64 0] w fun e w' => e = .returned (.int .i64 (atN [19, 6] i : Nat)) ∧ Below w.heap.size w w' := by
  have HQ : Hid _ := hq
  clear hq
  have H : Hid (∀ W g, (∀ (j : Nat) (h : j < ([19, 6] : List Nat).length), W.cell? ⟨g, j, none⟩ = some (.int .i64 ((([19, 6] : List Nat)[j] : Nat)))) → Calls Tryz.prog 84 #[.slice (some ⟨g, 0, none⟩) 2 2, .int .i64 (i : Nat)] W fun e w' => e = .returned (.int .i64 (atN [19, 6] i : Nat)) ∧ w' = W) := fun W g hc => at_any [19, 6] i g W (by decide) (by decide) hc
  generalize atN [19, 6] i = z at H ⊢
  have hb1 := below1 w (.cells (nd 27 s n a p m c) 24)
  go_enter Tryz.func86, Tryz.ntmps86
  go_wp2_with fail
  refine (HQ.out _ hb1).mono ?_
  rintro e w1 ⟨rfl, hb2⟩
  have hB2 : Below w.heap.size w w1 := hb1.trans (hb2.mono (by simp))
  have HE : Hid (Below w.heap.size w (w1.alloc (.cells #[.int .i64 19, .int .i64 6] 3))) := hB2.alloc hB2.size _
  clear hb1 hb2 hB2
  go_wp2_with fail
  refine (H.out _ _ (fun j h => by
    match j, h with
    | 0, _ => exact cell_mid _ _ _ _ _ _ (by simp) rfl
    | 1, _ => exact cell_mid _ _ _ _ _ _ (by simp) rfl
    | j + 2, h => exact absurd h (by show ¬ (j + 2 < 2); omega))).mono ?_
  rintro e w2 ⟨rfl, rfl⟩
  go_wp2_with fail
  go_ret
  exact ⟨rfl, HE.out⟩
set_option maxRecDepth 100000 in
set_option maxHeartbeats 8000000 in
theorem st_25b (s : ByteArray) (n a : Int) (p : Option Addr) (m c i st : Nat) (w : World) (hi : (0 : Int) < ((i : Nat) : Int)) (hq : ∀ W, Below w.heap.size w W → Calls Tryz.prog 85 #[.agg (nd 25 s n a p m c), .int .i64 (i : Nat)] W fun e w' => e = .returned (.bool false) ∧ Below W.heap.size W w') : Calls Tryz.prog 48 #[.agg (nd 25 s n a p m c), .int .i64 (i : Nat), .int .i64 (st : Nat)] w fun e w' => e = .returned (.int .i64 (atN [11, 17] i : Nat)) ∧ Below w.heap.size w w' := by
  have HQ : Hid _ := hq
  clear hq
  have H : Hid (∀ W g, (∀ (j : Nat) (h : j < ([11, 17] : List Nat).length), W.cell? ⟨g, j, none⟩ = some (.int .i64 ((([11, 17] : List Nat)[j] : Nat)))) → Calls Tryz.prog 84 #[.slice (some ⟨g, 0, none⟩) 2 2, .int .i64 (i : Nat)] W fun e w' => e = .returned (.int .i64 (atN [11, 17] i : Nat)) ∧ w' = W) := fun W g hc => at_any [11, 17] i g W (by decide) (by decide) hc
  generalize atN [11, 17] i = z at H ⊢
  have hb1 := below1 w (.cells (nd 25 s n a p m c) 24)
  go_enter Tryz.func48, Tryz.ntmps48
  go_wp2_with fail
  refine (HQ.out _ hb1).mono ?_
  rintro e w1 ⟨rfl, hb2⟩
  have hB2 : Below w.heap.size w w1 := hb1.trans (hb2.mono (by simp))
  have HE : Hid (Below w.heap.size w (w1.alloc (.cells #[.int .i64 11, .int .i64 17] 3))) := hB2.alloc hB2.size _
  clear hb1 hb2 hB2
  go_wp2_with fail
  refine (H.out _ _ (fun j h => by
    match j, h with
    | 0, _ => exact cell_mid _ _ _ _ _ _ (by simp) rfl
    | 1, _ => exact cell_mid _ _ _ _ _ _ (by simp) rfl
    | j + 2, h => exact absurd h (by show ¬ (j + 2 < 2); omega))).mono ?_
  rintro e w2 ⟨rfl, rfl⟩
  go_wp2_with fail
  go_ret
  exact ⟨rfl, HE.out⟩
set_option maxRecDepth 100000 in
set_option maxHeartbeats 8000000 in
theorem st_25a (s : ByteArray) (n a : Int) (p : Option Addr) (m c i st : Nat) (w : World) (hi : ¬ (0 : Int) < ((i : Nat) : Int)) : Calls Tryz.prog 48 #[.agg (nd 25 s n a p m c), .int .i64 (i : Nat), .int .i64 (st : Nat)] w fun e w' => e = .returned (.int .i64 (atN [11, 17] i : Nat)) ∧ Below w.heap.size w w' := by
  have H : Hid (∀ W g, (∀ (j : Nat) (h : j < ([11, 17] : List Nat).length), W.cell? ⟨g, j, none⟩ = some (.int .i64 ((([11, 17] : List Nat)[j] : Nat)))) → Calls Tryz.prog 84 #[.slice (some ⟨g, 0, none⟩) 2 2, .int .i64 (i : Nat)] W fun e w' => e = .returned (.int .i64 (atN [11, 17] i : Nat)) ∧ w' = W) := fun W g hc => at_any [11, 17] i g W (by decide) (by decide) hc
  generalize atN [11, 17] i = z at H ⊢
  go_enter Tryz.func48, Tryz.ntmps48
  go_wp2_with fail
  refine (H.out _ _ (fun j h => by
    match j, h with
    | 0, _ => exact cell_mid _ _ _ _ _ _ (by simp) rfl
    | 1, _ => exact cell_mid _ _ _ _ _ _ (by simp) rfl
    | j + 2, h => exact absurd h (by show ¬ (j + 2 < 2); omega))).mono ?_
  rintro e w1 ⟨rfl, rfl⟩
  go_wp2_with fail
  go_ret
  exact ⟨rfl, below2 _ _ _⟩
set_option maxRecDepth 100000 in
set_option maxHeartbeats 8000000 in
theorem st_26b (s : ByteArray) (n a : Int) (p : Option Addr) (m c i st : Nat) (w : World) (hi : (1 : Int) < ((i : Nat) : Int)) (hq : ∀ W, Below w.heap.size w W → Calls Tryz.prog 85 #[.agg (nd 26 s n a p m c), .int .i64 (i : Nat)] W fun e w' => e = .returned (.bool false) ∧ Below W.heap.size W w') : Calls Tryz.prog 48 #[.agg (nd 26 s n a p m c), .int .i64 (i : Nat), .int .i64 (st : Nat)] w fun e w' => e = .returned (.int .i64 (atN [16, 10, 18] i : Nat)) ∧ Below w.heap.size w w' := by
  have HQ : Hid _ := hq
  clear hq
  have H : Hid (∀ W g, (∀ (j : Nat) (h : j < ([16, 10, 18] : List Nat).length), W.cell? ⟨g, j, none⟩ = some (.int .i64 ((([16, 10, 18] : List Nat)[j] : Nat)))) → Calls Tryz.prog 84 #[.slice (some ⟨g, 0, none⟩) 3 3, .int .i64 (i : Nat)] W fun e w' => e = .returned (.int .i64 (atN [16, 10, 18] i : Nat)) ∧ w' = W) := fun W g hc => at_any [16, 10, 18] i g W (by decide) (by decide) hc
  generalize atN [16, 10, 18] i = z at H ⊢
  have hb1 := below1 w (.cells (nd 26 s n a p m c) 24)
  go_enter Tryz.func48, Tryz.ntmps48
  go_wp2_with fail
  refine (HQ.out _ hb1).mono ?_
  rintro e w1 ⟨rfl, hb2⟩
  have hB2 : Below w.heap.size w w1 := hb1.trans (hb2.mono (by simp))
  have HE : Hid (Below w.heap.size w (w1.alloc (.cells #[.int .i64 16, .int .i64 10, .int .i64 18] 3))) := hB2.alloc hB2.size _
  clear hb1 hb2 hB2
  go_wp2_with fail
  refine (H.out _ _ (fun j h => by
    match j, h with
    | 0, _ => exact cell_mid _ _ _ _ _ _ (by simp) rfl
    | 1, _ => exact cell_mid _ _ _ _ _ _ (by simp) rfl
    | 2, _ => exact cell_mid _ _ _ _ _ _ (by simp) rfl
    | j + 3, h => exact absurd h (by show ¬ (j + 3 < 3); omega))).mono ?_
  rintro e w2 ⟨rfl, rfl⟩
  go_wp2_with fail
  go_ret
  exact ⟨rfl, HE.out⟩
set_option maxRecDepth 100000 in
set_option maxHeartbeats 8000000 in
theorem st_26a (s : ByteArray) (n a : Int) (p : Option Addr) (m c i st : Nat) (w : World) (hi : ¬ (1 : Int) < ((i : Nat) : Int)) : Calls Tryz.prog 48 #[.agg (nd 26 s n a p m c), .int .i64 (i : Nat), .int .i64 (st : Nat)] w fun e w' => e = .returned (.int .i64 (atN [16, 10, 18] i : Nat)) ∧ Below w.heap.size w w' := by
  have H : Hid (∀ W g, (∀ (j : Nat) (h : j < ([16, 10, 18] : List Nat).length), W.cell? ⟨g, j, none⟩ = some (.int .i64 ((([16, 10, 18] : List Nat)[j] : Nat)))) → Calls Tryz.prog 84 #[.slice (some ⟨g, 0, none⟩) 3 3, .int .i64 (i : Nat)] W fun e w' => e = .returned (.int .i64 (atN [16, 10, 18] i : Nat)) ∧ w' = W) := fun W g hc => at_any [16, 10, 18] i g W (by decide) (by decide) hc
  generalize atN [16, 10, 18] i = z at H ⊢
  go_enter Tryz.func48, Tryz.ntmps48
  go_wp2_with fail
  refine (H.out _ _ (fun j h => by
    match j, h with
    | 0, _ => exact cell_mid _ _ _ _ _ _ (by simp) rfl
    | 1, _ => exact cell_mid _ _ _ _ _ _ (by simp) rfl
    | 2, _ => exact cell_mid _ _ _ _ _ _ (by simp) rfl
    | j + 3, h => exact absurd h (by show ¬ (j + 3 < 3); omega))).mono ?_
  rintro e w1 ⟨rfl, rfl⟩
  go_wp2_with fail
  go_ret
  exact ⟨rfl, below2 _ _ _⟩
set_option maxRecDepth 100000 in
set_option maxHeartbeats 8000000 in
theorem st_25c (s : ByteArray) (n a : Int) (p : Option Addr) (m c i st : Nat) (w : World) (hi : (0 : Int) < ((i : Nat) : Int)) (hq : ∀ W, Below w.heap.size w W → Calls Tryz.prog 85 #[.agg (nd 25 s n a p m c), .int .i64 (i : Nat)] W fun e w' => e = .returned (.bool true) ∧ Below W.heap.size W w') : Calls Tryz.prog 48 #[.agg (nd 25 s n a p m c), .int .i64 (i : Nat), .int .i64 (st : Nat)] w fun e w' => e = .returned (.int .i64 29) ∧ Below w.heap.size w w' := by
  have HQ : Hid _ := hq
  clear hq
  have hb1 := below1 w (.cells (nd 25 s n a p m c) 24)
  go_enter Tryz.func48, Tryz.ntmps48
  go_wp2_with fail
  refine (HQ.out _ hb1).mono ?_
  rintro e w1 ⟨rfl, hb2⟩
  have HE : Hid (Below w.heap.size w w1) := hb1.trans (hb2.mono (by simp))
  clear hb1 hb2
  go_wp2_with fail
  go_ret
  exact ⟨rfl, HE.out⟩
set_option maxRecDepth 100000 in
set_option maxHeartbeats 8000000 in
theorem st_26c (s : ByteArray) (n a : Int) (p : Option Addr) (m c i st : Nat) (w : World) (hi : (1 : Int) < ((i : Nat) : Int)) (hq : ∀ W, Below w.heap.size w W → Calls Tryz.prog 85 #[.agg (nd 26 s n a p m c), .int .i64 (i : Nat)] W fun e w' => e = .returned (.bool true) ∧ Below W.heap.size W w') : Calls Tryz.prog 48 #[.agg (nd 26 s n a p m c), .int .i64 (i : Nat), .int .i64 (st : Nat)] w fun e w' => e = .returned (.int .i64 29) ∧ Below w.heap.size w w' := by
  have HQ : Hid _ := hq
  clear hq
  have hb1 := below1 w (.cells (nd 26 s n a p m c) 24)
  go_enter Tryz.func48, Tryz.ntmps48
  go_wp2_with fail
  refine (HQ.out _ hb1).mono ?_
  rintro e w1 ⟨rfl, hb2⟩
  have HE : Hid (Below w.heap.size w w1) := hb1.trans (hb2.mono (by simp))
  clear hb1 hb2
  go_wp2_with fail
  go_ret
  exact ⟨rfl, HE.out⟩
set_option maxRecDepth 100000 in
set_option maxHeartbeats 8000000 in
theorem st_deeper (k : Int) (g1 : (k == 1) = false) (g2 : (k == 2) = false) (g3 : (k == 3) = false) (g4 : (k == 4) = false) (g5 : (k == 5) = false) (g43 : (k == 43) = false) (g6 : (k == 6) = false) (g12 : (k == 12) = false) (g13 : (k == 13) = false) (g15 : (k == 15) = false) (g17 : (k == 17) = false) (g19 : (k == 19) = false) (g21 : (k == 21) = false) (g20 : (k == 20) = false) (g34 : (k == 34) = false) (g22 : (k == 22) = false) (g23 : (k == 23) = false) (g24 : (k == 24) = false) (g25 : (k == 25) = false) (g26 : (k == 26) = false) (s : ByteArray) (n a : Int) (p : Option Addr) (m c i st : Nat) (w : World) (z : Nat) (hq : ∀ W, Below w.heap.size w W → Calls Tryz.prog 86 #[.agg (nd k s n a p m c), .int .i64 (i : Nat), .int .i64 (st : Nat)] W fun e w' => e = .returned (.int .i64 (z : Nat)) ∧ Below W.heap.size W w') : Calls Tryz.prog 48 #[.agg (nd k s n a p m c), .int .i64 (i : Nat), .int .i64 (st : Nat)] w fun e w' => e = .returned (.int .i64 (z : Nat)) ∧ Below w.heap.size w w' := by
  have HQ : Hid _ := hq
  clear hq
  have hb1 := below1 w (.cells (nd k s n a p m c) 24)
  go_enter Tryz.func48, Tryz.ntmps48
  go_wp2_with fail
  refine (HQ.out _ hb1).mono ?_
  rintro e w1 ⟨rfl, hb2⟩
  have HE : Hid (Below w.heap.size w w1) := hb1.trans (hb2.mono (by simp))
  clear hb1 hb2
  go_wp2_with fail
  go_ret
  exact ⟨rfl, HE.out⟩
set_option maxRecDepth 100000 in
set_option maxHeartbeats 8000000 in
theorem dp_47n (s : ByteArray) (n a : Int) (b o c st : Nat) (w : World) (hb : b < w.heap.size) (x y : Int) (hx : w.cell? ⟨b, o + 10, none⟩ = some (.int .i64 x)) (hy : w.cell? ⟨b, o + 15, none⟩ = some (.int .i64 y)) (h16 : (x == 16) = true) (hy16 : (y == 16) = false) : Calls Tryz.prog 86 #[.agg (nd 47 s n a (some ⟨b, o, none⟩) 4 c), .int .i64 3, .int .i64 (st : Nat)] w fun e w' => e = .returned (.int .i64 29) ∧ Below w.heap.size w w' := by
  obtain rfl : x = 16 := eq_of_beq h16
  clear h16
  go_enter Tryz.func86, Tryz.ntmps86
  go_wp2
  go_ret
  exact ⟨rfl, below1 _ _⟩
set_option maxRecDepth 100000 in
set_option maxHeartbeats 8000000 in
theorem dp_47y (s : ByteArray) (n a : Int) (b o c st : Nat) (w : World) (hb : b < w.heap.size) (x y : Int) (hx : w.cell? ⟨b, o + 10, none⟩ = some (.int .i64 x)) (hy : w.cell? ⟨b, o + 15, none⟩ = some (.int .i64 y)) (h16 : (x == 16) = true) (hy16 : (y == 16) = true) : Calls Tryz.prog 86 #[.agg (nd 47 s n a (some ⟨b, o, none⟩) 4 c), .int .i64 3, .int .i64 (st : Nat)] w fun e w' => e = .returned (.int .i64 11) ∧ Below w.heap.size w w' := by
  obtain rfl : x = 16 := eq_of_beq h16
  obtain rfl : y = 16 := eq_of_beq hy16
  clear h16 hy16
  have H : Hid (∀ W g, (∀ (j : Nat) (h : j < ([10, 11] : List Nat).length), W.cell? ⟨g, j, none⟩ = some (.int .i64 ((([10, 11] : List Nat)[j] : Nat)))) → Calls Tryz.prog 84 #[.slice (some ⟨g, 0, none⟩) 2 2, .int .i64 3] W fun e w' => e = .returned (.int .i64 11) ∧ w' = W) := fun W g hc => at_any [10, 11] 3 g W (by decide) (by decide) hc
  go_enter Tryz.func86, Tryz.ntmps86
  go_wp2_with fail
  refine (H.out _ _ (fun j h => by
    match j, h with
    | 0, _ => exact cell_mid _ _ _ _ _ _ (by simp) rfl
    | 1, _ => exact cell_mid _ _ _ _ _ _ (by simp) rfl
    | j + 2, h => exact absurd h (by show ¬ (j + 2 < 2); omega))).mono ?_
  rintro e w1 ⟨rfl, rfl⟩
  go_wp2_with fail
  go_ret
  exact ⟨rfl, below2 _ _ _⟩
set_option maxRecDepth 100000 in
set_option maxHeartbeats 8000000 in
theorem dp_47o (s : ByteArray) (n a : Int) (b o c st : Nat) (w : World) (hb : b < w.heap.size) (x : Int) (hx : w.cell? ⟨b, o + 10, none⟩ = some (.int .i64 x)) (h16 : (x == 16) = false) : Calls Tryz.prog 86 #[.agg (nd 47 s n a (some ⟨b, o, none⟩) 4 c), .int .i64 3, .int .i64 (st : Nat)] w fun e w' => e = .returned (.int .i64 11) ∧ Below w.heap.size w w' := by
  have H : Hid (∀ W g, (∀ (j : Nat) (h : j < ([10, 11] : List Nat).length), W.cell? ⟨g, j, none⟩ = some (.int .i64 ((([10, 11] : List Nat)[j] : Nat)))) → Calls Tryz.prog 84 #[.slice (some ⟨g, 0, none⟩) 2 2, .int .i64 3] W fun e w' => e = .returned (.int .i64 11) ∧ w' = W) := fun W g hc => at_any [10, 11] 3 g W (by decide) (by decide) hc
  go_enter Tryz.func86, Tryz.ntmps86
  go_wp2_with fail
  refine (H.out _ _ (fun j h => by
    match j, h with
    | 0, _ => exact cell_mid _ _ _ _ _ _ (by simp) rfl
    | 1, _ => exact cell_mid _ _ _ _ _ _ (by simp) rfl
    | j + 2, h => exact absurd h (by show ¬ (j + 2 < 2); omega))).mono ?_
  rintro e w1 ⟨rfl, rfl⟩
  go_wp2_with fail
  go_ret
  exact ⟨rfl, below2 _ _ _⟩
end Go.Proofs.YthbnegggohegkaaGreatDoor
