/-
  The document's own answer for trees: Level and worded, at every text.
-/
import Derived.Test.YthbnegggohegkaaGreatDoorQe
namespace Go.Proofs.YthbnegggohegkaaGreatDoor
open Go.RowKit

def rowsL : List (List Bytes) := [[[124, 124]], [[38, 38]], [[61, 61], [33, 61], [60], [60, 61], [62], [62, 61]], [[43], [45], [124], [94]], [[42], [47], [37], [38], [60, 60], [62, 62]]]
theorem level_hit (l : Bytes) (j : Nat) (h : j < rowsL.length) (hno : ∀ (m : Nat) (hm : m < rowsL.length), m < j → rowsL[m].contains l = false) (hc : rowsL[j].contains l = true) : levelN l = j + 1 := by
  have e : levelN l = if (rowsL[0]'(by decide)).contains l then 1 else if (rowsL[1]'(by decide)).contains l then 2 else if (rowsL[2]'(by decide)).contains l then 3 else if (rowsL[3]'(by decide)).contains l then 4 else if (rowsL[4]'(by decide)).contains l then 5 else 0 := rfl
  rw [e]
  match j, h with
  | 0, _ => rw [if_pos hc]
  | 1, _ => rw [if_neg (by rw [hno 0 (by decide) (by omega)]; decide), if_pos hc]
  | 2, _ => rw [if_neg (by rw [hno 0 (by decide) (by omega)]; decide), if_neg (by rw [hno 1 (by decide) (by omega)]; decide), if_pos hc]
  | 3, _ => rw [if_neg (by rw [hno 0 (by decide) (by omega)]; decide), if_neg (by rw [hno 1 (by decide) (by omega)]; decide), if_neg (by rw [hno 2 (by decide) (by omega)]; decide), if_pos hc]
  | 4, _ => rw [if_neg (by rw [hno 0 (by decide) (by omega)]; decide), if_neg (by rw [hno 1 (by decide) (by omega)]; decide), if_neg (by rw [hno 2 (by decide) (by omega)]; decide), if_neg (by rw [hno 3 (by decide) (by omega)]; decide), if_pos hc]
  | j + 5, h => exact absurd h (by show ¬ (j + 5 < 5); omega)
theorem level_none (l : Bytes) (hno : ∀ (m : Nat) (hm : m < rowsL.length), rowsL[m].contains l = false) : levelN l = 0 := by
  have e : levelN l = if (rowsL[0]'(by decide)).contains l then 1 else if (rowsL[1]'(by decide)).contains l then 2 else if (rowsL[2]'(by decide)).contains l then 3 else if (rowsL[3]'(by decide)).contains l then 4 else if (rowsL[4]'(by decide)).contains l then 5 else 0 := rfl
  rw [e, if_neg (by rw [hno 0 (by decide)]; decide), if_neg (by rw [hno 1 (by decide)]; decide), if_neg (by rw [hno 2 (by decide)]; decide), if_neg (by rw [hno 3 (by decide)]; decide), if_neg (by rw [hno 4 (by decide)]; decide)]

theorem cell_in (W : World) (cs : Array Value) (t : TypeId) (n : Nat) (W' : World) (hb : Below (W.heap.size + 1) (W.alloc (.cells cs t)) W') (hn : n = W.heap.size) (i : Nat) (v : Value) (h : cs[i]? = some v) : W'.cell? ⟨n, i, none⟩ = some v := by
  subst hn
  exact (hb.cell (p := ⟨W.heap.size, i, none⟩) (by show W.heap.size < _; omega)).trans (cell_mid W cs t _ i v rfl h)

set_option maxRecDepth 100000 in
set_option maxHeartbeats 4000000 in
theorem rLevel_any (s : ByteArray) (w : World) : Calls Tryz.prog 83 #[.string s] w fun e w' => e = .returned (.int .i64 (levelN s.data.toList : Nat)) ∧ Below w.heap.size w w' := by
  obtain ⟨R, hR⟩ : ∃ R, R = levelN s.data.toList := ⟨_, rfl⟩
  rw [← hR]
  have HR : Hid (R = levelN s.data.toList) := hR
  clear hR
  obtain ⟨W, hW⟩ : ∃ W, W = ((((((w.alloc (.cells #[.string ⟨#[124, 124]⟩] 9)).alloc (.cells #[.string ⟨#[38, 38]⟩] 9)).alloc (.cells #[.string ⟨#[61, 61]⟩, .string ⟨#[33, 61]⟩, .string ⟨#[60]⟩, .string ⟨#[60, 61]⟩, .string ⟨#[62]⟩, .string ⟨#[62, 61]⟩] 9)).alloc (.cells #[.string ⟨#[43]⟩, .string ⟨#[45]⟩, .string ⟨#[124]⟩, .string ⟨#[94]⟩] 9)).alloc (.cells #[.string ⟨#[42]⟩, .string ⟨#[47]⟩, .string ⟨#[37]⟩, .string ⟨#[38]⟩, .string ⟨#[60, 60]⟩, .string ⟨#[62, 62]⟩] 9)).alloc (.cells #[.slice (some ⟨w.heap.size, 0, none⟩) 1 1, .slice (some ⟨w.heap.size + 1, 0, none⟩) 1 1, .slice (some ⟨w.heap.size + 1 + 1, 0, none⟩) 6 6, .slice (some ⟨w.heap.size + 1 + 1 + 1, 0, none⟩) 4 4, .slice (some ⟨w.heap.size + 1 + 1 + 1 + 1, 0, none⟩) 6 6] 121)) := ⟨_, rfl⟩
  have hBW : Below w.heap.size w W := by rw [hW]; exact (below5 w _ _ _ _ _).alloc (by simp; omega) _
  have hzW : W.heap.size = w.heap.size + 6 := by rw [hW]; simp
  have HT : Hid (∀ (j : Nat) (h : j < rowsL.length), ∃ p, W.cell? ⟨w.heap.size + 1 + 1 + 1 + 1 + 1, j, none⟩ = some (.slice p rowsL[j].length rowsL[j].length) ∧ TextsAt W p rowsL[j]) := fun j h => by
    have ht : ∀ i v, (#[.slice (some ⟨w.heap.size, 0, none⟩) 1 1, .slice (some ⟨w.heap.size + 1, 0, none⟩) 1 1, .slice (some ⟨w.heap.size + 1 + 1, 0, none⟩) 6 6, .slice (some ⟨w.heap.size + 1 + 1 + 1, 0, none⟩) 4 4, .slice (some ⟨w.heap.size + 1 + 1 + 1 + 1, 0, none⟩) 6 6] : Array Value)[i]? = some v → W.cell? ⟨w.heap.size + 1 + 1 + 1 + 1 + 1, i, none⟩ = some v := fun i v hv => by rw [hW]; exact cell_mid _ _ _ _ _ _ (by simp) hv
    match j, h with
    | 0, _ =>
      refine ⟨some ⟨w.heap.size, 0, none⟩, ht 0 _ rfl, .inr ⟨_, rfl, by omega, fun i hi => ?_⟩⟩
      refine cell_in w _ 9 _ W (by rw [hW]; exact (((((Below.refl _ _).alloc (by simp <;> omega) _).alloc (by simp <;> omega) _).alloc (by simp <;> omega) _).alloc (by simp <;> omega) _).alloc (by simp <;> omega) _) (by simp) i _ ?_
      match i, hi with
      | 0, _ => rfl
      | i + 1, h => exact absurd h (by show ¬ (i + 1 < 1); omega)
    | 1, _ =>
      refine ⟨some ⟨w.heap.size + 1, 0, none⟩, ht 1 _ rfl, .inr ⟨_, rfl, by omega, fun i hi => ?_⟩⟩
      refine cell_in (w.alloc (.cells #[.string ⟨#[124, 124]⟩] 9)) _ 9 _ W (by rw [hW]; exact ((((Below.refl _ _).alloc (by simp <;> omega) _).alloc (by simp <;> omega) _).alloc (by simp <;> omega) _).alloc (by simp <;> omega) _) (by simp) i _ ?_
      match i, hi with
      | 0, _ => rfl
      | i + 1, h => exact absurd h (by show ¬ (i + 1 < 1); omega)
    | 2, _ =>
      refine ⟨some ⟨w.heap.size + 1 + 1, 0, none⟩, ht 2 _ rfl, .inr ⟨_, rfl, by omega, fun i hi => ?_⟩⟩
      refine cell_in ((w.alloc (.cells #[.string ⟨#[124, 124]⟩] 9)).alloc (.cells #[.string ⟨#[38, 38]⟩] 9)) _ 9 _ W (by rw [hW]; exact (((Below.refl _ _).alloc (by simp <;> omega) _).alloc (by simp <;> omega) _).alloc (by simp <;> omega) _) (by simp) i _ ?_
      match i, hi with
      | 0, _ => rfl
      | 1, _ => rfl
      | 2, _ => rfl
      | 3, _ => rfl
      | 4, _ => rfl
      | 5, _ => rfl
      | i + 6, h => exact absurd h (by show ¬ (i + 6 < 6); omega)
    | 3, _ =>
      refine ⟨some ⟨w.heap.size + 1 + 1 + 1, 0, none⟩, ht 3 _ rfl, .inr ⟨_, rfl, by omega, fun i hi => ?_⟩⟩
      refine cell_in (((w.alloc (.cells #[.string ⟨#[124, 124]⟩] 9)).alloc (.cells #[.string ⟨#[38, 38]⟩] 9)).alloc (.cells #[.string ⟨#[61, 61]⟩, .string ⟨#[33, 61]⟩, .string ⟨#[60]⟩, .string ⟨#[60, 61]⟩, .string ⟨#[62]⟩, .string ⟨#[62, 61]⟩] 9)) _ 9 _ W (by rw [hW]; exact ((Below.refl _ _).alloc (by simp <;> omega) _).alloc (by simp <;> omega) _) (by simp) i _ ?_
      match i, hi with
      | 0, _ => rfl
      | 1, _ => rfl
      | 2, _ => rfl
      | 3, _ => rfl
      | i + 4, h => exact absurd h (by show ¬ (i + 4 < 4); omega)
    | 4, _ =>
      refine ⟨some ⟨w.heap.size + 1 + 1 + 1 + 1, 0, none⟩, ht 4 _ rfl, .inr ⟨_, rfl, by omega, fun i hi => ?_⟩⟩
      refine cell_in ((((w.alloc (.cells #[.string ⟨#[124, 124]⟩] 9)).alloc (.cells #[.string ⟨#[38, 38]⟩] 9)).alloc (.cells #[.string ⟨#[61, 61]⟩, .string ⟨#[33, 61]⟩, .string ⟨#[60]⟩, .string ⟨#[60, 61]⟩, .string ⟨#[62]⟩, .string ⟨#[62, 61]⟩] 9)).alloc (.cells #[.string ⟨#[43]⟩, .string ⟨#[45]⟩, .string ⟨#[124]⟩, .string ⟨#[94]⟩] 9)) _ 9 _ W (by rw [hW]; exact (Below.refl _ _).alloc (by simp <;> omega) _) (by simp) i _ ?_
      match i, hi with
      | 0, _ => rfl
      | 1, _ => rfl
      | 2, _ => rfl
      | 3, _ => rfl
      | 4, _ => rfl
      | 5, _ => rfl
      | i + 6, h => exact absurd h (by show ¬ (i + 6 < 6); omega)
    | j + 5, h => exact absurd h (by show ¬ (j + 5 < 5); omega)
  have eW : ((((((w.alloc (.cells #[.string ⟨#[124, 124]⟩] 9)).alloc (.cells #[.string ⟨#[38, 38]⟩] 9)).alloc (.cells #[.string ⟨#[61, 61]⟩, .string ⟨#[33, 61]⟩, .string ⟨#[60]⟩, .string ⟨#[60, 61]⟩, .string ⟨#[62]⟩, .string ⟨#[62, 61]⟩] 9)).alloc (.cells #[.string ⟨#[43]⟩, .string ⟨#[45]⟩, .string ⟨#[124]⟩, .string ⟨#[94]⟩] 9)).alloc (.cells #[.string ⟨#[42]⟩, .string ⟨#[47]⟩, .string ⟨#[37]⟩, .string ⟨#[38]⟩, .string ⟨#[60, 60]⟩, .string ⟨#[62, 62]⟩] 9)).alloc (.cells #[.slice (some ⟨w.heap.size, 0, none⟩) 1 1, .slice (some ⟨w.heap.size + 1, 0, none⟩) 1 1, .slice (some ⟨w.heap.size + 1 + 1, 0, none⟩) 6 6, .slice (some ⟨w.heap.size + 1 + 1 + 1, 0, none⟩) 4 4, .slice (some ⟨w.heap.size + 1 + 1 + 1 + 1, 0, none⟩) 6 6] 121)) = W := hW.symm
  clear hW
  go_enter Tryz.func83, Tryz.ntmps83
  go_wp2_with fail
  clear eW
  go_loopg [4, 5] 5 (fun gk i q wr => ∃ j : Nat, gk + j = 5 ∧ i = .int .i64 j ∧ wr = W ∧ Hid (∀ (m : Nat) (hm : m < rowsL.length), m < j → rowsL[m].contains s.data.toList = false))
  case atStart => exact ⟨0, rfl, rfl, rfl, fun _ _ h => by omega⟩
  case round =>
    obtain ⟨j, hj, rfl, rfl, hno⟩ := hrel
    by_cases hlt : j < 5
    · have hlt' : j < rowsL.length := hlt
      obtain ⟨p, hc, hT⟩ := HT.out j hlt'
      have hlen : rowsL[j].length ≤ 100 := by
        have : ∀ x ∈ rowsL, x.length ≤ 100 := by decide
        exact this _ (List.getElem_mem hlt')
      have HA : Hid (Calls Tryz.prog 80 #[.string s, .slice p rowsL[j].length rowsL[j].length] wr fun e w' => e = .returned (.bool (rowsL[j].contains s.data.toList)) ∧ w' = wr) := among_any rowsL[j] p _ s wr hlen hT
      cases hq : rowsL[j].contains s.data.toList with
      | true =>
        have HF : Hid (R = j + 1) := HR.out.trans (level_hit _ j hlt' hno.out hq)
        rw [hq] at HA
        generalize rowsL[j] = row at hc HA
        clear hno hq hT hlen
        go_wp2_with fail
        refine Calls.mono HA.out ?_
        rintro e w1 ⟨rfl, rfl⟩
        go_wp2_with fail
        go_ret
        exact ⟨by rw [HF.out]; rfl, hBW⟩
      | false =>
        have HN : Hid (∀ (m : Nat) (hm : m < rowsL.length), m < j + 1 → rowsL[m].contains s.data.toList = false) := fun m hm h => by
          rcases Nat.lt_or_ge m j with h1 | h1
          · exact hno.out m hm h1
          · obtain rfl : m = j := by omega
            exact hq
        rw [hq] at HA
        generalize rowsL[j] = row at hc HA
        have HJ : Hid (gk + j = 5) := hj
        clear hno hq hT hlen hj
        go_wp2_with fail
        refine Calls.mono HA.out ?_
        rintro e w1 ⟨rfl, rfl⟩
        go_wp2_with fail
        go_roundg (5 - (j + 1))
        case measure => have := HJ.out; omega
        case rel => exact ⟨j + 1, by omega, by go_num, rfl, HN.out⟩
    · have HF : Hid (R = 0) := HR.out.trans (level_none _ (fun m hm => hno.out m hm (by have : rowsL.length = 5 := rfl; omega)))
      clear hno hj
      go_wp2_with fail
      go_ret
      exact ⟨by rw [HF.out]; rfl, hBW⟩

/-- The words that a name may be in a stand. -/
def wordsS (st : Nat) : List Bytes := wordsN (roleS st)
set_option maxRecDepth 100000 in
set_option maxHeartbeats 4000000 in
theorem worded_0a (s : ByteArray) (w : World) (h : Calls Tryz.prog 78 #[.string s] w fun e w' => e = .returned (.bool true) ∧ Below w.heap.size w w') : Calls Tryz.prog 79 #[.string s, .int .i64 0] w fun e w' => e = .returned (.bool true) ∧ Below w.heap.size w w' := by
  have H : Hid (Calls Tryz.prog 78 #[.string s] w fun e w' => e = .returned (.bool true) ∧ Below w.heap.size w w') := h
  clear h
  go_enter Tryz.func79, Tryz.ntmps79
  go_wp2_with fail
  refine Calls.mono H.out ?_
  rintro e w1 ⟨rfl, hb⟩
  go_wp2_with fail
  go_ret
  exact ⟨rfl, hb⟩
set_option maxRecDepth 100000 in
set_option maxHeartbeats 4000000 in
theorem worded_0b (s : ByteArray) (w : World) (h : Calls Tryz.prog 78 #[.string s] w fun e w' => e = .returned (.bool false) ∧ Below w.heap.size w w') : Calls Tryz.prog 79 #[.string s, .int .i64 0] w fun e w' => e = .returned (.bool (([[116, 114, 117, 101], [102, 97, 108, 115, 101], [110, 105, 108], [109, 97, 112], [97, 110, 121], [102, 117, 110, 99]] : List Bytes).contains s.data.toList)) ∧ Below w.heap.size w w' := by
  have H : Hid (Calls Tryz.prog 78 #[.string s] w fun e w' => e = .returned (.bool false) ∧ Below w.heap.size w w') := h
  clear h
  have HA : Hid (∀ W p, TextsAt W p [[116, 114, 117, 101], [102, 97, 108, 115, 101], [110, 105, 108], [109, 97, 112], [97, 110, 121], [102, 117, 110, 99]] → Calls Tryz.prog 80 #[.string s, .slice p 6 6] W fun e w' => e = .returned (.bool (([[116, 114, 117, 101], [102, 97, 108, 115, 101], [110, 105, 108], [109, 97, 112], [97, 110, 121], [102, 117, 110, 99]] : List Bytes).contains s.data.toList)) ∧ w' = W) := fun W p hT => among_any _ p _ s W (by decide) hT
  generalize ([[116, 114, 117, 101], [102, 97, 108, 115, 101], [110, 105, 108], [109, 97, 112], [97, 110, 121], [102, 117, 110, 99]] : List Bytes).contains s.data.toList = z at HA ⊢
  go_enter Tryz.func79, Tryz.ntmps79
  go_wp2_with fail
  refine Calls.mono H.out ?_
  rintro e w1 ⟨rfl, hb⟩
  have hb2 : Below w.heap.size w (w1.alloc (.cells #[.string ⟨#[116, 114, 117, 101]⟩, .string ⟨#[102, 97, 108, 115, 101]⟩, .string ⟨#[110, 105, 108]⟩, .string ⟨#[109, 97, 112]⟩, .string ⟨#[97, 110, 121]⟩, .string ⟨#[102, 117, 110, 99]⟩] 9)) := hb.alloc hb.size _
  have hT : TextsAt (w1.alloc (.cells #[.string ⟨#[116, 114, 117, 101]⟩, .string ⟨#[102, 97, 108, 115, 101]⟩, .string ⟨#[110, 105, 108]⟩, .string ⟨#[109, 97, 112]⟩, .string ⟨#[97, 110, 121]⟩, .string ⟨#[102, 117, 110, 99]⟩] 9)) (some ⟨w1.heap.size, 0, none⟩) [[116, 114, 117, 101], [102, 97, 108, 115, 101], [110, 105, 108], [109, 97, 112], [97, 110, 121], [102, 117, 110, 99]] := .inr ⟨_, rfl, by simp, fun i hi => by
    match i, hi with
    | 0, _ => exact cell_mid _ _ _ _ _ _ rfl rfl
    | 1, _ => exact cell_mid _ _ _ _ _ _ rfl rfl
    | 2, _ => exact cell_mid _ _ _ _ _ _ rfl rfl
    | 3, _ => exact cell_mid _ _ _ _ _ _ rfl rfl
    | 4, _ => exact cell_mid _ _ _ _ _ _ rfl rfl
    | 5, _ => exact cell_mid _ _ _ _ _ _ rfl rfl
    | i + 6, h => exact absurd h (by show ¬ (i + 6 < 6); omega)⟩
  go_wp2_with fail
  refine (HA.out _ _ hT).mono ?_
  rintro e w2 ⟨rfl, rfl⟩
  have HE : Hid _ := hb2
  clear hb2 hT hb
  go_wp2_with fail
  go_ret
  exact ⟨rfl, HE.out⟩

set_option maxRecDepth 100000 in
set_option maxHeartbeats 4000000 in
theorem worded_2a (s : ByteArray) (w : World) (h : Calls Tryz.prog 78 #[.string s] w fun e w' => e = .returned (.bool true) ∧ Below w.heap.size w w') : Calls Tryz.prog 79 #[.string s, .int .i64 2] w fun e w' => e = .returned (.bool true) ∧ Below w.heap.size w w' := by
  have H : Hid (Calls Tryz.prog 78 #[.string s] w fun e w' => e = .returned (.bool true) ∧ Below w.heap.size w w') := h
  clear h
  go_enter Tryz.func79, Tryz.ntmps79
  go_wp2_with fail
  refine Calls.mono H.out ?_
  rintro e w1 ⟨rfl, hb⟩
  go_wp2_with fail
  go_ret
  exact ⟨rfl, hb⟩
set_option maxRecDepth 100000 in
set_option maxHeartbeats 4000000 in
theorem worded_2b (s : ByteArray) (w : World) (h : Calls Tryz.prog 78 #[.string s] w fun e w' => e = .returned (.bool false) ∧ Below w.heap.size w w') : Calls Tryz.prog 79 #[.string s, .int .i64 2] w fun e w' => e = .returned (.bool (([[109, 97, 112], [102, 117, 110, 99]] : List Bytes).contains s.data.toList)) ∧ Below w.heap.size w w' := by
  have H : Hid (Calls Tryz.prog 78 #[.string s] w fun e w' => e = .returned (.bool false) ∧ Below w.heap.size w w') := h
  clear h
  have HA : Hid (∀ W p, TextsAt W p [[109, 97, 112], [102, 117, 110, 99]] → Calls Tryz.prog 80 #[.string s, .slice p 2 2] W fun e w' => e = .returned (.bool (([[109, 97, 112], [102, 117, 110, 99]] : List Bytes).contains s.data.toList)) ∧ w' = W) := fun W p hT => among_any _ p _ s W (by decide) hT
  generalize ([[109, 97, 112], [102, 117, 110, 99]] : List Bytes).contains s.data.toList = z at HA ⊢
  go_enter Tryz.func79, Tryz.ntmps79
  go_wp2_with fail
  refine Calls.mono H.out ?_
  rintro e w1 ⟨rfl, hb⟩
  have hb2 : Below w.heap.size w (w1.alloc (.cells #[.string ⟨#[109, 97, 112]⟩, .string ⟨#[102, 117, 110, 99]⟩] 9)) := hb.alloc hb.size _
  have hT : TextsAt (w1.alloc (.cells #[.string ⟨#[109, 97, 112]⟩, .string ⟨#[102, 117, 110, 99]⟩] 9)) (some ⟨w1.heap.size, 0, none⟩) [[109, 97, 112], [102, 117, 110, 99]] := .inr ⟨_, rfl, by simp, fun i hi => by
    match i, hi with
    | 0, _ => exact cell_mid _ _ _ _ _ _ rfl rfl
    | 1, _ => exact cell_mid _ _ _ _ _ _ rfl rfl
    | i + 2, h => exact absurd h (by show ¬ (i + 2 < 2); omega)⟩
  go_wp2_with fail
  refine (HA.out _ _ hT).mono ?_
  rintro e w2 ⟨rfl, rfl⟩
  have HE : Hid _ := hb2
  clear hb2 hT hb
  go_wp2_with fail
  go_ret
  exact ⟨rfl, HE.out⟩

set_option maxRecDepth 100000 in
set_option maxHeartbeats 4000000 in
theorem worded_26a (s : ByteArray) (w : World) (h : Calls Tryz.prog 78 #[.string s] w fun e w' => e = .returned (.bool true) ∧ Below w.heap.size w w') : Calls Tryz.prog 79 #[.string s, .int .i64 26] w fun e w' => e = .returned (.bool true) ∧ Below w.heap.size w w' := by
  have H : Hid (Calls Tryz.prog 78 #[.string s] w fun e w' => e = .returned (.bool true) ∧ Below w.heap.size w w') := h
  clear h
  go_enter Tryz.func79, Tryz.ntmps79
  go_wp2_with fail
  refine Calls.mono H.out ?_
  rintro e w1 ⟨rfl, hb⟩
  go_wp2_with fail
  go_ret
  exact ⟨rfl, hb⟩
set_option maxRecDepth 100000 in
set_option maxHeartbeats 4000000 in
theorem worded_26b (s : ByteArray) (w : World) (h : Calls Tryz.prog 78 #[.string s] w fun e w' => e = .returned (.bool false) ∧ Below w.heap.size w w') : Calls Tryz.prog 79 #[.string s, .int .i64 26] w fun e w' => e = .returned (.bool (([[109, 97, 112], [102, 117, 110, 99]] : List Bytes).contains s.data.toList)) ∧ Below w.heap.size w w' := by
  have H : Hid (Calls Tryz.prog 78 #[.string s] w fun e w' => e = .returned (.bool false) ∧ Below w.heap.size w w') := h
  clear h
  have HA : Hid (∀ W p, TextsAt W p [[109, 97, 112], [102, 117, 110, 99]] → Calls Tryz.prog 80 #[.string s, .slice p 2 2] W fun e w' => e = .returned (.bool (([[109, 97, 112], [102, 117, 110, 99]] : List Bytes).contains s.data.toList)) ∧ w' = W) := fun W p hT => among_any _ p _ s W (by decide) hT
  generalize ([[109, 97, 112], [102, 117, 110, 99]] : List Bytes).contains s.data.toList = z at HA ⊢
  go_enter Tryz.func79, Tryz.ntmps79
  go_wp2_with fail
  refine Calls.mono H.out ?_
  rintro e w1 ⟨rfl, hb⟩
  have hb2 : Below w.heap.size w (w1.alloc (.cells #[.string ⟨#[109, 97, 112]⟩, .string ⟨#[102, 117, 110, 99]⟩] 9)) := hb.alloc hb.size _
  have hT : TextsAt (w1.alloc (.cells #[.string ⟨#[109, 97, 112]⟩, .string ⟨#[102, 117, 110, 99]⟩] 9)) (some ⟨w1.heap.size, 0, none⟩) [[109, 97, 112], [102, 117, 110, 99]] := .inr ⟨_, rfl, by simp, fun i hi => by
    match i, hi with
    | 0, _ => exact cell_mid _ _ _ _ _ _ rfl rfl
    | 1, _ => exact cell_mid _ _ _ _ _ _ rfl rfl
    | i + 2, h => exact absurd h (by show ¬ (i + 2 < 2); omega)⟩
  go_wp2_with fail
  refine (HA.out _ _ hT).mono ?_
  rintro e w2 ⟨rfl, rfl⟩
  have HE : Hid _ := hb2
  clear hb2 hT hb
  go_wp2_with fail
  go_ret
  exact ⟨rfl, HE.out⟩

set_option maxRecDepth 100000 in
set_option maxHeartbeats 4000000 in
theorem worded_10a (s : ByteArray) (w : World) (h : Calls Tryz.prog 78 #[.string s] w fun e w' => e = .returned (.bool true) ∧ Below w.heap.size w w') : Calls Tryz.prog 79 #[.string s, .int .i64 10] w fun e w' => e = .returned (.bool true) ∧ Below w.heap.size w w' := by
  have H : Hid (Calls Tryz.prog 78 #[.string s] w fun e w' => e = .returned (.bool true) ∧ Below w.heap.size w w') := h
  clear h
  go_enter Tryz.func79, Tryz.ntmps79
  go_wp2_with fail
  refine Calls.mono H.out ?_
  rintro e w1 ⟨rfl, hb⟩
  go_wp2_with fail
  go_ret
  exact ⟨rfl, hb⟩
set_option maxRecDepth 100000 in
set_option maxHeartbeats 4000000 in
theorem worded_10b (s : ByteArray) (w : World) (h : Calls Tryz.prog 78 #[.string s] w fun e w' => e = .returned (.bool false) ∧ Below w.heap.size w w') : Calls Tryz.prog 79 #[.string s, .int .i64 10] w fun e w' => e = .returned (.bool (([[116, 114, 117, 101], [102, 97, 108, 115, 101], [110, 105, 108]] : List Bytes).contains s.data.toList)) ∧ Below w.heap.size w w' := by
  have H : Hid (Calls Tryz.prog 78 #[.string s] w fun e w' => e = .returned (.bool false) ∧ Below w.heap.size w w') := h
  clear h
  have HA : Hid (∀ W p, TextsAt W p [[116, 114, 117, 101], [102, 97, 108, 115, 101], [110, 105, 108]] → Calls Tryz.prog 80 #[.string s, .slice p 3 3] W fun e w' => e = .returned (.bool (([[116, 114, 117, 101], [102, 97, 108, 115, 101], [110, 105, 108]] : List Bytes).contains s.data.toList)) ∧ w' = W) := fun W p hT => among_any _ p _ s W (by decide) hT
  generalize ([[116, 114, 117, 101], [102, 97, 108, 115, 101], [110, 105, 108]] : List Bytes).contains s.data.toList = z at HA ⊢
  go_enter Tryz.func79, Tryz.ntmps79
  go_wp2_with fail
  refine Calls.mono H.out ?_
  rintro e w1 ⟨rfl, hb⟩
  have hb2 : Below w.heap.size w (w1.alloc (.cells #[.string ⟨#[116, 114, 117, 101]⟩, .string ⟨#[102, 97, 108, 115, 101]⟩, .string ⟨#[110, 105, 108]⟩] 9)) := hb.alloc hb.size _
  have hT : TextsAt (w1.alloc (.cells #[.string ⟨#[116, 114, 117, 101]⟩, .string ⟨#[102, 97, 108, 115, 101]⟩, .string ⟨#[110, 105, 108]⟩] 9)) (some ⟨w1.heap.size, 0, none⟩) [[116, 114, 117, 101], [102, 97, 108, 115, 101], [110, 105, 108]] := .inr ⟨_, rfl, by simp, fun i hi => by
    match i, hi with
    | 0, _ => exact cell_mid _ _ _ _ _ _ rfl rfl
    | 1, _ => exact cell_mid _ _ _ _ _ _ rfl rfl
    | 2, _ => exact cell_mid _ _ _ _ _ _ rfl rfl
    | i + 3, h => exact absurd h (by show ¬ (i + 3 < 3); omega)⟩
  go_wp2_with fail
  refine (HA.out _ _ hT).mono ?_
  rintro e w2 ⟨rfl, rfl⟩
  have HE : Hid _ := hb2
  clear hb2 hT hb
  go_wp2_with fail
  go_ret
  exact ⟨rfl, HE.out⟩

set_option maxRecDepth 100000 in
set_option maxHeartbeats 4000000 in
theorem worded_11a (s : ByteArray) (w : World) (h : Calls Tryz.prog 78 #[.string s] w fun e w' => e = .returned (.bool true) ∧ Below w.heap.size w w') : Calls Tryz.prog 79 #[.string s, .int .i64 11] w fun e w' => e = .returned (.bool true) ∧ Below w.heap.size w w' := by
  have H : Hid (Calls Tryz.prog 78 #[.string s] w fun e w' => e = .returned (.bool true) ∧ Below w.heap.size w w') := h
  clear h
  go_enter Tryz.func79, Tryz.ntmps79
  go_wp2_with fail
  refine Calls.mono H.out ?_
  rintro e w1 ⟨rfl, hb⟩
  go_wp2_with fail
  go_ret
  exact ⟨rfl, hb⟩
set_option maxRecDepth 100000 in
set_option maxHeartbeats 4000000 in
theorem worded_11b (s : ByteArray) (w : World) (h : Calls Tryz.prog 78 #[.string s] w fun e w' => e = .returned (.bool false) ∧ Below w.heap.size w w') : Calls Tryz.prog 79 #[.string s, .int .i64 11] w fun e w' => e = .returned (.bool (([[116, 114, 117, 101], [102, 97, 108, 115, 101], [110, 105, 108]] : List Bytes).contains s.data.toList)) ∧ Below w.heap.size w w' := by
  have H : Hid (Calls Tryz.prog 78 #[.string s] w fun e w' => e = .returned (.bool false) ∧ Below w.heap.size w w') := h
  clear h
  have HA : Hid (∀ W p, TextsAt W p [[116, 114, 117, 101], [102, 97, 108, 115, 101], [110, 105, 108]] → Calls Tryz.prog 80 #[.string s, .slice p 3 3] W fun e w' => e = .returned (.bool (([[116, 114, 117, 101], [102, 97, 108, 115, 101], [110, 105, 108]] : List Bytes).contains s.data.toList)) ∧ w' = W) := fun W p hT => among_any _ p _ s W (by decide) hT
  generalize ([[116, 114, 117, 101], [102, 97, 108, 115, 101], [110, 105, 108]] : List Bytes).contains s.data.toList = z at HA ⊢
  go_enter Tryz.func79, Tryz.ntmps79
  go_wp2_with fail
  refine Calls.mono H.out ?_
  rintro e w1 ⟨rfl, hb⟩
  have hb2 : Below w.heap.size w (w1.alloc (.cells #[.string ⟨#[116, 114, 117, 101]⟩, .string ⟨#[102, 97, 108, 115, 101]⟩, .string ⟨#[110, 105, 108]⟩] 9)) := hb.alloc hb.size _
  have hT : TextsAt (w1.alloc (.cells #[.string ⟨#[116, 114, 117, 101]⟩, .string ⟨#[102, 97, 108, 115, 101]⟩, .string ⟨#[110, 105, 108]⟩] 9)) (some ⟨w1.heap.size, 0, none⟩) [[116, 114, 117, 101], [102, 97, 108, 115, 101], [110, 105, 108]] := .inr ⟨_, rfl, by simp, fun i hi => by
    match i, hi with
    | 0, _ => exact cell_mid _ _ _ _ _ _ rfl rfl
    | 1, _ => exact cell_mid _ _ _ _ _ _ rfl rfl
    | 2, _ => exact cell_mid _ _ _ _ _ _ rfl rfl
    | i + 3, h => exact absurd h (by show ¬ (i + 3 < 3); omega)⟩
  go_wp2_with fail
  refine (HA.out _ _ hT).mono ?_
  rintro e w2 ⟨rfl, rfl⟩
  have HE : Hid _ := hb2
  clear hb2 hT hb
  go_wp2_with fail
  go_ret
  exact ⟨rfl, HE.out⟩

set_option maxRecDepth 100000 in
set_option maxHeartbeats 4000000 in
theorem worded_28a (s : ByteArray) (w : World) (h : Calls Tryz.prog 78 #[.string s] w fun e w' => e = .returned (.bool true) ∧ Below w.heap.size w w') : Calls Tryz.prog 79 #[.string s, .int .i64 28] w fun e w' => e = .returned (.bool true) ∧ Below w.heap.size w w' := by
  have H : Hid (Calls Tryz.prog 78 #[.string s] w fun e w' => e = .returned (.bool true) ∧ Below w.heap.size w w') := h
  clear h
  go_enter Tryz.func79, Tryz.ntmps79
  go_wp2_with fail
  refine Calls.mono H.out ?_
  rintro e w1 ⟨rfl, hb⟩
  go_wp2_with fail
  go_ret
  exact ⟨rfl, hb⟩
set_option maxRecDepth 100000 in
set_option maxHeartbeats 4000000 in
theorem worded_28b (s : ByteArray) (w : World) (h : Calls Tryz.prog 78 #[.string s] w fun e w' => e = .returned (.bool false) ∧ Below w.heap.size w w') : Calls Tryz.prog 79 #[.string s, .int .i64 28] w fun e w' => e = .returned (.bool (([[116, 114, 117, 101], [102, 97, 108, 115, 101], [110, 105, 108], [109, 97, 112]] : List Bytes).contains s.data.toList)) ∧ Below w.heap.size w w' := by
  have H : Hid (Calls Tryz.prog 78 #[.string s] w fun e w' => e = .returned (.bool false) ∧ Below w.heap.size w w') := h
  clear h
  have HA : Hid (∀ W p, TextsAt W p [[116, 114, 117, 101], [102, 97, 108, 115, 101], [110, 105, 108], [109, 97, 112]] → Calls Tryz.prog 80 #[.string s, .slice p 4 4] W fun e w' => e = .returned (.bool (([[116, 114, 117, 101], [102, 97, 108, 115, 101], [110, 105, 108], [109, 97, 112]] : List Bytes).contains s.data.toList)) ∧ w' = W) := fun W p hT => among_any _ p _ s W (by decide) hT
  generalize ([[116, 114, 117, 101], [102, 97, 108, 115, 101], [110, 105, 108], [109, 97, 112]] : List Bytes).contains s.data.toList = z at HA ⊢
  go_enter Tryz.func79, Tryz.ntmps79
  go_wp2_with fail
  refine Calls.mono H.out ?_
  rintro e w1 ⟨rfl, hb⟩
  have hb2 : Below w.heap.size w (w1.alloc (.cells #[.string ⟨#[116, 114, 117, 101]⟩, .string ⟨#[102, 97, 108, 115, 101]⟩, .string ⟨#[110, 105, 108]⟩, .string ⟨#[109, 97, 112]⟩] 9)) := hb.alloc hb.size _
  have hT : TextsAt (w1.alloc (.cells #[.string ⟨#[116, 114, 117, 101]⟩, .string ⟨#[102, 97, 108, 115, 101]⟩, .string ⟨#[110, 105, 108]⟩, .string ⟨#[109, 97, 112]⟩] 9)) (some ⟨w1.heap.size, 0, none⟩) [[116, 114, 117, 101], [102, 97, 108, 115, 101], [110, 105, 108], [109, 97, 112]] := .inr ⟨_, rfl, by simp, fun i hi => by
    match i, hi with
    | 0, _ => exact cell_mid _ _ _ _ _ _ rfl rfl
    | 1, _ => exact cell_mid _ _ _ _ _ _ rfl rfl
    | 2, _ => exact cell_mid _ _ _ _ _ _ rfl rfl
    | 3, _ => exact cell_mid _ _ _ _ _ _ rfl rfl
    | i + 4, h => exact absurd h (by show ¬ (i + 4 < 4); omega)⟩
  go_wp2_with fail
  refine (HA.out _ _ hT).mono ?_
  rintro e w2 ⟨rfl, rfl⟩
  have HE : Hid _ := hb2
  clear hb2 hT hb
  go_wp2_with fail
  go_ret
  exact ⟨rfl, HE.out⟩

set_option maxRecDepth 100000 in
set_option maxHeartbeats 4000000 in
theorem worded_25a (s : ByteArray) (w : World) (h : Calls Tryz.prog 78 #[.string s] w fun e w' => e = .returned (.bool true) ∧ Below w.heap.size w w') : Calls Tryz.prog 79 #[.string s, .int .i64 25] w fun e w' => e = .returned (.bool true) ∧ Below w.heap.size w w' := by
  have H : Hid (Calls Tryz.prog 78 #[.string s] w fun e w' => e = .returned (.bool true) ∧ Below w.heap.size w w') := h
  clear h
  go_enter Tryz.func79, Tryz.ntmps79
  go_wp2_with fail
  refine Calls.mono H.out ?_
  rintro e w1 ⟨rfl, hb⟩
  go_wp2_with fail
  go_ret
  exact ⟨rfl, hb⟩
set_option maxRecDepth 100000 in
set_option maxHeartbeats 4000000 in
theorem worded_25b (s : ByteArray) (w : World) (h : Calls Tryz.prog 78 #[.string s] w fun e w' => e = .returned (.bool false) ∧ Below w.heap.size w w') : Calls Tryz.prog 79 #[.string s, .int .i64 25] w fun e w' => e = .returned (.bool (([[109, 97, 112], [102, 117, 110, 99], [97, 110, 121]] : List Bytes).contains s.data.toList)) ∧ Below w.heap.size w w' := by
  have H : Hid (Calls Tryz.prog 78 #[.string s] w fun e w' => e = .returned (.bool false) ∧ Below w.heap.size w w') := h
  clear h
  have HA : Hid (∀ W p, TextsAt W p [[109, 97, 112], [102, 117, 110, 99], [97, 110, 121]] → Calls Tryz.prog 80 #[.string s, .slice p 3 3] W fun e w' => e = .returned (.bool (([[109, 97, 112], [102, 117, 110, 99], [97, 110, 121]] : List Bytes).contains s.data.toList)) ∧ w' = W) := fun W p hT => among_any _ p _ s W (by decide) hT
  generalize ([[109, 97, 112], [102, 117, 110, 99], [97, 110, 121]] : List Bytes).contains s.data.toList = z at HA ⊢
  go_enter Tryz.func79, Tryz.ntmps79
  go_wp2_with fail
  refine Calls.mono H.out ?_
  rintro e w1 ⟨rfl, hb⟩
  have hb2 : Below w.heap.size w (w1.alloc (.cells #[.string ⟨#[109, 97, 112]⟩, .string ⟨#[102, 117, 110, 99]⟩, .string ⟨#[97, 110, 121]⟩] 9)) := hb.alloc hb.size _
  have hT : TextsAt (w1.alloc (.cells #[.string ⟨#[109, 97, 112]⟩, .string ⟨#[102, 117, 110, 99]⟩, .string ⟨#[97, 110, 121]⟩] 9)) (some ⟨w1.heap.size, 0, none⟩) [[109, 97, 112], [102, 117, 110, 99], [97, 110, 121]] := .inr ⟨_, rfl, by simp, fun i hi => by
    match i, hi with
    | 0, _ => exact cell_mid _ _ _ _ _ _ rfl rfl
    | 1, _ => exact cell_mid _ _ _ _ _ _ rfl rfl
    | 2, _ => exact cell_mid _ _ _ _ _ _ rfl rfl
    | i + 3, h => exact absurd h (by show ¬ (i + 3 < 3); omega)⟩
  go_wp2_with fail
  refine (HA.out _ _ hT).mono ?_
  rintro e w2 ⟨rfl, rfl⟩
  have HE : Hid _ := hb2
  clear hb2 hT hb
  go_wp2_with fail
  go_ret
  exact ⟨rfl, HE.out⟩

set_option maxRecDepth 100000 in
set_option maxHeartbeats 4000000 in
theorem worded_27a (s : ByteArray) (w : World) (h : Calls Tryz.prog 78 #[.string s] w fun e w' => e = .returned (.bool true) ∧ Below w.heap.size w w') : Calls Tryz.prog 79 #[.string s, .int .i64 27] w fun e w' => e = .returned (.bool true) ∧ Below w.heap.size w w' := by
  have H : Hid (Calls Tryz.prog 78 #[.string s] w fun e w' => e = .returned (.bool true) ∧ Below w.heap.size w w') := h
  clear h
  go_enter Tryz.func79, Tryz.ntmps79
  go_wp2_with fail
  refine Calls.mono H.out ?_
  rintro e w1 ⟨rfl, hb⟩
  go_wp2_with fail
  go_ret
  exact ⟨rfl, hb⟩
set_option maxRecDepth 100000 in
set_option maxHeartbeats 4000000 in
theorem worded_27b (s : ByteArray) (w : World) (h : Calls Tryz.prog 78 #[.string s] w fun e w' => e = .returned (.bool false) ∧ Below w.heap.size w w') : Calls Tryz.prog 79 #[.string s, .int .i64 27] w fun e w' => e = .returned (.bool (([[109, 97, 112], [102, 117, 110, 99], [97, 110, 121], [110, 105, 108]] : List Bytes).contains s.data.toList)) ∧ Below w.heap.size w w' := by
  have H : Hid (Calls Tryz.prog 78 #[.string s] w fun e w' => e = .returned (.bool false) ∧ Below w.heap.size w w') := h
  clear h
  have HA : Hid (∀ W p, TextsAt W p [[109, 97, 112], [102, 117, 110, 99], [97, 110, 121], [110, 105, 108]] → Calls Tryz.prog 80 #[.string s, .slice p 4 4] W fun e w' => e = .returned (.bool (([[109, 97, 112], [102, 117, 110, 99], [97, 110, 121], [110, 105, 108]] : List Bytes).contains s.data.toList)) ∧ w' = W) := fun W p hT => among_any _ p _ s W (by decide) hT
  generalize ([[109, 97, 112], [102, 117, 110, 99], [97, 110, 121], [110, 105, 108]] : List Bytes).contains s.data.toList = z at HA ⊢
  go_enter Tryz.func79, Tryz.ntmps79
  go_wp2_with fail
  refine Calls.mono H.out ?_
  rintro e w1 ⟨rfl, hb⟩
  have hb2 : Below w.heap.size w (w1.alloc (.cells #[.string ⟨#[109, 97, 112]⟩, .string ⟨#[102, 117, 110, 99]⟩, .string ⟨#[97, 110, 121]⟩, .string ⟨#[110, 105, 108]⟩] 9)) := hb.alloc hb.size _
  have hT : TextsAt (w1.alloc (.cells #[.string ⟨#[109, 97, 112]⟩, .string ⟨#[102, 117, 110, 99]⟩, .string ⟨#[97, 110, 121]⟩, .string ⟨#[110, 105, 108]⟩] 9)) (some ⟨w1.heap.size, 0, none⟩) [[109, 97, 112], [102, 117, 110, 99], [97, 110, 121], [110, 105, 108]] := .inr ⟨_, rfl, by simp, fun i hi => by
    match i, hi with
    | 0, _ => exact cell_mid _ _ _ _ _ _ rfl rfl
    | 1, _ => exact cell_mid _ _ _ _ _ _ rfl rfl
    | 2, _ => exact cell_mid _ _ _ _ _ _ rfl rfl
    | 3, _ => exact cell_mid _ _ _ _ _ _ rfl rfl
    | i + 4, h => exact absurd h (by show ¬ (i + 4 < 4); omega)⟩
  go_wp2_with fail
  refine (HA.out _ _ hT).mono ?_
  rintro e w2 ⟨rfl, rfl⟩
  have HE : Hid _ := hb2
  clear hb2 hT hb
  go_wp2_with fail
  go_ret
  exact ⟨rfl, HE.out⟩

set_option maxRecDepth 100000 in
set_option maxHeartbeats 4000000 in
theorem worded_other (st : Int) (h0 : (st == 0) = false) (h2 : (st == 2) = false) (h10 : (st == 10) = false) (h11 : (st == 11) = false) (h25 : (st == 25) = false) (h26 : (st == 26) = false) (h27 : (st == 27) = false) (h28 : (st == 28) = false) (s : ByteArray) (q : Bool) (w : World) (h : Calls Tryz.prog 78 #[.string s] w fun e w' => e = .returned (.bool q) ∧ Below w.heap.size w w') : Calls Tryz.prog 79 #[.string s, .int .i64 st] w fun e w' => e = .returned (.bool q) ∧ Below w.heap.size w w' := by
  have H : Hid (Calls Tryz.prog 78 #[.string s] w fun e w' => e = .returned (.bool q) ∧ Below w.heap.size w w') := h
  clear h
  go_enter Tryz.func79, Tryz.ntmps79
  go_wp2_with fail
  refine Calls.mono H.out ?_
  rintro e w1 ⟨rfl, hb⟩
  go_wp2_with fail
  go_ret
  exact ⟨rfl, hb⟩
theorem worded_any (st : Nat) (hst : st < 30) (s : ByteArray) (w : World) : Calls Tryz.prog 79 #[.string s, .int .i64 (st : Nat)] w fun e w' => e = .returned (.bool (nameB s.data.toList || (wordsS st).contains s.data.toList)) ∧ Below w.heap.size w w' := by
  have h := rName_any s w
  by_cases e0 : st = 0
  · subst e0
    cases hq : nameB s.data.toList with
    | true => rw [hq] at h; exact worded_0a s w h
    | false => rw [hq] at h; exact worded_0b s w h
  by_cases e2 : st = 2
  · subst e2
    cases hq : nameB s.data.toList with
    | true => rw [hq] at h; exact worded_2a s w h
    | false => rw [hq] at h; exact worded_2b s w h
  by_cases e10 : st = 10
  · subst e10
    cases hq : nameB s.data.toList with
    | true => rw [hq] at h; exact worded_10a s w h
    | false => rw [hq] at h; exact worded_10b s w h
  by_cases e11 : st = 11
  · subst e11
    cases hq : nameB s.data.toList with
    | true => rw [hq] at h; exact worded_11a s w h
    | false => rw [hq] at h; exact worded_11b s w h
  by_cases e25 : st = 25
  · subst e25
    cases hq : nameB s.data.toList with
    | true => rw [hq] at h; exact worded_25a s w h
    | false => rw [hq] at h; exact worded_25b s w h
  by_cases e26 : st = 26
  · subst e26
    cases hq : nameB s.data.toList with
    | true => rw [hq] at h; exact worded_26a s w h
    | false => rw [hq] at h; exact worded_26b s w h
  by_cases e27 : st = 27
  · subst e27
    cases hq : nameB s.data.toList with
    | true => rw [hq] at h; exact worded_27a s w h
    | false => rw [hq] at h; exact worded_27b s w h
  by_cases e28 : st = 28
  · subst e28
    cases hq : nameB s.data.toList with
    | true => rw [hq] at h; exact worded_28a s w h
    | false => rw [hq] at h; exact worded_28b s w h
  have e : wordsS st = [] := by
    rcases stand_cases hst with rfl | rfl | rfl | rfl | rfl | rfl | rfl | rfl | rfl | rfl | rfl | rfl | rfl | rfl | rfl | rfl | rfl | rfl | rfl | rfl | rfl | rfl | rfl | rfl | rfl | rfl | rfl | rfl | rfl | rfl
    all_goals first
      | rfl
      | exact absurd rfl (by assumption)
  rw [e]
  have e2 : (nameB s.data.toList || ([] : List Bytes).contains s.data.toList) = nameB s.data.toList := by simp
  rw [e2]
  exact worded_other (st : Nat) (by simp; omega) (by simp; omega) (by simp; omega) (by simp; omega) (by simp; omega) (by simp; omega) (by simp; omega) (by simp; omega) s _ w h
end Go.Proofs.YthbnegggohegkaaGreatDoor
