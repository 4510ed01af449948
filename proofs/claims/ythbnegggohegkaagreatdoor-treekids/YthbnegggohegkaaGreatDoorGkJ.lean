/-
  The walks of isName, isAssign, isUnary and binaryLevel, at every text.
  The walks of slices.Index and slices.Contains at rows of texts, of (role).words, and of isToken.
-/
import Derived.Test.YthbnegggohegkaaGreatDoorGd
import Derived.Test.YthbnegggohegkaaGreatDoorNm
import Derived.Test.YthbnegggohegkaaGreatDoorRt
import Derived.Test.YthbnegggohegkaaGreatDoorGc
import Derived.Test.YthbnegggohegkaaGreatDoorFr
import Derived.Test.YthbnegggohegkaaGreatDoorPoJ
namespace Go.Proofs.YthbnegggohegkaaGreatDoor
open Go.RowKit

theorem text_eq {s : ByteArray} {l : List UInt8} (h : s.data.toList = l) : s = ⟨l.toArray⟩ := by
  obtain ⟨d⟩ := s
  subst h
  simp

set_option maxHeartbeats 2000000 in
theorem assign_any (s : ByteArray) (w : World) : Calls Tryz.prog 124 #[.string s] w fun e w' => e = .returned (.bool (assignB s.data.toList)) ∧ w' = w := by
  by_cases h0 : s.data.toList = [61]
  · obtain rfl := text_eq h0
    go_enter Tryz.func124, Tryz.ntmps124
    go_wp2
    go_ret
    exact ⟨rfl, rfl⟩
  by_cases h1 : s.data.toList = [43, 61]
  · obtain rfl := text_eq h1
    go_enter Tryz.func124, Tryz.ntmps124
    go_wp2
    go_ret
    exact ⟨rfl, rfl⟩
  by_cases h2 : s.data.toList = [45, 61]
  · obtain rfl := text_eq h2
    go_enter Tryz.func124, Tryz.ntmps124
    go_wp2
    go_ret
    exact ⟨rfl, rfl⟩
  by_cases h3 : s.data.toList = [42, 61]
  · obtain rfl := text_eq h3
    go_enter Tryz.func124, Tryz.ntmps124
    go_wp2
    go_ret
    exact ⟨rfl, rfl⟩
  by_cases h4 : s.data.toList = [47, 61]
  · obtain rfl := text_eq h4
    go_enter Tryz.func124, Tryz.ntmps124
    go_wp2
    go_ret
    exact ⟨rfl, rfl⟩
  by_cases h5 : s.data.toList = [37, 61]
  · obtain rfl := text_eq h5
    go_enter Tryz.func124, Tryz.ntmps124
    go_wp2
    go_ret
    exact ⟨rfl, rfl⟩
  by_cases h6 : s.data.toList = [38, 61]
  · obtain rfl := text_eq h6
    go_enter Tryz.func124, Tryz.ntmps124
    go_wp2
    go_ret
    exact ⟨rfl, rfl⟩
  by_cases h7 : s.data.toList = [124, 61]
  · obtain rfl := text_eq h7
    go_enter Tryz.func124, Tryz.ntmps124
    go_wp2
    go_ret
    exact ⟨rfl, rfl⟩
  by_cases h8 : s.data.toList = [94, 61]
  · obtain rfl := text_eq h8
    go_enter Tryz.func124, Tryz.ntmps124
    go_wp2
    go_ret
    exact ⟨rfl, rfl⟩
  by_cases h9 : s.data.toList = [60, 60, 61]
  · obtain rfl := text_eq h9
    go_enter Tryz.func124, Tryz.ntmps124
    go_wp2
    go_ret
    exact ⟨rfl, rfl⟩
  by_cases h10 : s.data.toList = [62, 62, 61]
  · obtain rfl := text_eq h10
    go_enter Tryz.func124, Tryz.ntmps124
    go_wp2
    go_ret
    exact ⟨rfl, rfl⟩
  have e : assignB s.data.toList = false := by
    simp [assignB, h0, h1, h2, h3, h4, h5, h6, h7, h8, h9, h10]
  rw [e]
  have g0 : (s.toList == [61]) = false := by rw [ByteArray.toList_eq]; exact beq_false_of_ne h0
  have g1 : (s.toList == [43, 61]) = false := by rw [ByteArray.toList_eq]; exact beq_false_of_ne h1
  have g2 : (s.toList == [45, 61]) = false := by rw [ByteArray.toList_eq]; exact beq_false_of_ne h2
  have g3 : (s.toList == [42, 61]) = false := by rw [ByteArray.toList_eq]; exact beq_false_of_ne h3
  have g4 : (s.toList == [47, 61]) = false := by rw [ByteArray.toList_eq]; exact beq_false_of_ne h4
  have g5 : (s.toList == [37, 61]) = false := by rw [ByteArray.toList_eq]; exact beq_false_of_ne h5
  have g6 : (s.toList == [38, 61]) = false := by rw [ByteArray.toList_eq]; exact beq_false_of_ne h6
  have g7 : (s.toList == [124, 61]) = false := by rw [ByteArray.toList_eq]; exact beq_false_of_ne h7
  have g8 : (s.toList == [94, 61]) = false := by rw [ByteArray.toList_eq]; exact beq_false_of_ne h8
  have g9 : (s.toList == [60, 60, 61]) = false := by rw [ByteArray.toList_eq]; exact beq_false_of_ne h9
  have g10 : (s.toList == [62, 62, 61]) = false := by rw [ByteArray.toList_eq]; exact beq_false_of_ne h10
  clear e h0 h1 h2 h3 h4 h5 h6 h7 h8 h9 h10
  go_enter Tryz.func124, Tryz.ntmps124
  go_wp2
  go_ret
  exact ⟨rfl, rfl⟩

set_option maxHeartbeats 2000000 in
theorem isUnary_any (s : ByteArray) (w : World) : Calls Tryz.prog 126 #[.string s] w fun e w' => e = .returned (.bool (unaryB s.data.toList)) ∧ w' = w := by
  by_cases h0 : s.data.toList = [45]
  · obtain rfl := text_eq h0
    go_enter Tryz.func126, Tryz.ntmps126
    go_wp2
    go_ret
    exact ⟨rfl, rfl⟩
  by_cases h1 : s.data.toList = [33]
  · obtain rfl := text_eq h1
    go_enter Tryz.func126, Tryz.ntmps126
    go_wp2
    go_ret
    exact ⟨rfl, rfl⟩
  by_cases h2 : s.data.toList = [94]
  · obtain rfl := text_eq h2
    go_enter Tryz.func126, Tryz.ntmps126
    go_wp2
    go_ret
    exact ⟨rfl, rfl⟩
  by_cases h3 : s.data.toList = [42]
  · obtain rfl := text_eq h3
    go_enter Tryz.func126, Tryz.ntmps126
    go_wp2
    go_ret
    exact ⟨rfl, rfl⟩
  have e : unaryB s.data.toList = false := by
    simp [unaryB, h0, h1, h2, h3]
  rw [e]
  have g0 : (s.toList == [45]) = false := by rw [ByteArray.toList_eq]; exact beq_false_of_ne h0
  have g1 : (s.toList == [33]) = false := by rw [ByteArray.toList_eq]; exact beq_false_of_ne h1
  have g2 : (s.toList == [94]) = false := by rw [ByteArray.toList_eq]; exact beq_false_of_ne h2
  have g3 : (s.toList == [42]) = false := by rw [ByteArray.toList_eq]; exact beq_false_of_ne h3
  clear e h0 h1 h2 h3
  go_enter Tryz.func126, Tryz.ntmps126
  go_wp2
  go_ret
  exact ⟨rfl, rfl⟩

/-- How close a sign binds; 0: it is none. -/
def levelN (s : Bytes) : Nat :=
  if [[124, 124]].contains s then 1 else
  if [[38, 38]].contains s then 2 else
  if [[61, 61], [33, 61], [60], [60, 61], [62], [62, 61]].contains s then 3 else
  if [[43], [45], [124], [94]].contains s then 4 else
  if [[42], [47], [37], [38], [60, 60], [62, 62]].contains s then 5 else
  0
theorem bin_level (s : Bytes) : binB s = decide (0 < levelN s) := by
  unfold binB levelN
  by_cases h0 : s = [124, 124]
  · subst h0; rfl
  by_cases h1 : s = [38, 38]
  · subst h1; rfl
  by_cases h2 : s = [61, 61]
  · subst h2; rfl
  by_cases h3 : s = [33, 61]
  · subst h3; rfl
  by_cases h4 : s = [60]
  · subst h4; rfl
  by_cases h5 : s = [60, 61]
  · subst h5; rfl
  by_cases h6 : s = [62]
  · subst h6; rfl
  by_cases h7 : s = [62, 61]
  · subst h7; rfl
  by_cases h8 : s = [43]
  · subst h8; rfl
  by_cases h9 : s = [45]
  · subst h9; rfl
  by_cases h10 : s = [124]
  · subst h10; rfl
  by_cases h11 : s = [94]
  · subst h11; rfl
  by_cases h12 : s = [42]
  · subst h12; rfl
  by_cases h13 : s = [47]
  · subst h13; rfl
  by_cases h14 : s = [37]
  · subst h14; rfl
  by_cases h15 : s = [38]
  · subst h15; rfl
  by_cases h16 : s = [60, 60]
  · subst h16; rfl
  by_cases h17 : s = [62, 62]
  · subst h17; rfl
  simp [h0, h1, h2, h3, h4, h5, h6, h7, h8, h9, h10, h11, h12, h13, h14, h15, h16, h17]

set_option maxHeartbeats 2000000 in
theorem level_any (s : ByteArray) (w : World) : Calls Tryz.prog 127 #[.string s] w fun e w' => e = .returned (.int .i64 (levelN s.data.toList : Nat)) ∧ w' = w := by
  by_cases h0 : s.data.toList = [124, 124]
  · obtain rfl := text_eq h0
    go_enter Tryz.func127, Tryz.ntmps127
    go_wp2
    go_ret
    exact ⟨rfl, rfl⟩
  by_cases h1 : s.data.toList = [38, 38]
  · obtain rfl := text_eq h1
    go_enter Tryz.func127, Tryz.ntmps127
    go_wp2
    go_ret
    exact ⟨rfl, rfl⟩
  by_cases h2 : s.data.toList = [61, 61]
  · obtain rfl := text_eq h2
    go_enter Tryz.func127, Tryz.ntmps127
    go_wp2
    go_ret
    exact ⟨rfl, rfl⟩
  by_cases h3 : s.data.toList = [33, 61]
  · obtain rfl := text_eq h3
    go_enter Tryz.func127, Tryz.ntmps127
    go_wp2
    go_ret
    exact ⟨rfl, rfl⟩
  by_cases h4 : s.data.toList = [60]
  · obtain rfl := text_eq h4
    go_enter Tryz.func127, Tryz.ntmps127
    go_wp2
    go_ret
    exact ⟨rfl, rfl⟩
  by_cases h5 : s.data.toList = [60, 61]
  · obtain rfl := text_eq h5
    go_enter Tryz.func127, Tryz.ntmps127
    go_wp2
    go_ret
    exact ⟨rfl, rfl⟩
  by_cases h6 : s.data.toList = [62]
  · obtain rfl := text_eq h6
    go_enter Tryz.func127, Tryz.ntmps127
    go_wp2
    go_ret
    exact ⟨rfl, rfl⟩
  by_cases h7 : s.data.toList = [62, 61]
  · obtain rfl := text_eq h7
    go_enter Tryz.func127, Tryz.ntmps127
    go_wp2
    go_ret
    exact ⟨rfl, rfl⟩
  by_cases h8 : s.data.toList = [43]
  · obtain rfl := text_eq h8
    go_enter Tryz.func127, Tryz.ntmps127
    go_wp2
    go_ret
    exact ⟨rfl, rfl⟩
  by_cases h9 : s.data.toList = [45]
  · obtain rfl := text_eq h9
    go_enter Tryz.func127, Tryz.ntmps127
    go_wp2
    go_ret
    exact ⟨rfl, rfl⟩
  by_cases h10 : s.data.toList = [124]
  · obtain rfl := text_eq h10
    go_enter Tryz.func127, Tryz.ntmps127
    go_wp2
    go_ret
    exact ⟨rfl, rfl⟩
  by_cases h11 : s.data.toList = [94]
  · obtain rfl := text_eq h11
    go_enter Tryz.func127, Tryz.ntmps127
    go_wp2
    go_ret
    exact ⟨rfl, rfl⟩
  by_cases h12 : s.data.toList = [42]
  · obtain rfl := text_eq h12
    go_enter Tryz.func127, Tryz.ntmps127
    go_wp2
    go_ret
    exact ⟨rfl, rfl⟩
  by_cases h13 : s.data.toList = [47]
  · obtain rfl := text_eq h13
    go_enter Tryz.func127, Tryz.ntmps127
    go_wp2
    go_ret
    exact ⟨rfl, rfl⟩
  by_cases h14 : s.data.toList = [37]
  · obtain rfl := text_eq h14
    go_enter Tryz.func127, Tryz.ntmps127
    go_wp2
    go_ret
    exact ⟨rfl, rfl⟩
  by_cases h15 : s.data.toList = [38]
  · obtain rfl := text_eq h15
    go_enter Tryz.func127, Tryz.ntmps127
    go_wp2
    go_ret
    exact ⟨rfl, rfl⟩
  by_cases h16 : s.data.toList = [60, 60]
  · obtain rfl := text_eq h16
    go_enter Tryz.func127, Tryz.ntmps127
    go_wp2
    go_ret
    exact ⟨rfl, rfl⟩
  by_cases h17 : s.data.toList = [62, 62]
  · obtain rfl := text_eq h17
    go_enter Tryz.func127, Tryz.ntmps127
    go_wp2
    go_ret
    exact ⟨rfl, rfl⟩
  have e : levelN s.data.toList = 0 := by
    simp [levelN, h0, h1, h2, h3, h4, h5, h6, h7, h8, h9, h10, h11, h12, h13, h14, h15, h16, h17]
  rw [e]
  have g0 : (s.toList == [124, 124]) = false := by rw [ByteArray.toList_eq]; exact beq_false_of_ne h0
  have g1 : (s.toList == [38, 38]) = false := by rw [ByteArray.toList_eq]; exact beq_false_of_ne h1
  have g2 : (s.toList == [61, 61]) = false := by rw [ByteArray.toList_eq]; exact beq_false_of_ne h2
  have g3 : (s.toList == [33, 61]) = false := by rw [ByteArray.toList_eq]; exact beq_false_of_ne h3
  have g4 : (s.toList == [60]) = false := by rw [ByteArray.toList_eq]; exact beq_false_of_ne h4
  have g5 : (s.toList == [60, 61]) = false := by rw [ByteArray.toList_eq]; exact beq_false_of_ne h5
  have g6 : (s.toList == [62]) = false := by rw [ByteArray.toList_eq]; exact beq_false_of_ne h6
  have g7 : (s.toList == [62, 61]) = false := by rw [ByteArray.toList_eq]; exact beq_false_of_ne h7
  have g8 : (s.toList == [43]) = false := by rw [ByteArray.toList_eq]; exact beq_false_of_ne h8
  have g9 : (s.toList == [45]) = false := by rw [ByteArray.toList_eq]; exact beq_false_of_ne h9
  have g10 : (s.toList == [124]) = false := by rw [ByteArray.toList_eq]; exact beq_false_of_ne h10
  have g11 : (s.toList == [94]) = false := by rw [ByteArray.toList_eq]; exact beq_false_of_ne h11
  have g12 : (s.toList == [42]) = false := by rw [ByteArray.toList_eq]; exact beq_false_of_ne h12
  have g13 : (s.toList == [47]) = false := by rw [ByteArray.toList_eq]; exact beq_false_of_ne h13
  have g14 : (s.toList == [37]) = false := by rw [ByteArray.toList_eq]; exact beq_false_of_ne h14
  have g15 : (s.toList == [38]) = false := by rw [ByteArray.toList_eq]; exact beq_false_of_ne h15
  have g16 : (s.toList == [60, 60]) = false := by rw [ByteArray.toList_eq]; exact beq_false_of_ne h16
  have g17 : (s.toList == [62, 62]) = false := by rw [ByteArray.toList_eq]; exact beq_false_of_ne h17
  clear e h0 h1 h2 h3 h4 h5 h6 h7 h8 h9 h10 h11 h12 h13 h14 h15 h16 h17
  go_enter Tryz.func127, Tryz.ntmps127
  go_wp2
  go_ret
  exact ⟨rfl, rfl⟩

set_option maxRecDepth 100000 in
set_option maxHeartbeats 1000000 in
theorem treeName_any {gw ow gs os : Nat} (s : ByteArray) (w : World) (ht : TabsAt gw ow gs os w) :
    Calls Tryz.prog 121 #[.string s] w fun e w' => e = .returned (.bool (nameB s.data.toList)) ∧ Below w.heap.size w w' := by
  by_cases h0 : s.data.toList = [95]
  · obtain rfl := text_eq h0
    have hn : isName [95] = true := by kernel_rfl
    have hv : nameB (ByteArray.mk [95].toArray).data.toList = false := by kernel_rfl
    rw [hv]
    clear h0 hv
    go_enter Tryz.func121, Tryz.ntmps121
    go_wp2_with fail
    refine (name_any _ _ ht).mono ?_
    rintro e w1 ⟨rfl, hb⟩
    rw [show isName (ByteArray.mk #[95]).data.toList = true from hn]
    go_wp2_with fail
    go_ret
    exact ⟨rfl, hb⟩
  have g0 : (s.toList == [95]) = false := by rw [ByteArray.toList_eq]; exact beq_false_of_ne h0
  have hv : nameB s.data.toList = isName s.data.toList := by unfold nameB; rw [beq_false_of_ne h0]; simp
  rw [hv]
  clear h0 hv
  obtain ⟨q, hq⟩ : ∃ q, q = isName s.data.toList := ⟨_, rfl⟩
  have HQ : Hid (q = isName s.data.toList) := hq
  rw [← hq]
  clear hq
  cases q
  all_goals
    go_enter Tryz.func121, Tryz.ntmps121
    go_wp2_with fail
    refine (name_any _ _ ht).mono ?_
    rintro e w1 ⟨rfl, hb⟩
    rw [← HQ.out]
    go_wp2_with fail
    go_ret
    exact ⟨rfl, hb⟩
end Go.Proofs.YthbnegggohegkaaGreatDoor
namespace Go.Proofs.YthbnegggohegkaaGreatDoor
open Go.RowKit

/-- A row of texts. -/
def TextsAt (w : World) (p : Option Addr) (ws : List Bytes) : Prop :=
  (ws = [] ∧ p = none) ∨ ∃ g, p = some ⟨g, 0, none⟩ ∧ g < w.heap.size ∧ ∀ (i : Nat) (h : i < ws.length), w.cell? ⟨g, i, none⟩ = some (.string ⟨ws[i].toArray⟩)
theorem TextsAt.below {w w' : World} {p : Option Addr} {ws : List Bytes} (h : TextsAt w p ws) {B : Nat} (hB : w.heap.size ≤ B) (hb : Below B w w') : TextsAt w' p ws := by
  rcases h with h | ⟨g, h1, h3, h4⟩
  · exact .inl h
  · exact .inr ⟨g, h1, by have := hb.size; omega, fun i hi => (hb.cell (p := ⟨g, i, none⟩) (by show g < B; omega)).trans (h4 i hi)⟩

theorem contains_split (ws : List Bytes) (x : Bytes) (j : Nat) (h : j < ws.length) (e : ws[j] = x) : ws.contains x = true := by
  rw [List.contains_iff_mem, ← e]; exact List.getElem_mem h
theorem contains_not (ws : List Bytes) (x : Bytes) (h : ∀ (m : Nat) (hm : m < ws.length), ws[m] ≠ x) : ws.contains x = false := by
  cases e : ws.contains x with
  | false => rfl
  | true =>
    rw [List.contains_iff_mem] at e
    obtain ⟨m, hm, e⟩ := List.getElem_of_mem e
    exact absurd e (h m hm)

set_option maxHeartbeats 1000000 in
theorem index_any (ws : List Bytes) (p : Option Addr) (c : Nat) (x : ByteArray) (w : World) (hl : ws.length ≤ 100) (hT : TextsAt w p ws) :
    Calls Tryz.prog 140 #[.slice p ws.length c, .string x] w fun e w' => ∃ r : Int, e = .returned (.int .i64 r) ∧ Hid (decide (0 ≤ r) = ws.contains x.data.toList) ∧ w' = w := by
  have HT : Hid _ := hT
  clear hT
  go_enter Tryz.func140, Tryz.ntmps140
  go_wp2_with fail
  go_loopg [8] ws.length (fun gk i wr => ∃ j : Nat, gk + j = ws.length ∧ i = .int .i64 j ∧ wr = w ∧ Hid (∀ (m : Nat) (hm : m < ws.length), m < j → ws[m] ≠ x.data.toList))
  case atStart => exact ⟨0, rfl, rfl, rfl, fun _ _ h => by omega⟩
  case round =>
    obtain ⟨j, hj, rfl, rfl, hno⟩ := hrel
    by_cases hlt : j < ws.length
    · obtain ⟨g, rfl, hg, hc⟩ := HT.out.resolve_left (fun h => by rw [h.1] at hlt; simp at hlt)
      have hx := hc j hlt
      have HE : Hid (∀ y : ByteArray, y = ⟨ws[j].toArray⟩ → (x.toList == y.toList) = (ws[j] == x.data.toList)) := fun y hy => by
        subst hy; rw [ByteArray.toList_eq, ByteArray.toList_eq]
        show (x.data.toList == ws[j].toArray.toList) = _
        rw [List.toList_toArray, Bool.beq_comm]
      obtain ⟨y, hy⟩ : ∃ y : ByteArray, y = ⟨ws[j].toArray⟩ := ⟨_, rfl⟩
      rw [← hy] at hx
      have he := HE.out y hy
      clear hc HE hy
      cases hb : ws[j] == x.data.toList with
      | true =>
        have HC : Hid (ws.contains x.data.toList = true) := contains_split ws _ j hlt (eq_of_beq hb)
        rw [hb] at he
        clear hb hno
        go_wp2_with fail
        go_ret
        exact ⟨j, rfl, by show _ = _; rw [HC.out]; simp, rfl⟩
      | false =>
        have HN : Hid (∀ (m : Nat) (hm : m < ws.length), m < j + 1 → ws[m] ≠ x.data.toList) := fun m hm h => by
          rcases Nat.lt_or_ge m j with h1 | h1
          · exact hno.out m hm h1
          · obtain rfl : m = j := by omega
            exact ne_of_beq_false hb
        rw [hb] at he
        have HJ : Hid (gk + j = ws.length) := hj
        clear hb hno hj
        go_wp2_with fail
        go_roundg (ws.length - (j + 1))
        case measure => have := HJ.out; omega
        case rel => exact ⟨j + 1, by omega, by go_num, rfl, HN.out⟩
    · have HC : Hid (ws.contains x.data.toList = false) := contains_not ws _ (fun m hm => hno.out m hm (by omega))
      clear hno hj
      go_wp2_with fail
      go_ret
      exact ⟨-1, rfl, by show _ = _; rw [HC.out]; rfl, rfl⟩

set_option maxHeartbeats 1000000 in
theorem contains_any (ws : List Bytes) (p : Option Addr) (c : Nat) (x : ByteArray) (w : World) (hl : ws.length ≤ 100) (hT : TextsAt w p ws) :
    Calls Tryz.prog 122 #[.slice p ws.length c, .string x] w fun e w' => e = .returned (.bool (ws.contains x.data.toList)) ∧ w' = w := by
  have HI : Hid (Calls Tryz.prog 140 #[.slice p ws.length c, .string x] w fun e w' => ∃ r : Int, e = .returned (.int .i64 r) ∧ Hid (decide (0 ≤ r) = ws.contains x.data.toList) ∧ w' = w) := index_any ws p c x w hl hT
  clear hT
  obtain ⟨q, hq⟩ : ∃ q, q = ws.contains x.data.toList := ⟨_, rfl⟩
  rw [← hq] at HI ⊢
  clear hq
  go_enter Tryz.func122, Tryz.ntmps122
  go_wp2_with fail
  refine Calls.mono HI.out ?_
  rintro e w1 ⟨r, rfl, hr, rfl⟩
  clear HI
  go_wp2_with fail
  go_ret
  exact ⟨congrArg (fun b => Ending.returned (.bool b)) hr.out, rfl⟩

set_option maxHeartbeats 4000000 in
theorem words_any (rl : Nat) (hrl : rl ≤ 30) (w : World) : Calls Tryz.prog 123 #[.int .i64 rl] w fun e w' => ∃ p, e = .returned (.slice p (wordsN rl).length (wordsN rl).length) ∧ TextsAt w' p (wordsN rl) ∧ Below w.heap.size w w' := by
  rcases role_cases hrl with rfl | rfl | rfl | rfl | rfl | rfl | rfl | rfl | rfl | rfl | rfl | rfl | rfl | rfl | rfl | rfl | rfl | rfl | rfl | rfl | rfl | rfl | rfl | rfl | rfl | rfl | rfl | rfl | rfl | rfl | rfl
  all_goals
    go_enter Tryz.func123, Tryz.ntmps123
    go_wp2
    go_ret
    first
      | exact ⟨none, rfl, .inl ⟨rfl, rfl⟩, Below.refl _ _⟩
      | (refine ⟨some ⟨w.heap.size, 0, none⟩, rfl, .inr ⟨_, rfl, by simp, ?_⟩, below1 _ _⟩; (intro i hi; match i, hi with | 0, _ => exact cell_mid _ _ _ _ _ _ rfl rfl | 1, _ => exact cell_mid _ _ _ _ _ _ rfl rfl | i + 2, h => exact absurd h (by show ¬ (i + 2 < 2); omega)); done)
      | (refine ⟨some ⟨w.heap.size, 0, none⟩, rfl, .inr ⟨_, rfl, by simp, ?_⟩, below1 _ _⟩; (intro i hi; match i, hi with | 0, _ => exact cell_mid _ _ _ _ _ _ rfl rfl | 1, _ => exact cell_mid _ _ _ _ _ _ rfl rfl | 2, _ => exact cell_mid _ _ _ _ _ _ rfl rfl | i + 3, h => exact absurd h (by show ¬ (i + 3 < 3); omega)); done)
      | (refine ⟨some ⟨w.heap.size, 0, none⟩, rfl, .inr ⟨_, rfl, by simp, ?_⟩, below1 _ _⟩; (intro i hi; match i, hi with | 0, _ => exact cell_mid _ _ _ _ _ _ rfl rfl | 1, _ => exact cell_mid _ _ _ _ _ _ rfl rfl | 2, _ => exact cell_mid _ _ _ _ _ _ rfl rfl | 3, _ => exact cell_mid _ _ _ _ _ _ rfl rfl | i + 4, h => exact absurd h (by show ¬ (i + 4 < 4); omega)); done)
      | (refine ⟨some ⟨w.heap.size, 0, none⟩, rfl, .inr ⟨_, rfl, by simp, ?_⟩, below1 _ _⟩; (intro i hi; match i, hi with | 0, _ => exact cell_mid _ _ _ _ _ _ rfl rfl | 1, _ => exact cell_mid _ _ _ _ _ _ rfl rfl | 2, _ => exact cell_mid _ _ _ _ _ _ rfl rfl | 3, _ => exact cell_mid _ _ _ _ _ _ rfl rfl | 4, _ => exact cell_mid _ _ _ _ _ _ rfl rfl | 5, _ => exact cell_mid _ _ _ _ _ _ rfl rfl | i + 6, h => exact absurd h (by show ¬ (i + 6 < 6); omega)); done)
theorem words_len (rl : Nat) : (wordsN rl).length ≤ 100 := by
  unfold wordsN
  repeat' split
  all_goals simp

theorem tokB_error {s : Bytes} {kd : Nat} {e : Nat × Nat} (h : scanSpec s = .error e) : tokB s kd = false := by unfold tokB; rw [h]
theorem tokB_ok {s : Bytes} {kd : Nat} {ts : List Tok} (h : scanSpec s = .ok ts) : tokB s kd = (ts.length == 2 && (ts.getD 0 (0, [], 0)).1 == kd && (ts.getD 0 (0, [], 0)).2.1 == s) := by unfold tokB; rw [h]

set_option maxRecDepth 100000 in
set_option maxHeartbeats 1000000 in
theorem token_any {gw ow gs os : Nat} (s : ByteArray) (kd : Nat) (w : World) (ht : TabsAt gw ow gs os w) :
    Calls Tryz.prog 125 #[.string s, .int .i64 kd] w fun e w' => e = .returned (.bool (tokB s.data.toList kd)) ∧ Below w.heap.size w w' := by
  obtain ⟨R, hR⟩ : ∃ R, R = scanSpec s.data.toList := ⟨_, rfl⟩
  have HS : Hid (∀ W, TabsAt gw ow gs os W → Calls Tryz.prog 141 #[.string s] W fun e w' => ScanRes W w' e R) := fun W hW => by rw [hR]; exact scan_any s W hW
  cases R with
  | error c =>
    rw [tokB_error hR.symm]
    clear hR
    go_enter Tryz.func125, Tryz.ntmps125
    go_wp2_with fail
    refine (HS.out _ ht).mono ?_
    intro e w1 hres
    cases hres with
    | error c p b he hlo hwr hb =>
      subst he
      go_wp2_with fail
      go_ret
      exact ⟨rfl, hb⟩
  | ok ts =>
    rw [tokB_ok hR.symm]
    clear hR
    by_cases h2 : ts.length = 2
    · match ts, h2 with
      | [(k0, t0, a0), (k1, t1, a1)], _ =>
        show Calls Tryz.prog 125 #[.string s, .int .i64 kd] w fun e w' => e = .returned (.bool (true && k0 == kd && t0 == s.data.toList)) ∧ Below w.heap.size w w'
        rw [Bool.true_and]
        have hnk : ((k0 : Int) == (kd : Int)) = (k0 == kd) := by
          cases h : k0 == kd with
          | true => rw [eq_of_beq h]; simp
          | false => have := ne_of_beq_false h; simp; omega
        have hnt : ∀ y : ByteArray, y.data.toList = t0 → (y.toList == s.toList) = (t0 == s.data.toList) := fun y hy => by rw [ByteArray.toList_eq, ByteArray.toList_eq, hy]
        have HNT : Hid _ := hnt
        clear hnt
        obtain ⟨q1, hq1⟩ : ∃ q, q = (k0 == kd) := ⟨_, rfl⟩
        obtain ⟨q2, hq2⟩ : ∃ q, q = (t0 == s.data.toList) := ⟨_, rfl⟩
        rw [← hq1] at hnk ⊢
        rw [← hq2] at HNT ⊢
        clear hq1 hq2
        go_enter Tryz.func125, Tryz.ntmps125
        go_wp2_with fail
        refine (HS.out _ ht).mono ?_
        intro e w1 hres
        cases hres with
        | ok ts v he ho hn hb =>
          subst he
          obtain ⟨g, cap, rfl⟩ : ∃ g cap, v = .slice (some ⟨g, 0, none⟩) 2 cap := by
            rcases ho.2 with ⟨_, h1⟩ | ⟨g, cap, cur, hv, _⟩
            · cases h1
            · exact ⟨g, cap, hv⟩
          have c0 := (own_cell ho 0 _ rfl).1
          have c1 := (own_cell ho 1 _ rfl).1
          have hy := HNT.out ⟨t0.toArray⟩ (by simp)
          generalize (⟨t0.toArray⟩ : ByteArray) = y at c1 hy
          clear ho HNT HS
          have h3 : (q1 && q2) = if q1 then q2 else false := by cases q1 <;> rfl
          cases q1
          all_goals
            go_wp2_with fail
            go_ret
            exact ⟨rfl, hb⟩
    · have hv : (ts.length == 2 && (ts.getD 0 (0, [], 0)).1 == kd && (ts.getD 0 (0, [], 0)).2.1 == s.data.toList) = false := by rw [beq_false_of_ne h2]; rfl
      rw [hv]
      have hi2 : ((ts.length : Int) == 2) = false := by simp; omega
      clear hv h2
      go_enter Tryz.func125, Tryz.ntmps125
      go_wp2_with fail
      refine (HS.out _ ht).mono ?_
      intro e w1 hres
      cases hres with
      | ok ts v he ho hn hb =>
        subst he
        obtain ⟨p, cap, rfl⟩ := ownsRow_slice ho
        clear ho
        go_wp2_with fail
        go_ret
        exact ⟨rfl, hb⟩
end Go.Proofs.YthbnegggohegkaaGreatDoor
