/-
  secondDefault, listsTypes, ownRole and wrong, at every node.
  listsTypes, ownRole and wrong, at every node.
-/
import Derived.Test.YthbnegggohegkaaGreatDoorGn
import Derived.Test.YthbnegggohegkaaGreatDoorRi
namespace Go.Proofs.YthbnegggohegkaaGreatDoor
open Go.RowKit

theorem secDef_drop (ks : List MT) (j d : Nat) (h : j < ks.length) : secDef (ks.drop j) d j = if d + (isDef ks[j]).toNat = 2 then (j : Int) else secDef (ks.drop (j + 1)) (d + (isDef ks[j]).toNat) (j + 1) := by
  rw [List.drop_eq_getElem_cons h, secDef]

set_option maxRecDepth 100000 in
set_option maxHeartbeats 4000000 in
theorem second_all (k : Int) (s : ByteArray) (n a : Int) (p : Option Addr) (c : Nat) (ks : List MT) (w : World) (hin : (MT.node k s n a p c ks).In w.heap.size w) :
    Calls Tryz.prog 52 #[.agg (nd k s n a p ks.length c)] w fun e w' => e = .returned (.int .i64 (secDef ks 0 0)) ∧ Below w.heap.size w w' := by
  have hcap := hin.cap_le
  have hlc := hin.len_le
  have hL := hin.kidsL
  simp only [MT.cap_node, MT.kids_node, MT.ptr_node] at hcap hlc hL
  unfold maxLen at hcap
  clear hin
  obtain ⟨R, hR⟩ : ∃ R, R = secDef ks 0 0 := ⟨_, rfl⟩
  rw [← hR]
  have HR : Hid (R = secDef ks 0 0) := hR
  clear hR
  have hb1 := below1 w (.cells #[.int .i64 k, .string s, .int .i64 n, .int .i64 a, .slice p ks.length c] 24)
  go_enter Tryz.func52, Tryz.ntmps52
  go_wp2_with fail
  go_loopg [3, 9] ks.length (fun gk d i wr => ∃ (j dn : Nat), gk + j = ks.length ∧ dn < 2 ∧ d = .int .i64 dn ∧ i = .int .i64 j ∧ Hid (R = secDef (ks.drop j) dn j) ∧ Below w.heap.size w wr ∧ w.heap.size + 1 ≤ wr.heap.size)
  case atStart => exact ⟨0, 0, rfl, by omega, rfl, rfl, HR.out, hb1, by simp⟩
  case round =>
    obtain ⟨j, dn, hj, hd, rfl, rfl, hs, hb, hz⟩ := hrel
    by_cases hlt : j < ks.length
    · obtain ⟨b, o, rfl, hbB, hL0⟩ := hL.resolve_left (fun h => by rw [h] at hlt; simp at hlt)
      obtain ⟨⟨c0, c1, c2, c3, c4⟩, hx⟩ := (MT.InL.below hb b o hbB ks hL0).get j hlt
      have hxL := hx.kidsL
      have hstep := secDef_drop ks j dn hlt
      have HS : Hid (R = if dn + (isDef ks[j]).toNat = 2 then (j : Int) else secDef (ks.drop (j + 1)) (dn + (isDef ks[j]).toNat) (j + 1)) := hs.out.trans hstep
      clear hstep hs hx
      generalize ks[j] = x at c0 c1 c2 c3 c4 hxL HS
      have hb' : b < wr.heap.size := by omega
      have HJ : Hid (gk + j = ks.length) := hj
      clear hj hL0 hL hb1
      have hdn : (((dn : Nat) : Int) == 2) = false := by simp; omega
      cases h27 : x.kind == 27 with
      | false =>
        have HN : Hid (R = secDef (ks.drop (j + 1)) dn (j + 1)) := by
          have e : isDef x = false := by unfold isDef; rw [h27]; rfl
          have := HS.out
          rw [e] at this
          rwa [if_neg (by simp; omega)] at this
        clear HS hxL
        go_wp2_with fail
        go_roundg (ks.length - (j + 1))
        case measure => have := HJ.out; omega
        case rel => exact ⟨j + 1, dn, by omega, by omega, rfl, by go_num, HN.out, hb.alloc (by omega) _, by simp; omega⟩
      | true =>
        have hk : x.kind = 27 := eq_of_beq h27
        rw [hk] at c0
        cases hks : x.kids with
        | nil =>
          have HN : Hid (R = secDef (ks.drop (j + 1)) dn (j + 1)) := by
            have e : isDef x = false := by unfold isDef; rw [hks]; simp
            have := HS.out
            rw [e] at this
            rwa [if_neg (by simp; omega)] at this
          rw [hks] at c4
          clear HS hxL
          go_wp2_with fail
          go_roundg (ks.length - (j + 1))
          case measure => have := HJ.out; omega
          case rel => exact ⟨j + 1, dn, by omega, by omega, rfl, by go_num, HN.out, hb.alloc (by omega) _, by simp; omega⟩
        | cons y ys =>
          rw [hks] at c4 hxL
          obtain ⟨b2, o2, hp2, hb2B, hL2⟩ := hxL.resolve_left (by simp)
          rw [MT.InL] at hL2
          have y0 := hL2.1.c0
          rw [hp2] at c4
          have hb2 : b2 < wr.heap.size := by omega
          have hln : (y :: ys).length = ys.length + 1 := rfl
          rw [hln] at c4
          clear hxL hL2
          cases h16 : y.kind == 16 with
          | false =>
            have HN : Hid (R = secDef (ks.drop (j + 1)) dn (j + 1)) := by
              have e : isDef x = false := by unfold isDef; rw [hks]; simp [h16]
              have := HS.out
              rw [e] at this
              rwa [if_neg (by simp; omega)] at this
            clear HS
            go_wp2_with fail
            go_roundg (ks.length - (j + 1))
            case measure => have := HJ.out; omega
            case rel => exact ⟨j + 1, dn, by omega, by omega, rfl, by go_num, HN.out, hb.alloc (by omega) _, by simp; omega⟩
          | true =>
            have h16' : y.kind = 16 := eq_of_beq h16
            rw [h16'] at y0
            have e : isDef x = true := by unfold isDef; rw [hks, h27]; simp [h16]
            have HD := HS.out
            rw [e] at HD
            clear HS
            by_cases hd1 : dn = 1
            · subst hd1
              rw [if_pos (show 1 + true.toNat = 2 from rfl)] at HD
              subst HD
              go_wp2_with fail
              go_ret
              exact ⟨rfl, hb.alloc (by omega) _⟩
            · have hd0 : dn = 0 := by omega
              subst hd0
              have HN : Hid (R = secDef (ks.drop (j + 1)) 1 (j + 1)) := by rwa [if_neg (by simp)] at HD
              clear HD
              go_wp2_with fail
              go_roundg (ks.length - (j + 1))
              case measure => have := HJ.out; omega
              case rel => exact ⟨j + 1, 1, by omega, by omega, rfl, by go_num, HN.out, hb.alloc (by omega) _, by simp; omega⟩
    · have HN : Hid (R = -1) := by
        have := hs.out
        rwa [List.drop_of_length_le (by omega), secDef] at this
      clear hL hb1 hj hs HR
      go_wp2_with fail
      go_ret
      exact ⟨congrArg (fun r => Ending.returned (.int .i64 r)) HN.out.symm, hb⟩

end Go.Proofs.YthbnegggohegkaaGreatDoor
namespace Go.Proofs.YthbnegggohegkaaGreatDoor
open Go.RowKit

/-- What can be nothing but a type. -/
def typeOnly (y : MT) : Bool := y.kind == 15 || (y.kind == 14 && [wMap, wFunc, wAny].contains y.text.data.toList)
theorem listsT_nil {t : MT} (h : t.kids = []) : listsT t = false := by unfold listsT; rw [h]; rfl
theorem listsT_cons {t x : MT} {xs : List MT} (h : t.kids = x :: xs) : listsT t = x.kids.any typeOnly := by unfold listsT; rw [h]; rfl

set_option maxRecDepth 100000 in
set_option maxHeartbeats 4000000 in
theorem lists_none (k : Int) (s : ByteArray) (n a : Int) (p : Option Addr) (c : Nat) (w : World) : Calls Tryz.prog 54 #[.agg (nd k s n a p 0 c)] w fun e w' => e = .returned (.bool false) ∧ Below w.heap.size w w' := by
  go_enter Tryz.func54, Tryz.ntmps54
  go_wp2
  go_ret
  exact ⟨rfl, below1 _ _⟩

set_option maxRecDepth 100000 in
set_option maxHeartbeats 4000000 in
theorem lists_some (k : Int) (s : ByteArray) (n a : Int) (b o m c : Nat) (x : MT) (w : World) (hb0 : b < w.heap.size) (hc : w.cell? ⟨b, o + 4, none⟩ = some (.slice x.ptr x.kids.length x.cap)) (hx : x.In w.heap.size w) :
    Calls Tryz.prog 54 #[.agg (nd k s n a (some ⟨b, o, none⟩) (m + 1) c)] w fun e w' => e = .returned (.bool (x.kids.any typeOnly)) ∧ Below w.heap.size w w' := by
  have hcap := hx.cap_le
  have hlc := hx.len_le
  have hL := hx.kidsL
  unfold maxLen at hcap
  clear hx
  obtain ⟨ys, hys⟩ : ∃ ys, ys = x.kids := ⟨_, rfl⟩
  obtain ⟨q, hq⟩ : ∃ q, q = x.ptr := ⟨_, rfl⟩
  rw [← hys] at hL hlc hc ⊢
  rw [← hq] at hL hc
  obtain ⟨R, hR⟩ : ∃ R, R = ys.any typeOnly := ⟨_, rfl⟩
  rw [← hR]
  have HR : Hid (R = ys.any typeOnly) := hR
  clear hR hys hq
  have hb1 := below1 w (.cells #[.int .i64 k, .string s, .int .i64 n, .int .i64 a, .slice (some ⟨b, o, none⟩) (m + 1) c] 24)
  go_enter Tryz.func54, Tryz.ntmps54
  go_wp2_with fail
  go_loopg [15] ys.length (fun gk i wr => ∃ (j : Nat), gk + j = ys.length ∧ i = .int .i64 j ∧ Hid (R = (ys.drop j).any typeOnly) ∧ Below w.heap.size w wr ∧ w.heap.size + 1 ≤ wr.heap.size)
  case atStart => exact ⟨0, rfl, rfl, HR.out, hb1, by simp⟩
  case round =>
    obtain ⟨j, hj, rfl, hs, hb, hz⟩ := hrel
    by_cases hlt : j < ys.length
    · obtain ⟨b, o, rfl, hbB, hL0⟩ := hL.resolve_left (fun h => by rw [h] at hlt; simp at hlt)
      obtain ⟨⟨c0, c1, c2, c3, c4⟩, _⟩ := (MT.InL.below hb b o hbB ys hL0).get j hlt
      have HS : Hid (R = (typeOnly ys[j] || (ys.drop (j + 1)).any typeOnly)) := by
        have := hs.out
        rwa [List.drop_eq_getElem_cons hlt, List.any_cons] at this
      clear hs
      generalize ys[j] = y at c0 c1 c2 c3 c4 HS
      have hb' : b < wr.heap.size := by omega
      have HJ : Hid (gk + j = ys.length) := hj
      clear hj hL0 hL hb1 HR
      cases h15 : y.kind == 15 with
      | true =>
        have HY : Hid (R = true) := by have := HS.out; unfold typeOnly at this; rwa [h15, Bool.true_or, Bool.true_or] at this
        rw [eq_of_beq h15] at c0
        clear HS
        go_wp2_with fail
        go_ret
        exact ⟨congrArg (fun r => Ending.returned (.bool r)) HY.out.symm, hb.alloc (by omega) _⟩
      | false =>
        cases h14 : y.kind == 14 with
        | false =>
          have HN : Hid (R = (ys.drop (j + 1)).any typeOnly) := by have := HS.out; unfold typeOnly at this; rwa [h15, h14, Bool.false_and, Bool.false_or, Bool.false_or] at this
          clear HS
          go_wp2_with fail
          go_roundg (ys.length - (j + 1))
          case measure => have := HJ.out; omega
          case rel => exact ⟨j + 1, by omega, by go_num, HN.out, hb.alloc (by omega) _, by simp; omega⟩
        | true =>
          have e14 : y.kind = 14 := eq_of_beq h14
          rw [e14] at c0
          have hT : typeOnly y = [wMap, wFunc, wAny].contains y.text.data.toList := by unfold typeOnly; rw [h15, h14]; simp
          rw [hT] at HS
          clear hT
          by_cases hw : y.text.data.toList = wMap ∨ y.text.data.toList = wFunc ∨ y.text.data.toList = wAny
          · have HY : Hid (R = true) := by
              have e : [wMap, wFunc, wAny].contains y.text.data.toList = true := by rw [List.contains_iff_mem]; simpa using hw
              have := HS.out; rwa [e, Bool.true_or] at this
            clear HS
            rcases hw with hw | hw | hw
            all_goals
              rw [text_eq hw] at c1
              clear hw h15 h14 e14
              go_wp2_with fail
              go_ret
              exact ⟨congrArg (fun r => Ending.returned (.bool r)) HY.out.symm, hb.alloc (by omega) _⟩
          · have HN : Hid (R = (ys.drop (j + 1)).any typeOnly) := by
              have e : [wMap, wFunc, wAny].contains y.text.data.toList = false := by
                cases h : [wMap, wFunc, wAny].contains y.text.data.toList with
                | false => rfl
                | true => rw [List.contains_iff_mem] at h; exact absurd (by simpa using h) hw
              have := HS.out; rwa [e, Bool.false_or] at this
            have g1 : (y.text.toList == [109, 97, 112]) = false := by rw [ByteArray.toList_eq]; exact beq_false_of_ne (fun h => hw (.inl h))
            have g2 : (y.text.toList == [102, 117, 110, 99]) = false := by rw [ByteArray.toList_eq]; exact beq_false_of_ne (fun h => hw (.inr (.inl h)))
            have g3 : (y.text.toList == [97, 110, 121]) = false := by rw [ByteArray.toList_eq]; exact beq_false_of_ne (fun h => hw (.inr (.inr h)))
            clear HS hw
            go_wp2_with fail
            go_roundg (ys.length - (j + 1))
            case measure => have := HJ.out; omega
            case rel => exact ⟨j + 1, by omega, by go_num, HN.out, hb.alloc (by omega) _, by simp; omega⟩
    · have HN : Hid (R = false) := by
        have := hs.out
        rwa [List.drop_of_length_le (by omega), List.any_nil] at this
      clear hL hb1 hj hs HR
      go_wp2_with fail
      go_ret
      exact ⟨congrArg (fun r => Ending.returned (.bool r)) HN.out.symm, hb⟩

theorem lists_any (t : MT) (w : World) (hin : t.In w.heap.size w) : Calls Tryz.prog 54 #[nodeV t] w fun e w' => e = .returned (.bool (listsT t)) ∧ Below w.heap.size w w' := by
  obtain ⟨k, s, n, a, p, c, ks⟩ := t
  have hL := hin.kidsL
  simp only [MT.kids_node, MT.ptr_node] at hL
  cases ks with
  | nil =>
    rw [listsT_nil rfl]
    exact lists_none k s n a p c w
  | cons x xs =>
    obtain ⟨b, o, rfl, hb, hL⟩ := hL.resolve_left (by simp)
    rw [MT.InL] at hL
    rw [listsT_cons rfl]
    exact lists_some k s n a b o xs.length c x w hb hL.1.c4 hL.2.1

set_option maxRecDepth 100000 in
set_option maxHeartbeats 4000000 in
theorem own_27 (s : ByteArray) (n a : Int) (p : Option Addr) (m c : Nat) (w : World) (q : Bool) (h : Calls Tryz.prog 54 #[.agg (nd 27 s n a p m c)] (w.alloc (.cells (nd 27 s n a p m c) 24)) fun e w' => e = .returned (.bool q) ∧ Below (w.heap.size + 1) (w.alloc (.cells (nd 27 s n a p m c) 24)) w') :
    Calls Tryz.prog 32 #[.agg (nd 27 s n a p m c)] w fun e w' => e = .returned (.int .i64 ((if q then 22 else 21 : Nat) : Nat)) ∧ Below w.heap.size w w' := by
  have H : Hid (Calls Tryz.prog 54 #[.agg (nd 27 s n a p m c)] (w.alloc (.cells (nd 27 s n a p m c) 24)) fun e w' => e = .returned (.bool q) ∧ Below (w.heap.size + 1) (w.alloc (.cells (nd 27 s n a p m c) 24)) w') := h
  clear h
  cases q
  all_goals
    go_enter Tryz.func32, Tryz.ntmps32
    go_wp2_with fail
    refine Calls.mono H.out ?_
    rintro e w1 ⟨rfl, hb⟩
    have c0 := (hb.cell (p := ⟨w.heap.size, 0, none⟩) (by show w.heap.size < _; omega)).trans (cell_mid w (nd 27 s n a p m c) 24 _ 0 _ rfl rfl)
    have HE : Hid (Below w.heap.size w w1) := (below1 _ _).trans (hb.mono (by omega))
    clear hb
    go_wp2_with fail
    go_ret
    exact ⟨rfl, HE.out⟩

set_option maxRecDepth 100000 in
set_option maxHeartbeats 4000000 in
theorem own_any (t : MT) (w : World) (hin : t.In w.heap.size w) : Calls Tryz.prog 32 #[nodeV t] w fun e w' => e = .returned (.int .i64 (ownR t : Nat)) ∧ Below w.heap.size w w' := by
  have hb1 := below1 w (nodeO t)
  have HL : Hid (Calls Tryz.prog 54 #[nodeV t] (w.alloc (nodeO t)) fun e w' => e = .returned (.bool (listsT t)) ∧ Below (w.heap.size + 1) (w.alloc (nodeO t)) w') :=
    Calls.mono (lists_any t _ (MT.In.mono (by simp) t (MT.In.below hb1 t hin))) fun _ _ ⟨h1, h2⟩ => ⟨h1, h2.mono (by simp)⟩
  obtain ⟨k, s, n, a, p, c, ks⟩ := t
  clear hin
  by_cases h40 : k = 40
  · subst h40
    by_cases h0 : s.data.toList = []
    · obtain rfl := text_eq h0
      have e : ownR (.node 40 ⟨#[]⟩ n a p c ks) = 28 := rfl
      rw [show ownR (.node 40 ⟨[].toArray⟩ n a p c ks) = 28 from e]
      clear e HL hb1
      simp only [nodeV, MT.kind_node, MT.text_node, MT.num_node, MT.at_node, MT.ptr_node, MT.cap_node, MT.kids_node]
      go_enter Tryz.func32, Tryz.ntmps32
      go_wp2
      go_ret
      exact ⟨rfl, below1 _ _⟩
    · have e : ownR (.node 40 s n a p c ks) = 29 := by
        unfold ownR
        rw [MT.kind_node, MT.text_node, beq_false_of_ne h0]; rfl
      rw [e]
      have g0 := list_empty h0
      clear e HL hb1 h0
      simp only [nodeV, MT.kind_node, MT.text_node, MT.num_node, MT.at_node, MT.ptr_node, MT.cap_node, MT.kids_node]
      go_enter Tryz.func32, Tryz.ntmps32
      go_wp2
      go_ret
      exact ⟨rfl, below1 _ _⟩
  have g40 : (k == 40) = false := beq_false_of_ne h40
  by_cases h27 : k = 27
  · subst h27
    have e : ownR (.node 27 s n a p c ks) = if listsT (.node 27 s n a p c ks) then 22 else 21 := rfl
    rw [e]
    exact own_27 s n a p ks.length c w _ HL.out
  · have g27 : (k == 27) = false := beq_false_of_ne h27
    have e : ownR (.node k s n a p c ks) = 0 := by unfold ownR; rw [MT.kind_node, g40, g27]; rfl
    rw [e]
    clear e HL hb1 h40 h27
    simp only [nodeV, MT.kind_node, MT.text_node, MT.num_node, MT.at_node, MT.ptr_node, MT.cap_node, MT.kids_node]
    go_enter Tryz.func32, Tryz.ntmps32
    go_wp2
    go_ret
    exact ⟨rfl, below1 _ _⟩

set_option maxRecDepth 100000 in
set_option maxHeartbeats 4000000 in
theorem wrong_long (code k : Int) (s : ByteArray) (hs : 40 < s.size) (n a : Int) (p : Option Addr) (m c : Nat) (w : World) :
    Calls Tryz.prog 51 #[.int .i64 code, .agg (nd k s n a p m c)] w fun e w' => ∃ B, e = .returned (.iface 67 (.pointer (some ⟨B, 0, none⟩))) ∧ w.heap.size ≤ B ∧ w'.heap[B]? = some (.cells #[.int .i64 code, .int .i64 a, .string ⟨#[]⟩] 28 (0, 0)) ∧ Below w.heap.size w w' := by
  have hB2 := below2 w (.cells (nd k s n a p m c) 24) (.cells #[.int .i64 code, .int .i64 a, .string ⟨#[]⟩] 28)
  have hrow : ((w.alloc (.cells (nd k s n a p m c) 24)).alloc (.cells #[.int .i64 code, .int .i64 a, .string ⟨#[]⟩] 28)).heap[w.heap.size + 1]? = some (.cells #[.int .i64 code, .int .i64 a, .string ⟨#[]⟩] 28 (0, 0)) := by
    have := heap_alloc_new (w.alloc (.cells (nd k s n a p m c) 24)) (.cells #[.int .i64 code, .int .i64 a, .string ⟨#[]⟩] 28)
    rwa [World.size_alloc] at this
  have HR : Hid _ := hrow
  clear hrow
  go_enter Tryz.func51, Tryz.ntmps51
  go_wp2_with fail
  go_ret
  exact ⟨w.heap.size + 1, rfl, by omega, HR.out, hB2⟩
/-- The name that is told of a node. -/
def toldName (s : ByteArray) : ByteArray := if s.size ≤ 40 then s else ⟨#[]⟩
theorem treeWrong_all (code k : Int) (s : ByteArray) (n a : Int) (p : Option Addr) (m c : Nat) (w : World) :
    Calls Tryz.prog 51 #[.int .i64 code, .agg (nd k s n a p m c)] w fun e w' => ∃ B, e = .returned (.iface 67 (.pointer (some ⟨B, 0, none⟩))) ∧ w.heap.size ≤ B ∧ w'.heap[B]? = some (.cells #[.int .i64 code, .int .i64 a, .string (toldName s)] 28 (0, 0)) ∧ Below w.heap.size w w' := by
  unfold toldName
  by_cases h : s.size ≤ 40
  · rw [if_pos h]; exact treeWrong_any code k s h n a p m c w
  · rw [if_neg h]; exact wrong_long code k s (by omega) n a p m c w
end Go.Proofs.YthbnegggohegkaaGreatDoor
