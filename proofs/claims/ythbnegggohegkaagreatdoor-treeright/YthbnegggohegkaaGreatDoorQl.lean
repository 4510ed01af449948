/-
  The document's own answer for trees: said and Stand, at every node.
-/
import Derived.Test.YthbnegggohegkaaGreatDoorQg
import Derived.Test.YthbnegggohegkaaGreatDoorQk
import Derived.Test.YthbnegggohegkaaGreatDoorQj
namespace Go.Proofs.YthbnegggohegkaaGreatDoor
open Go.RowKit

/-- Where the i-th Kid of a node stands. -/
def standS (t : MT) (i st : Nat) : Nat :=
  if t.kind == 1 then 1 else
  if t.kind == 2 then 2 else
  if t.kind == 3 then 3 else
  if t.kind == 4 then 4 else
  if t.kind == 5 then atN [5, 6] i else
  if t.kind == 6 then atN [7, 5, 6] i else
  if t.kind == 12 then 9 else
  if t.kind == 13 then 8 else
  if t.kind == 15 then 8 else
  if t.kind == 17 then 12 else
  if t.kind == 19 then atN [8, 8, 14] i else
  if t.kind == 20 then atN [13, 10] i else
  if t.kind == 21 then atN [8, 8, 14] i else
  if t.kind == 22 then atN [10, 6, 15] i else
  if t.kind == 23 then atN [11, 6] i else
  if t.kind == 24 then atN [16, 16, 10, 6] i else
  if t.kind == 25 then (if decide (0 < i) && againB t.kids i then 29 else atN [11, 17] i) else
  if t.kind == 26 then (if decide (1 < i) && againB t.kids i then 29 else atN [16, 10, 18] i) else
  if t.kind == 34 then 13 else
  if t.kind == 43 then atN [5, 6] i else
  if t.kind == 27 then (if st == 18 || (st == 0 && listsT t) then atN [20, 6] i else atN [19, 6] i) else
  if t.kind == 28 then 11 else
  if t.kind == 29 then 21 else
  if t.kind == 30 then 21 else
  if t.kind == 38 then (if st == 20 then 27 else 10) else
  if t.kind == 39 then 22 else
  if t.kind == 41 then 23 else
  if t.kind == 42 then 24 else
  if t.kind == 44 then 26 else
  if t.kind == 47 then (if i == 3 && noneAt t.kids 2 then (if noneAt t.kids 3 then 11 else 29) else atN [10, 11] i) else
  if t.kind == 48 then atN [28, 10] i else
  if t.kind == 49 then atN [10, 25] i else
  10

theorem stand_any (k : Int) (s : ByteArray) (n a : Int) (p : Option Addr) (c : Nat) (ks : List MT) (i st : Nat) (hi : i < ks.length) (h47 : k = 47 → ks.length = 4) (w : World) (hin : (MT.node k s n a p c ks).In w.heap.size w) :
    Calls Tryz.prog 48 #[.agg (nd k s n a p ks.length c), .int .i64 (i : Nat), .int .i64 (st : Nat)] w fun e w' => e = .returned (.int .i64 (standS (.node k s n a p c ks) i st : Nat)) ∧ Below w.heap.size w w' := by
  have hI : ∀ W, Below w.heap.size w W → (MT.node k s n a p c ks).In W.heap.size W := fun W hW => MT.In.mono hW.size _ (MT.In.below hW _ hin)
  by_cases e1 : k = 1
  · subst e1; exact st_1 s n a p ks.length c i st w
  by_cases e2 : k = 2
  · subst e2; exact st_2 s n a p ks.length c i st w
  by_cases e3 : k = 3
  · subst e3; exact st_3 s n a p ks.length c i st w
  by_cases e4 : k = 4
  · subst e4; exact st_4 s n a p ks.length c i st w
  by_cases e5 : k = 5
  · subst e5; exact st_5 s n a p ks.length c i st w
  by_cases e43 : k = 43
  · subst e43; exact st_43 s n a p ks.length c i st w
  by_cases e6 : k = 6
  · subst e6; exact st_6 s n a p ks.length c i st w
  by_cases e12 : k = 12
  · subst e12; exact st_12 s n a p ks.length c i st w
  by_cases e13 : k = 13
  · subst e13; exact st_13 s n a p ks.length c i st w
  by_cases e15 : k = 15
  · subst e15; exact st_15 s n a p ks.length c i st w
  by_cases e17 : k = 17
  · subst e17; exact st_17 s n a p ks.length c i st w
  by_cases e19 : k = 19
  · subst e19; exact st_19 s n a p ks.length c i st w
  by_cases e21 : k = 21
  · subst e21; exact st_21 s n a p ks.length c i st w
  by_cases e20 : k = 20
  · subst e20; exact st_20 s n a p ks.length c i st w
  by_cases e34 : k = 34
  · subst e34; exact st_34 s n a p ks.length c i st w
  by_cases e22 : k = 22
  · subst e22; exact st_22 s n a p ks.length c i st w
  by_cases e23 : k = 23
  · subst e23; exact st_23 s n a p ks.length c i st w
  by_cases e24 : k = 24
  · subst e24; exact st_24 s n a p ks.length c i st w
  by_cases e25 : k = 25
  · subst e25
    have e : standS (.node 25 s n a p c ks) i st = if decide (0 < i) && againB ks i then 29 else atN [11, 17] i := rfl
    rw [e]
    by_cases h0 : 0 < i
    · rw [decide_eq_true h0, Bool.true_and]
      cases hq : againB ks i with
      | true => exact st_25c s n a p ks.length c i st w (by omega) (fun W hW => by rw [← hq]; exact again_any 25 s n a p c ks i hi W (hI W hW))
      | false => exact st_25b s n a p ks.length c i st w (by omega) (fun W hW => by rw [← hq]; exact again_any 25 s n a p c ks i hi W (hI W hW))
    · rw [decide_eq_false h0, Bool.false_and]
      exact st_25a s n a p ks.length c i st w (by omega)
  by_cases e26 : k = 26
  · subst e26
    have e : standS (.node 26 s n a p c ks) i st = if decide (1 < i) && againB ks i then 29 else atN [16, 10, 18] i := rfl
    rw [e]
    by_cases h0 : 1 < i
    · rw [decide_eq_true h0, Bool.true_and]
      cases hq : againB ks i with
      | true => exact st_26c s n a p ks.length c i st w (by omega) (fun W hW => by rw [← hq]; exact again_any 26 s n a p c ks i hi W (hI W hW))
      | false => exact st_26b s n a p ks.length c i st w (by omega) (fun W hW => by rw [← hq]; exact again_any 26 s n a p c ks i hi W (hI W hW))
    · rw [decide_eq_false h0, Bool.false_and]
      exact st_26a s n a p ks.length c i st w (by omega)
  refine st_deeper k (beq_false_of_ne e1) (beq_false_of_ne e2) (beq_false_of_ne e3) (beq_false_of_ne e4) (beq_false_of_ne e5) (beq_false_of_ne e43) (beq_false_of_ne e6) (beq_false_of_ne e12) (beq_false_of_ne e13) (beq_false_of_ne e15) (beq_false_of_ne e17) (beq_false_of_ne e19) (beq_false_of_ne e21) (beq_false_of_ne e20) (beq_false_of_ne e34) (beq_false_of_ne e22) (beq_false_of_ne e23) (beq_false_of_ne e24) (beq_false_of_ne e25) (beq_false_of_ne e26) s n a p ks.length c i st w _ (fun W hW => ?_)
  by_cases e27 : k = 27
  · subst e27
    have e : standS (.node 27 s n a p c ks) i st = if st == 18 || (st == 0 && listsT (.node 27 s n a p c ks)) then atN [20, 6] i else atN [19, 6] i := rfl
    rw [e]
    by_cases h18 : st = 18
    · subst h18; exact dp_27a s n a p ks.length c i W
    by_cases h0 : st = 0
    · subst h0
      cases hq : listsT (.node 27 s n a p c ks) with
      | true => exact dp_27c s n a p ks.length c i W (fun W' hW' => by rw [← hq]; exact ofTypes_any (.node 27 s n a p c ks) W' (hI W' (hW.trans (hW'.mono hW.size))))
      | false => exact dp_27d s n a p ks.length c i W (fun W' hW' => by rw [← hq]; exact ofTypes_any (.node 27 s n a p c ks) W' (hI W' (hW.trans (hW'.mono hW.size))))
    · rw [beq_false_of_ne h18, beq_false_of_ne h0]
      exact dp_27b s n a p ks.length c i st W (by simp; omega) (by simp; omega)
  by_cases e28 : k = 28
  · subst e28; exact dp_28 s n a p ks.length c i st W
  by_cases e29 : k = 29
  · subst e29; exact dp_29 s n a p ks.length c i st W
  by_cases e30 : k = 30
  · subst e30; exact dp_30 s n a p ks.length c i st W
  by_cases e38 : k = 38
  · subst e38
    have e : standS (.node 38 s n a p c ks) i st = if st == 20 then 27 else 10 := rfl
    rw [e]
    by_cases h20 : st = 20
    · subst h20; exact dp_38a s n a p ks.length c i W
    · rw [beq_false_of_ne h20]; exact dp_38b s n a p ks.length c i st W (by simp; omega)
  by_cases e39 : k = 39
  · subst e39; exact dp_39 s n a p ks.length c i st W
  by_cases e41 : k = 41
  · subst e41; exact dp_41 s n a p ks.length c i st W
  by_cases e42 : k = 42
  · subst e42; exact dp_42 s n a p ks.length c i st W
  by_cases e44 : k = 44
  · subst e44; exact dp_44 s n a p ks.length c i st W
  by_cases e47 : k = 47
  · subst e47
    have e : standS (.node 47 s n a p c ks) i st = if i == 3 && noneAt ks 2 then (if noneAt ks 3 then 11 else 29) else atN [10, 11] i := rfl
    rw [e]
    by_cases h3 : i = 3
    · subst h3
      have h4 := h47 rfl
      have hL := (hI W hW).kidsL
      simp only [MT.kids_node, MT.ptr_node] at hL
      obtain ⟨b, o, rfl, hb, hL⟩ := hL.resolve_left (fun h => by rw [h] at h4; simp at h4)
      have c2 := (hL.get 2 (by omega)).1.c0
      have c3 := (hL.get 3 (by omega)).1.c0
      have n2 : noneAt ks 2 = (ks[2].kind == 16) := by unfold noneAt; rw [List.getElem?_eq_getElem (by omega)]; rfl
      have n3 : noneAt ks 3 = (ks[3].kind == 16) := by unfold noneAt; rw [List.getElem?_eq_getElem (by omega)]; rfl
      rw [n2, n3]
      generalize ks[2].kind = x at c2
      generalize ks[3].kind = y at c3
      rw [h4]
      cases h16 : x == 16 with
      | false => exact dp_47o s n a b o c st W hb x c2 h16
      | true =>
        cases hy16 : y == 16 with
        | true => exact dp_47y s n a b o c st W hb x y c2 c3 h16 hy16
        | false => exact dp_47n s n a b o c st W hb x y c2 c3 h16 hy16
    · rw [beq_false_of_ne h3]
      exact dp_47a s n a p ks.length c i st W (by simp; omega)
  by_cases e48 : k = 48
  · subst e48; exact dp_48 s n a p ks.length c i st W
  by_cases e49 : k = 49
  · subst e49; exact dp_49 s n a p ks.length c i st W
  have e : standS (.node k s n a p c ks) i st = 10 := by
    unfold standS
    simp only [MT.kind_node, beq_false_of_ne e1, beq_false_of_ne e2, beq_false_of_ne e3, beq_false_of_ne e4, beq_false_of_ne e5, beq_false_of_ne e6, beq_false_of_ne e12, beq_false_of_ne e13, beq_false_of_ne e15, beq_false_of_ne e17, beq_false_of_ne e19, beq_false_of_ne e20, beq_false_of_ne e21, beq_false_of_ne e22, beq_false_of_ne e23, beq_false_of_ne e24, beq_false_of_ne e25, beq_false_of_ne e26, beq_false_of_ne e27, beq_false_of_ne e28, beq_false_of_ne e29, beq_false_of_ne e30, beq_false_of_ne e34, beq_false_of_ne e38, beq_false_of_ne e39, beq_false_of_ne e41, beq_false_of_ne e42, beq_false_of_ne e43, beq_false_of_ne e44, beq_false_of_ne e47, beq_false_of_ne e48, beq_false_of_ne e49, Bool.false_eq_true, if_false]
  rw [e]
  exact dp_else k (beq_false_of_ne e27) (beq_false_of_ne e28) (beq_false_of_ne e29) (beq_false_of_ne e30) (beq_false_of_ne e38) (beq_false_of_ne e39) (beq_false_of_ne e41) (beq_false_of_ne e42) (beq_false_of_ne e44) (beq_false_of_ne e47) (beq_false_of_ne e48) (beq_false_of_ne e49) s n a p ks.length c i st W

theorem said_any (k : Int) (s : ByteArray) (n a : Int) (p : Option Addr) (m c st : Nat) (hst : st < 30) (hsz : s.size ≤ 9223372036854775807) (w : World) :
    Calls Tryz.prog 44 #[.agg (nd k s n a p m c), .int .i64 (st : Nat)] w fun e w' => e = .returned (.bool (numB k n && textS k s.data.toList st)) ∧ Below w.heap.size w w' := by
  cases hnum : numB k n with
  | false => exact said_bad k s n a p m c st w hnum
  | true =>
    rw [Bool.true_and]
    have hN : ∀ W, Below w.heap.size w W → Calls Tryz.prog 78 #[.string s] W fun e w' => e = .returned (.bool (nameB s.data.toList)) ∧ Below W.heap.size W w' := fun W _ => rName_any s W
    by_cases e11 : k = 11
    · subst e11
      refine said_11 s n a p m c st w ?_ _ hN
      unfold numB at hnum
      simp only [Bool.or_eq_true, Bool.and_eq_true, beq_iff_eq, decide_eq_true_eq] at hnum
      rcases hnum with h | h
      · exact .inl h
      · exact .inr ⟨h.1.2, h.2⟩
    have hz : n = 0 := by
      unfold numB at hnum
      rw [beq_false_of_ne e11] at hnum
      simpa using hnum
    by_cases e2 : k = 2
    · subst e2; exact said_name 2 (by decide) s n a p m c st w hz _ hN
    by_cases e3 : k = 3
    · subst e3; exact said_name 3 (by decide) s n a p m c st w hz _ hN
    by_cases e4 : k = 4
    · subst e4; exact said_name 4 (by decide) s n a p m c st w hz _ hN
    by_cases e5 : k = 5
    · subst e5; exact said_name 5 (by decide) s n a p m c st w hz _ hN
    by_cases e6 : k = 6
    · subst e6; exact said_name 6 (by decide) s n a p m c st w hz _ hN
    by_cases e7 : k = 7
    · subst e7; exact said_name 7 (by decide) s n a p m c st w hz _ hN
    by_cases e8 : k = 8
    · subst e8; exact said_name 8 (by decide) s n a p m c st w hz _ hN
    by_cases e9 : k = 9
    · subst e9; exact said_name 9 (by decide) s n a p m c st w hz _ hN
    by_cases e10 : k = 10
    · subst e10; exact said_name 10 (by decide) s n a p m c st w hz _ hN
    by_cases e12 : k = 12
    · subst e12; exact said_name 12 (by decide) s n a p m c st w hz _ hN
    by_cases e18 : k = 18
    · subst e18; exact said_name 18 (by decide) s n a p m c st w hz _ hN
    by_cases e41 : k = 41
    · subst e41; exact said_name 41 (by decide) s n a p m c st w hz _ hN
    by_cases e45 : k = 45
    · subst e45; exact said_name 45 (by decide) s n a p m c st w hz _ hN
    by_cases e14 : k = 14
    · subst e14; exact said_14 s n a p m c st w hz _ hN _ (fun W => worded_any st hst s W)
    by_cases e23 : k = 23
    · subst e23
      have e : textS 23 s.data.toList st = (nameB s.data.toList || s.data.toList == []) := rfl
      rw [e]
      cases hq : nameB s.data.toList with
      | true => rw [hq] at hN; exact said_lab1 23 (by decide) s n a p m c st w hz hN
      | false =>
        rw [hq] at hN
        rw [Bool.false_or]
        by_cases h0 : s.data.toList = []
        · obtain rfl := text_eq h0; exact said_lab3 23 (by decide) n a p m c st w hz hN
        · rw [beq_false_of_ne h0]; exact said_lab2 23 (by decide) s n a p m c st w hz (list_empty h0) hN
    by_cases e24 : k = 24
    · subst e24
      have e : textS 24 s.data.toList st = (nameB s.data.toList || s.data.toList == []) := rfl
      rw [e]
      cases hq : nameB s.data.toList with
      | true => rw [hq] at hN; exact said_lab1 24 (by decide) s n a p m c st w hz hN
      | false =>
        rw [hq] at hN
        rw [Bool.false_or]
        by_cases h0 : s.data.toList = []
        · obtain rfl := text_eq h0; exact said_lab3 24 (by decide) n a p m c st w hz hN
        · rw [beq_false_of_ne h0]; exact said_lab2 24 (by decide) s n a p m c st w hz (list_empty h0) hN
    by_cases e25 : k = 25
    · subst e25
      have e : textS 25 s.data.toList st = (nameB s.data.toList || s.data.toList == []) := rfl
      rw [e]
      cases hq : nameB s.data.toList with
      | true => rw [hq] at hN; exact said_lab1 25 (by decide) s n a p m c st w hz hN
      | false =>
        rw [hq] at hN
        rw [Bool.false_or]
        by_cases h0 : s.data.toList = []
        · obtain rfl := text_eq h0; exact said_lab3 25 (by decide) n a p m c st w hz hN
        · rw [beq_false_of_ne h0]; exact said_lab2 25 (by decide) s n a p m c st w hz (list_empty h0) hN
    by_cases e26 : k = 26
    · subst e26
      have e : textS 26 s.data.toList st = (nameB s.data.toList || s.data.toList == []) := rfl
      rw [e]
      cases hq : nameB s.data.toList with
      | true => rw [hq] at hN; exact said_lab1 26 (by decide) s n a p m c st w hz hN
      | false =>
        rw [hq] at hN
        rw [Bool.false_or]
        by_cases h0 : s.data.toList = []
        · obtain rfl := text_eq h0; exact said_lab3 26 (by decide) n a p m c st w hz hN
        · rw [beq_false_of_ne h0]; exact said_lab2 26 (by decide) s n a p m c st w hz (list_empty h0) hN
    by_cases e31 : k = 31
    · subst e31
      have e : textS 31 s.data.toList st = (nameB s.data.toList || s.data.toList == []) := rfl
      rw [e]
      cases hq : nameB s.data.toList with
      | true => rw [hq] at hN; exact said_lab1 31 (by decide) s n a p m c st w hz hN
      | false =>
        rw [hq] at hN
        rw [Bool.false_or]
        by_cases h0 : s.data.toList = []
        · obtain rfl := text_eq h0; exact said_lab3 31 (by decide) n a p m c st w hz hN
        · rw [beq_false_of_ne h0]; exact said_lab2 31 (by decide) s n a p m c st w hz (list_empty h0) hN
    by_cases e32 : k = 32
    · subst e32
      have e : textS 32 s.data.toList st = (nameB s.data.toList || s.data.toList == []) := rfl
      rw [e]
      cases hq : nameB s.data.toList with
      | true => rw [hq] at hN; exact said_lab1 32 (by decide) s n a p m c st w hz hN
      | false =>
        rw [hq] at hN
        rw [Bool.false_or]
        by_cases h0 : s.data.toList = []
        · obtain rfl := text_eq h0; exact said_lab3 32 (by decide) n a p m c st w hz hN
        · rw [beq_false_of_ne h0]; exact said_lab2 32 (by decide) s n a p m c st w hz (list_empty h0) hN
    by_cases e20 : k = 20
    · subst e20; exact said_20 s n a p m c st w hz _ hN
    by_cases e50 : k = 50
    · subst e50; exact said_50 s n a p m c st w hz _ hN
    by_cases e34 : k = 34
    · subst e34
      have e : textS 34 s.data.toList st = (s.data.toList == [43, 43] || s.data.toList == [45, 45]) := rfl
      rw [e, ← ByteArray.toList_eq]
      cases h1 : s.toList == [43, 43] with
      | true => exact said_34a s n a p m c st w hz h1 _ hN
      | false =>
        cases h2 : s.toList == [45, 45] with
        | true => exact said_34b s n a p m c st w hz h1 h2 _ hN
        | false => exact said_34c s n a p m c st w hz h1 h2 _ hN
    by_cases e35 : k = 35
    · subst e35; exact said_35 s n a p m c st w hz _ hN _ (fun W => by have := whole_any s W; rwa [whole_tok] at this)
    by_cases e36 : k = 36
    · subst e36; exact said_36 s n a p m c st w hz _ hN _ (fun W => by have := pointed_any s W hsz; rwa [pointed_tok] at this)
    by_cases e37 : k = 37
    · subst e37
      have e : textS 37 s.data.toList st = decide ((s.size : Int) ≤ 65536) := by
        show decide (s.data.toList.length ≤ 65536) = _
        have : s.data.toList.length = s.size := by simp
        rw [this]; by_cases h : s.size ≤ 65536
        · rw [decide_eq_true h, decide_eq_true (by omega)]
        · rw [decide_eq_false h, decide_eq_false (by omega)]
      rw [e]; exact said_37 s n a p m c st w hz _ hN
    by_cases e51 : k = 51
    · subst e51
      have e : textS 51 s.data.toList st = decide (0 < levelN s.data.toList) := bin_level _
      rw [e]; exact said_51 s n a p m c st w hz _ hN _ (fun W => rLevel_any s W)
    by_cases e40 : k = 40
    · subst e40
      have e : textS 40 s.data.toList st = if st == 23 || (st == 0 && !(s.data.toList == [])) then nameB s.data.toList else s.data.toList == [] := rfl
      rw [e]
      by_cases h23 : st = 23
      · subst h23; exact said_40a s n a p m c w hz _ hN
      rw [beq_false_of_ne h23]
      by_cases h0 : s.data.toList = []
      · obtain rfl := text_eq h0
        have e2 : (if (false || (st == 0 && !((ByteArray.mk [].toArray).data.toList == []))) = true then nameB (ByteArray.mk [].toArray).data.toList else (ByteArray.mk [].toArray).data.toList == []) = true := by simp
        rw [e2]
        exact said_40c n a p m c st w hz (by simp; omega) _ hN
      · rw [beq_false_of_ne h0]
        by_cases hs0 : st = 0
        · subst hs0
          exact said_40b s n a p m c w hz (list_empty h0) _ hN
        · rw [beq_false_of_ne hs0]
          exact said_40d s n a p m c st w hz (by simp; omega) (by simp; omega) (list_empty h0) _ hN
    have e : textS k s.data.toList st = (s.data.toList == []) := by
      unfold textS
      rw [if_neg (by simp [e2, e3, e4, e5, e6, e7, e8, e9, e10, e11, e12, e18, e41, e45]), if_neg (by simp [e14]), if_neg (by simp [e23, e24, e25, e26, e31, e32])]
      simp only [beq_false_of_ne e20, beq_false_of_ne e34, beq_false_of_ne e35, beq_false_of_ne e36, beq_false_of_ne e37, beq_false_of_ne e40, beq_false_of_ne e50, beq_false_of_ne e51, Bool.false_eq_true, if_false]
    rw [e]
    by_cases h0 : s.data.toList = []
    · obtain rfl := text_eq h0
      exact said_none0 k (beq_false_of_ne e2) (beq_false_of_ne e3) (beq_false_of_ne e4) (beq_false_of_ne e5) (beq_false_of_ne e6) (beq_false_of_ne e7) (beq_false_of_ne e8) (beq_false_of_ne e9) (beq_false_of_ne e10) (beq_false_of_ne e11) (beq_false_of_ne e12) (beq_false_of_ne e18) (beq_false_of_ne e41) (beq_false_of_ne e45) (beq_false_of_ne e23) (beq_false_of_ne e24) (beq_false_of_ne e25) (beq_false_of_ne e26) (beq_false_of_ne e31) (beq_false_of_ne e32) (beq_false_of_ne e14) (beq_false_of_ne e40) (beq_false_of_ne e20) (beq_false_of_ne e34) (beq_false_of_ne e35) (beq_false_of_ne e36) (beq_false_of_ne e37) (beq_false_of_ne e50) (beq_false_of_ne e51) n a p m c st w hz _ hN
    · rw [beq_false_of_ne h0]
      exact said_none1 k (beq_false_of_ne e2) (beq_false_of_ne e3) (beq_false_of_ne e4) (beq_false_of_ne e5) (beq_false_of_ne e6) (beq_false_of_ne e7) (beq_false_of_ne e8) (beq_false_of_ne e9) (beq_false_of_ne e10) (beq_false_of_ne e11) (beq_false_of_ne e12) (beq_false_of_ne e18) (beq_false_of_ne e41) (beq_false_of_ne e45) (beq_false_of_ne e23) (beq_false_of_ne e24) (beq_false_of_ne e25) (beq_false_of_ne e26) (beq_false_of_ne e31) (beq_false_of_ne e32) (beq_false_of_ne e14) (beq_false_of_ne e40) (beq_false_of_ne e20) (beq_false_of_ne e34) (beq_false_of_ne e35) (beq_false_of_ne e36) (beq_false_of_ne e37) (beq_false_of_ne e50) (beq_false_of_ne e51) s n a p m c st w hz (list_empty h0) _ hN
end Go.Proofs.YthbnegggohegkaaGreatDoor
