/-
  textFits, numberFits, (shape).fault and (shape).role, at every argument.
  secondDefault, listsTypes, ownRole and wrong, at every node.
  listsTypes, ownRole and wrong, at every node.
  The walk of (*checker).fault, at every node.
-/
import Derived.Test.YthbnegggohegkaaGreatDoorGmJ
import Derived.Test.YthbnegggohegkaaGreatDoorGiJ
import Derived.Test.YthbnegggohegkaaGreatDoorRiJ
import Derived.Test.YthbnegggohegkaaGreatDoorGb
namespace Go.Proofs.YthbnegggohegkaaGreatDoor
open Go.RowKit

theorem list_empty {s : ByteArray} (h : s.data.toList ≠ []) : (s.toList == []) = false := by rw [ByteArray.toList_eq]; exact beq_false_of_ne h
set_option maxRecDepth 100000 in
set_option maxHeartbeats 4000000 in
theorem textFits_any {gw ow gs os : Nat} (k : Int) (s : ByteArray) (n a : Int) (p : Option Addr) (m c rl : Nat) (hrl : rl ≤ 30) (w : World) (ht : TabsAt gw ow gs os w) :
    Calls Tryz.prog 90 #[.agg (nd k s n a p m c), .int .i64 (rl : Nat)] w fun e w' => e = .returned (.bool (textB k s.data.toList rl)) ∧ Below w.heap.size w w' := by
  have hN : ∀ W, Below w.heap.size w W → Calls Tryz.prog 121 #[.string s] W fun e w' => e = .returned (.bool (nameB s.data.toList)) ∧ Below W.heap.size W w' := fun W hW => treeName_any s W (ht.below (Nat.le_refl _) hW)
  by_cases e2 : k = 2
  · subst e2; exact fits_name 2 (by decide) s n a p m c rl w _ hN
  by_cases e3 : k = 3
  · subst e3; exact fits_name 3 (by decide) s n a p m c rl w _ hN
  by_cases e4 : k = 4
  · subst e4; exact fits_name 4 (by decide) s n a p m c rl w _ hN
  by_cases e5 : k = 5
  · subst e5; exact fits_name 5 (by decide) s n a p m c rl w _ hN
  by_cases e6 : k = 6
  · subst e6; exact fits_name 6 (by decide) s n a p m c rl w _ hN
  by_cases e7 : k = 7
  · subst e7; exact fits_name 7 (by decide) s n a p m c rl w _ hN
  by_cases e8 : k = 8
  · subst e8; exact fits_name 8 (by decide) s n a p m c rl w _ hN
  by_cases e9 : k = 9
  · subst e9; exact fits_name 9 (by decide) s n a p m c rl w _ hN
  by_cases e10 : k = 10
  · subst e10; exact fits_name 10 (by decide) s n a p m c rl w _ hN
  by_cases e11 : k = 11
  · subst e11; exact fits_name 11 (by decide) s n a p m c rl w _ hN
  by_cases e12 : k = 12
  · subst e12; exact fits_name 12 (by decide) s n a p m c rl w _ hN
  by_cases e18 : k = 18
  · subst e18; exact fits_name 18 (by decide) s n a p m c rl w _ hN
  by_cases e41 : k = 41
  · subst e41; exact fits_name 41 (by decide) s n a p m c rl w _ hN
  by_cases e45 : k = 45
  · subst e45; exact fits_name 45 (by decide) s n a p m c rl w _ hN
  by_cases e23 : k = 23
  · subst e23
    have e : textB 23 s.data.toList rl = (s.data.toList == [] || nameB s.data.toList) := rfl
    rw [e]
    by_cases h0 : s.data.toList = []
    · obtain rfl := text_eq h0
      exact fits_label0 23 (by decide) n a p m c rl w
    · rw [beq_false_of_ne h0, Bool.false_or]
      exact fits_label1 23 (by decide) s n a p m c rl w (list_empty h0) _ hN
  by_cases e24 : k = 24
  · subst e24
    have e : textB 24 s.data.toList rl = (s.data.toList == [] || nameB s.data.toList) := rfl
    rw [e]
    by_cases h0 : s.data.toList = []
    · obtain rfl := text_eq h0
      exact fits_label0 24 (by decide) n a p m c rl w
    · rw [beq_false_of_ne h0, Bool.false_or]
      exact fits_label1 24 (by decide) s n a p m c rl w (list_empty h0) _ hN
  by_cases e25 : k = 25
  · subst e25
    have e : textB 25 s.data.toList rl = (s.data.toList == [] || nameB s.data.toList) := rfl
    rw [e]
    by_cases h0 : s.data.toList = []
    · obtain rfl := text_eq h0
      exact fits_label0 25 (by decide) n a p m c rl w
    · rw [beq_false_of_ne h0, Bool.false_or]
      exact fits_label1 25 (by decide) s n a p m c rl w (list_empty h0) _ hN
  by_cases e26 : k = 26
  · subst e26
    have e : textB 26 s.data.toList rl = (s.data.toList == [] || nameB s.data.toList) := rfl
    rw [e]
    by_cases h0 : s.data.toList = []
    · obtain rfl := text_eq h0
      exact fits_label0 26 (by decide) n a p m c rl w
    · rw [beq_false_of_ne h0, Bool.false_or]
      exact fits_label1 26 (by decide) s n a p m c rl w (list_empty h0) _ hN
  by_cases e31 : k = 31
  · subst e31
    have e : textB 31 s.data.toList rl = (s.data.toList == [] || nameB s.data.toList) := rfl
    rw [e]
    by_cases h0 : s.data.toList = []
    · obtain rfl := text_eq h0
      exact fits_label0 31 (by decide) n a p m c rl w
    · rw [beq_false_of_ne h0, Bool.false_or]
      exact fits_label1 31 (by decide) s n a p m c rl w (list_empty h0) _ hN
  by_cases e32 : k = 32
  · subst e32
    have e : textB 32 s.data.toList rl = (s.data.toList == [] || nameB s.data.toList) := rfl
    rw [e]
    by_cases h0 : s.data.toList = []
    · obtain rfl := text_eq h0
      exact fits_label0 32 (by decide) n a p m c rl w
    · rw [beq_false_of_ne h0, Bool.false_or]
      exact fits_label1 32 (by decide) s n a p m c rl w (list_empty h0) _ hN
  by_cases e14 : k = 14
  · subst e14
    have e : textB 14 s.data.toList rl = (nameB s.data.toList || (wordsN rl).contains s.data.toList) := rfl
    rw [e]
    cases hq : nameB s.data.toList with
    | true =>
      rw [hq] at hN
      rw [Bool.true_or]
      exact fits_word1 s n a p m c rl w hN
    | false =>
      rw [hq] at hN
      rw [Bool.false_or]
      exact fits_word2 s n a p m c rl w hN (wordsN rl) (fun W _ => words_any rl hrl W) (fun W p hT => contains_any (wordsN rl) p _ s W (words_len rl) hT)
  by_cases e40 : k = 40
  · subst e40
    have e : textB 40 s.data.toList rl = ((rl == 28 && s.data.toList == []) || (rl == 29 && nameB s.data.toList)) := rfl
    rw [e]
    by_cases h28 : rl = 28
    · subst h28
      by_cases h0 : s.data.toList = []
      · obtain rfl := text_eq h0
        exact fits_pair28a n a p m c w
      · rw [beq_false_of_ne h0]
        exact fits_pair28b s n a p m c w (list_empty h0)
    by_cases h29 : rl = 29
    · subst h29
      have e2 : ((29 == 28 && s.data.toList == []) || (29 == 29 && nameB s.data.toList)) = nameB s.data.toList := by simp
      rw [e2]
      exact fits_pair29 s n a p m c w _ hN
    · have e2 : ((rl == 28 && s.data.toList == []) || (rl == 29 && nameB s.data.toList)) = false := by rw [beq_false_of_ne h28, beq_false_of_ne h29]; rfl
      rw [e2]
      exact fits_pair s n a p m c rl w (by simp; omega) (by simp; omega)
  by_cases e20 : k = 20
  · subst e20; exact fits_assign s n a p m c rl w
  by_cases e34 : k = 34
  · subst e34
    have e : textB 34 s.data.toList rl = (s.data.toList == [43, 43] || s.data.toList == [45, 45]) := rfl
    rw [e]
    by_cases h1 : s.data.toList = [43, 43]
    · obtain rfl := text_eq h1
      exact fits_step0 _ (.inl rfl) n a p m c rl w
    by_cases h2 : s.data.toList = [45, 45]
    · obtain rfl := text_eq h2
      exact fits_step0 _ (.inr rfl) n a p m c rl w
    rw [beq_false_of_ne h1, beq_false_of_ne h2]
    exact fits_step1 s n a p m c rl w (by rw [ByteArray.toList_eq]; exact beq_false_of_ne h1) (by rw [ByteArray.toList_eq]; exact beq_false_of_ne h2)
  by_cases e35 : k = 35
  · subst e35; exact fits_token 35 4 (.inl ⟨rfl, rfl⟩) s n a p m c rl w _ (fun W hW => token_any s 4 W (ht.below (Nat.le_refl _) hW))
  by_cases e36 : k = 36
  · subst e36; exact fits_token 36 5 (.inr ⟨rfl, rfl⟩) s n a p m c rl w _ (fun W hW => token_any s 5 W (ht.below (Nat.le_refl _) hW))
  by_cases e37 : k = 37
  · subst e37; exact fits_text s n a p m c rl w
  by_cases e50 : k = 50
  · subst e50
    have e : textB 50 s.data.toList rl = (unaryB s.data.toList && (s.data.toList == [42] || !(rl == 14))) := rfl
    rw [e]
    cases hq : unaryB s.data.toList with
    | false => exact fits_unary0 s n a p m c rl w (fun W => by rw [← hq]; exact isUnary_any s W)
    | true =>
      rw [Bool.true_and]
      by_cases h0 : s.data.toList = [42]
      · rw [h0]
        exact fits_unary1 s n a p m c rl w (fun W => by rw [← hq]; exact isUnary_any s W) (by rw [ByteArray.toList_eq, h0]; rfl)
      · rw [beq_false_of_ne h0, Bool.false_or]
        refine fits_unary2 s n a p m c rl w (fun W => by rw [← hq]; exact isUnary_any s W) (by rw [ByteArray.toList_eq]; exact beq_false_of_ne h0) _ ?_
        by_cases h14 : rl = 14
        · subst h14; rfl
        · rw [beq_false_of_ne h14]; simp; omega
  by_cases e51 : k = 51
  · subst e51; exact fits_binary s n a p m c rl w
  have e : textB k s.data.toList rl = (s.data.toList == []) := by
    unfold textB
    rw [if_neg (by simp [e2, e3, e4, e5, e6, e7, e8, e9, e10, e11, e12, e18, e41, e45]), if_neg (by simp [e23, e24, e25, e26, e31, e32])]
    simp only [beq_false_of_ne e14, beq_false_of_ne e40, beq_false_of_ne e20, beq_false_of_ne e34, beq_false_of_ne e35, beq_false_of_ne e36, beq_false_of_ne e37, beq_false_of_ne e50, beq_false_of_ne e51, Bool.false_eq_true, if_false]
  rw [e]
  by_cases h0 : s.data.toList = []
  · obtain rfl := text_eq h0
    exact fits_none0 k (beq_false_of_ne e2) (beq_false_of_ne e3) (beq_false_of_ne e4) (beq_false_of_ne e5) (beq_false_of_ne e6) (beq_false_of_ne e7) (beq_false_of_ne e8) (beq_false_of_ne e9) (beq_false_of_ne e10) (beq_false_of_ne e11) (beq_false_of_ne e12) (beq_false_of_ne e18) (beq_false_of_ne e41) (beq_false_of_ne e45) (beq_false_of_ne e23) (beq_false_of_ne e24) (beq_false_of_ne e25) (beq_false_of_ne e26) (beq_false_of_ne e31) (beq_false_of_ne e32) (beq_false_of_ne e14) (beq_false_of_ne e40) (beq_false_of_ne e20) (beq_false_of_ne e34) (beq_false_of_ne e35) (beq_false_of_ne e36) (beq_false_of_ne e37) (beq_false_of_ne e50) (beq_false_of_ne e51) n a p m c rl w
  · rw [beq_false_of_ne h0]
    exact fits_none1 k (beq_false_of_ne e2) (beq_false_of_ne e3) (beq_false_of_ne e4) (beq_false_of_ne e5) (beq_false_of_ne e6) (beq_false_of_ne e7) (beq_false_of_ne e8) (beq_false_of_ne e9) (beq_false_of_ne e10) (beq_false_of_ne e11) (beq_false_of_ne e12) (beq_false_of_ne e18) (beq_false_of_ne e41) (beq_false_of_ne e45) (beq_false_of_ne e23) (beq_false_of_ne e24) (beq_false_of_ne e25) (beq_false_of_ne e26) (beq_false_of_ne e31) (beq_false_of_ne e32) (beq_false_of_ne e14) (beq_false_of_ne e40) (beq_false_of_ne e20) (beq_false_of_ne e34) (beq_false_of_ne e35) (beq_false_of_ne e36) (beq_false_of_ne e37) (beq_false_of_ne e50) (beq_false_of_ne e51) s n a p m c rl w (list_empty h0)

set_option maxRecDepth 100000 in
set_option maxHeartbeats 4000000 in
theorem num_any (k : Int) (s : ByteArray) (n a : Int) (p : Option Addr) (m c : Nat) (w : World) :
    Calls Tryz.prog 91 #[.agg (nd k s n a p m c)] w fun e w' => e = .returned (.bool (numB k n)) ∧ Below w.heap.size w w' := by
  by_cases h0 : n = 0
  · subst h0
    have e : numB k 0 = true := rfl
    rw [e]
    go_enter Tryz.func91, Tryz.ntmps91
    go_wp2
    go_ret
    exact ⟨rfl, below1 _ _⟩
  have g0 : (n == 0) = false := beq_false_of_ne h0
  by_cases h11 : k = 11
  · subst h11
    by_cases h1 : 0 < n
    · have e : numB 11 n = decide (n ≤ 12) := by unfold numB; rw [g0, decide_eq_true h1]; simp
      rw [e]
      go_enter Tryz.func91, Tryz.ntmps91
      go_wp2
      go_ret
      exact ⟨rfl, below1 _ _⟩
    · have e : numB 11 n = false := by unfold numB; rw [g0, decide_eq_false h1]; simp
      rw [e]
      go_enter Tryz.func91, Tryz.ntmps91
      go_wp2
      go_ret
      exact ⟨rfl, below1 _ _⟩
  · have g11 : (k == 11) = false := beq_false_of_ne h11
    have e : numB k n = false := by unfold numB; rw [g0, g11]; simp
    rw [e]
    go_enter Tryz.func91, Tryz.ntmps91
    go_wp2
    go_ret
    exact ⟨rfl, below1 _ _⟩

set_option maxRecDepth 100000 in
set_option maxHeartbeats 4000000 in
theorem shFault_walk (q : Option Addr) (r : Nat) (least n : Nat) (most : Int) (crowded : Bool) (w : World) :
    Calls Tryz.prog 92 #[.agg #[.slice q r r, .int .i64 least, .int .i64 most, .bool crowded], .int .i64 (n : Nat)] w fun e w' => e = .returned (.int .i64 ((if n < least then 20 else if most < 0 ∨ (n : Int) ≤ most then 0 else if crowded then 22 else 20 : Nat) : Nat)) ∧ Below w.heap.size w w' := by
  by_cases h1 : n < least
  · rw [if_pos h1]
    have g1 : ((n : Nat) : Int) < (least : Nat) := by omega
    go_enter Tryz.func92, Tryz.ntmps92
    go_wp2
    go_ret
    exact ⟨rfl, below1 _ _⟩
  rw [if_neg h1]
  have g1 : ¬ ((n : Nat) : Int) < (least : Nat) := by omega
  by_cases h2 : most < 0
  · rw [if_pos (.inl h2)]
    go_enter Tryz.func92, Tryz.ntmps92
    go_wp2
    go_ret
    exact ⟨rfl, below1 _ _⟩
  by_cases h3 : (n : Int) ≤ most
  · rw [if_pos (.inr h3)]
    go_enter Tryz.func92, Tryz.ntmps92
    go_wp2
    go_ret
    exact ⟨rfl, below1 _ _⟩
  rw [if_neg (by omega)]
  cases crowded
  all_goals
    go_enter Tryz.func92, Tryz.ntmps92
    go_wp2
    go_ret
    exact ⟨rfl, below1 _ _⟩
theorem shFault_any (S : Shp) (q : Option Addr) (n : Nat) (w : World) : Calls Tryz.prog 92 #[.agg (shV S q), .int .i64 (n : Nat)] w fun e w' => e = .returned (.int .i64 (faultSh S n : Nat)) ∧ Below w.heap.size w w' :=
  shFault_walk q S.roles.length S.least n S.most S.crowded w

set_option maxHeartbeats 1000000 in
theorem role_walk (g r least i j x : Nat) (most : Int) (crowded : Bool) (hr : 0 < r) (hj : j = min i (r - 1)) (hr2 : r < 100) (w : World) (hg : g < w.heap.size) (hx : w.cell? ⟨g, j, none⟩ = some (.int .i64 (x : Nat))) :
    Calls Tryz.prog 53 #[.agg #[.slice (some ⟨g, 0, none⟩) r r, .int .i64 least, .int .i64 most, .bool crowded], .int .i64 (i : Nat)] w fun e w' => e = .returned (.int .i64 (x : Nat)) ∧ Below w.heap.size w w' := by
  have hm : min ((i : Nat) : Int) ((r : Nat) - 1) = (j : Nat) := by omega
  have hjr : j < r := by omega
  clear hj
  go_enter Tryz.func53, Tryz.ntmps53
  go_wp2
  go_ret
  exact ⟨rfl, below1 _ _⟩
theorem role_any (S : Shp) (q : Option Addr) (lo i : Nat) (w : World) (hR : RolesAt w lo q S.roles) (hne : S.roles ≠ []) (hl : S.roles.length < 100) :
    Calls Tryz.prog 53 #[.agg (shV S q), .int .i64 (i : Nat)] w fun e w' => e = .returned (.int .i64 (roleAt S i : Nat)) ∧ Below w.heap.size w w' := by
  obtain ⟨g, rfl, _, hg, hc⟩ := hR.resolve_left (fun h => hne h.1)
  have hp : 0 < S.roles.length := by cases h : S.roles with | nil => exact absurd h hne | cons _ _ => simp
  have hlt : min i (S.roles.length - 1) < S.roles.length := by omega
  have e : roleAt S i = S.roles[min i (S.roles.length - 1)] := by unfold roleAt; rw [List.getD_eq_getElem?_getD, List.getElem?_eq_getElem hlt]; rfl
  rw [e]
  exact role_walk g S.roles.length S.least i _ _ S.most S.crowded hp rfl hl w hg (hc _ hlt)
end Go.Proofs.YthbnegggohegkaaGreatDoor
namespace Go.Proofs.YthbnegggohegkaaGreatDoor
open Go.RowKit

theorem secDef_drop (ks : List MT) (j d : Nat) (h : j < ks.length) : secDef (ks.drop j) d j = if d + (isDef ks[j]).toNat = 2 then (j : Int) else secDef (ks.drop (j + 1)) (d + (isDef ks[j]).toNat) (j + 1) := by
  rw [List.drop_eq_getElem_cons h, secDef]

set_option maxRecDepth 100000 in
set_option maxHeartbeats 4000000 in
theorem second_all (k : Int) (s : ByteArray) (n a : Int) (p : Option Addr) (c : Nat) (ks : List MT) (w : World) (hin : (MT.node k s n a p c ks).In w.heap.size w) :
    Calls Tryz.prog 52 #[.agg (nd k s n a p ks.length c)] w fun e w' => e = .returned (.int .i64 (secDef ks 0 0)) ∧ Below w.heap.size w w' := by
  have hcap := hin.cap_le
  have hlc := hin.len_le
  have hL := hin.kidsL
  simp only [MT.cap_node, MT.kids_node, MT.ptr_node] at hcap hlc hL
  unfold maxLen at hcap
  clear hin
  obtain ⟨R, hR⟩ : ∃ R, R = secDef ks 0 0 := ⟨_, rfl⟩
  rw [← hR]
  have HR : Hid (R = secDef ks 0 0) := hR
  clear hR
  have hb1 := below1 w (.cells #[.int .i64 k, .string s, .int .i64 n, .int .i64 a, .slice p ks.length c] 24)
  go_enter Tryz.func52, Tryz.ntmps52
  go_wp2_with fail
  go_loopg [3, 9] ks.length (fun gk d i wr => ∃ (j dn : Nat), gk + j = ks.length ∧ dn < 2 ∧ d = .int .i64 dn ∧ i = .int .i64 j ∧ Hid (R = secDef (ks.drop j) dn j) ∧ Below w.heap.size w wr ∧ w.heap.size + 1 ≤ wr.heap.size)
  case atStart => exact ⟨0, 0, rfl, by omega, rfl, rfl, HR.out, hb1, by simp⟩
  case round =>
    obtain ⟨j, dn, hj, hd, rfl, rfl, hs, hb, hz⟩ := hrel
    by_cases hlt : j < ks.length
    · obtain ⟨b, o, rfl, hbB, hL0⟩ := hL.resolve_left (fun h => by rw [h] at hlt; simp at hlt)
      obtain ⟨⟨c0, c1, c2, c3, c4⟩, hx⟩ := (MT.InL.below hb b o hbB ks hL0).get j hlt
      have hxL := hx.kidsL
      have hstep := secDef_drop ks j dn hlt
      have HS : Hid (R = if dn + (isDef ks[j]).toNat = 2 then (j : Int) else secDef (ks.drop (j + 1)) (dn + (isDef ks[j]).toNat) (j + 1)) := hs.out.trans hstep
      clear hstep hs hx
      generalize ks[j] = x at c0 c1 c2 c3 c4 hxL HS
      have hb' : b < wr.heap.size := by omega
      have HJ : Hid (gk + j = ks.length) := hj
      clear hj hL0 hL hb1
      have hdn : (((dn : Nat) : Int) == 2) = false := by simp; omega
      cases h27 : x.kind == 27 with
      | false =>
        have HN : Hid (R = secDef (ks.drop (j + 1)) dn (j + 1)) := by
          have e : isDef x = false := by unfold isDef; rw [h27]; rfl
          have := HS.out
          rw [e] at this
          rwa [if_neg (by simp; omega)] at this
        clear HS hxL
        go_wp2_with fail
        go_roundg (ks.length - (j + 1))
        case measure => have := HJ.out; omega
        case rel => exact ⟨j + 1, dn, by omega, by omega, rfl, by go_num, HN.out, hb.alloc (by omega) _, by simp; omega⟩
      | true =>
        have hk : x.kind = 27 := eq_of_beq h27
        rw [hk] at c0
        cases hks : x.kids with
        | nil =>
          have HN : Hid (R = secDef (ks.drop (j + 1)) dn (j + 1)) := by
            have e : isDef x = false := by unfold isDef; rw [hks]; simp
            have := HS.out
            rw [e] at this
            rwa [if_neg (by simp; omega)] at this
          rw [hks] at c4
          clear HS hxL
          go_wp2_with fail
          go_roundg (ks.length - (j + 1))
          case measure => have := HJ.out; omega
          case rel => exact ⟨j + 1, dn, by omega, by omega, rfl, by go_num, HN.out, hb.alloc (by omega) _, by simp; omega⟩
        | cons y ys =>
          rw [hks] at c4 hxL
          obtain ⟨b2, o2, hp2, hb2B, hL2⟩ := hxL.resolve_left (by simp)
          rw [MT.InL] at hL2
          have y0 := hL2.1.c0
          rw [hp2] at c4
          have hb2 : b2 < wr.heap.size := by omega
          have hln : (y :: ys).length = ys.length + 1 := rfl
          rw [hln] at c4
          clear hxL hL2
          cases h16 : y.kind == 16 with
          | false =>
            have HN : Hid (R = secDef (ks.drop (j + 1)) dn (j + 1)) := by
              have e : isDef x = false := by unfold isDef; rw [hks]; simp [h16]
              have := HS.out
              rw [e] at this
              rwa [if_neg (by simp; omega)] at this
            clear HS
            go_wp2_with fail
            go_roundg (ks.length - (j + 1))
            case measure => have := HJ.out; omega
            case rel => exact ⟨j + 1, dn, by omega, by omega, rfl, by go_num, HN.out, hb.alloc (by omega) _, by simp; omega⟩
          | true =>
            have h16' : y.kind = 16 := eq_of_beq h16
            rw [h16'] at y0
            have e : isDef x = true := by unfold isDef; rw [hks, h27]; simp [h16]
            have HD := HS.out
            rw [e] at HD
            clear HS
            by_cases hd1 : dn = 1
            · subst hd1
              rw [if_pos (show 1 + true.toNat = 2 from rfl)] at HD
              subst HD
              go_wp2_with fail
              go_ret
              exact ⟨rfl, hb.alloc (by omega) _⟩
            · have hd0 : dn = 0 := by omega
              subst hd0
              have HN : Hid (R = secDef (ks.drop (j + 1)) 1 (j + 1)) := by rwa [if_neg (by simp)] at HD
              clear HD
              go_wp2_with fail
              go_roundg (ks.length - (j + 1))
              case measure => have := HJ.out; omega
              case rel => exact ⟨j + 1, 1, by omega, by omega, rfl, by go_num, HN.out, hb.alloc (by omega) _, by simp; omega⟩
    · have HN : Hid (R = -1) := by
        have := hs.out
        rwa [List.drop_of_length_le (by omega), secDef] at this
      clear hL hb1 hj hs HR
      go_wp2_with fail
      go_ret
      exact ⟨congrArg (fun r => Ending.returned (.int .i64 r)) HN.out.symm, hb⟩

end Go.Proofs.YthbnegggohegkaaGreatDoor
namespace Go.Proofs.YthbnegggohegkaaGreatDoor
open Go.RowKit

/-- What can be nothing but a type. -/
def typeOnly (y : MT) : Bool := y.kind == 15 || (y.kind == 14 && [wMap, wFunc, wAny].contains y.text.data.toList)
theorem listsT_nil {t : MT} (h : t.kids = []) : listsT t = false := by unfold listsT; rw [h]; rfl
theorem listsT_cons {t x : MT} {xs : List MT} (h : t.kids = x :: xs) : listsT t = x.kids.any typeOnly := by unfold listsT; rw [h]; rfl

set_option maxRecDepth 100000 in
set_option maxHeartbeats 4000000 in
theorem lists_none (k : Int) (s : ByteArray) (n a : Int) (p : Option Addr) (c : Nat) (w : World) : Calls Tryz.prog 54 #[.agg (nd k s n a p 0 c)] w fun e w' => e = .returned (.bool false) ∧ Below w.heap.size w w' := by
  go_enter Tryz.func54, Tryz.ntmps54
  go_wp2
  go_ret
  exact ⟨rfl, below1 _ _⟩

set_option maxRecDepth 100000 in
set_option maxHeartbeats 4000000 in
theorem lists_some (k : Int) (s : ByteArray) (n a : Int) (b o m c : Nat) (x : MT) (w : World) (hb0 : b < w.heap.size) (hc : w.cell? ⟨b, o + 4, none⟩ = some (.slice x.ptr x.kids.length x.cap)) (hx : x.In w.heap.size w) :
    Calls Tryz.prog 54 #[.agg (nd k s n a (some ⟨b, o, none⟩) (m + 1) c)] w fun e w' => e = .returned (.bool (x.kids.any typeOnly)) ∧ Below w.heap.size w w' := by
  have hcap := hx.cap_le
  have hlc := hx.len_le
  have hL := hx.kidsL
  unfold maxLen at hcap
  clear hx
  obtain ⟨ys, hys⟩ : ∃ ys, ys = x.kids := ⟨_, rfl⟩
  obtain ⟨q, hq⟩ : ∃ q, q = x.ptr := ⟨_, rfl⟩
  rw [← hys] at hL hlc hc ⊢
  rw [← hq] at hL hc
  obtain ⟨R, hR⟩ : ∃ R, R = ys.any typeOnly := ⟨_, rfl⟩
  rw [← hR]
  have HR : Hid (R = ys.any typeOnly) := hR
  clear hR hys hq
  have hb1 := below1 w (.cells #[.int .i64 k, .string s, .int .i64 n, .int .i64 a, .slice (some ⟨b, o, none⟩) (m + 1) c] 24)
  go_enter Tryz.func54, Tryz.ntmps54
  go_wp2_with fail
  go_loopg [15] ys.length (fun gk i wr => ∃ (j : Nat), gk + j = ys.length ∧ i = .int .i64 j ∧ Hid (R = (ys.drop j).any typeOnly) ∧ Below w.heap.size w wr ∧ w.heap.size + 1 ≤ wr.heap.size)
  case atStart => exact ⟨0, rfl, rfl, HR.out, hb1, by simp⟩
  case round =>
    obtain ⟨j, hj, rfl, hs, hb, hz⟩ := hrel
    by_cases hlt : j < ys.length
    · obtain ⟨b, o, rfl, hbB, hL0⟩ := hL.resolve_left (fun h => by rw [h] at hlt; simp at hlt)
      obtain ⟨⟨c0, c1, c2, c3, c4⟩, _⟩ := (MT.InL.below hb b o hbB ys hL0).get j hlt
      have HS : Hid (R = (typeOnly ys[j] || (ys.drop (j + 1)).any typeOnly)) := by
        have := hs.out
        rwa [List.drop_eq_getElem_cons hlt, List.any_cons] at this
      clear hs
      generalize ys[j] = y at c0 c1 c2 c3 c4 HS
      have hb' : b < wr.heap.size := by omega
      have HJ : Hid (gk + j = ys.length) := hj
      clear hj hL0 hL hb1 HR
      cases h15 : y.kind == 15 with
      | true =>
        have HY : Hid (R = true) := by have := HS.out; unfold typeOnly at this; rwa [h15, Bool.true_or, Bool.true_or] at this
        rw [eq_of_beq h15] at c0
        clear HS
        go_wp2_with fail
        go_ret
        exact ⟨congrArg (fun r => Ending.returned (.bool r)) HY.out.symm, hb.alloc (by omega) _⟩
      | false =>
        cases h14 : y.kind == 14 with
        | false =>
          have HN : Hid (R = (ys.drop (j + 1)).any typeOnly) := by have := HS.out; unfold typeOnly at this; rwa [h15, h14, Bool.false_and, Bool.false_or, Bool.false_or] at this
          clear HS
          go_wp2_with fail
          go_roundg (ys.length - (j + 1))
          case measure => have := HJ.out; omega
          case rel => exact ⟨j + 1, by omega, by go_num, HN.out, hb.alloc (by omega) _, by simp; omega⟩
        | true =>
          have e14 : y.kind = 14 := eq_of_beq h14
          rw [e14] at c0
          have hT : typeOnly y = [wMap, wFunc, wAny].contains y.text.data.toList := by unfold typeOnly; rw [h15, h14]; simp
          rw [hT] at HS
          clear hT
          by_cases hw : y.text.data.toList = wMap ∨ y.text.data.toList = wFunc ∨ y.text.data.toList = wAny
          · have HY : Hid (R = true) := by
              have e : [wMap, wFunc, wAny].contains y.text.data.toList = true := by rw [List.contains_iff_mem]; simpa using hw
              have := HS.out; rwa [e, Bool.true_or] at this
            clear HS
            rcases hw with hw | hw | hw
            all_goals
              rw [text_eq hw] at c1
              clear hw h15 h14 e14
              go_wp2_with fail
              go_ret
              exact ⟨congrArg (fun r => Ending.returned (.bool r)) HY.out.symm, hb.alloc (by omega) _⟩
          · have HN : Hid (R = (ys.drop (j + 1)).any typeOnly) := by
              have e : [wMap, wFunc, wAny].contains y.text.data.toList = false := by
                cases h : [wMap, wFunc, wAny].contains y.text.data.toList with
                | false => rfl
                | true => rw [List.contains_iff_mem] at h; exact absurd (by simpa using h) hw
              have := HS.out; rwa [e, Bool.false_or] at this
            have g1 : (y.text.toList == [109, 97, 112]) = false := by rw [ByteArray.toList_eq]; exact beq_false_of_ne (fun h => hw (.inl h))
            have g2 : (y.text.toList == [102, 117, 110, 99]) = false := by rw [ByteArray.toList_eq]; exact beq_false_of_ne (fun h => hw (.inr (.inl h)))
            have g3 : (y.text.toList == [97, 110, 121]) = false := by rw [ByteArray.toList_eq]; exact beq_false_of_ne (fun h => hw (.inr (.inr h)))
            clear HS hw
            go_wp2_with fail
            go_roundg (ys.length - (j + 1))
            case measure => have := HJ.out; omega
            case rel => exact ⟨j + 1, by omega, by go_num, HN.out, hb.alloc (by omega) _, by simp; omega⟩
    · have HN : Hid (R = false) := by
        have := hs.out
        rwa [List.drop_of_length_le (by omega), List.any_nil] at this
      clear hL hb1 hj hs HR
      go_wp2_with fail
      go_ret
      exact ⟨congrArg (fun r => Ending.returned (.bool r)) HN.out.symm, hb⟩

theorem lists_any (t : MT) (w : World) (hin : t.In w.heap.size w) : Calls Tryz.prog 54 #[nodeV t] w fun e w' => e = .returned (.bool (listsT t)) ∧ Below w.heap.size w w' := by
  obtain ⟨k, s, n, a, p, c, ks⟩ := t
  have hL := hin.kidsL
  simp only [MT.kids_node, MT.ptr_node] at hL
  cases ks with
  | nil =>
    rw [listsT_nil rfl]
    exact lists_none k s n a p c w
  | cons x xs =>
    obtain ⟨b, o, rfl, hb, hL⟩ := hL.resolve_left (by simp)
    rw [MT.InL] at hL
    rw [listsT_cons rfl]
    exact lists_some k s n a b o xs.length c x w hb hL.1.c4 hL.2.1

set_option maxRecDepth 100000 in
set_option maxHeartbeats 4000000 in
theorem own_27 (s : ByteArray) (n a : Int) (p : Option Addr) (m c : Nat) (w : World) (q : Bool) (h : Calls Tryz.prog 54 #[.agg (nd 27 s n a p m c)] (w.alloc (.cells (nd 27 s n a p m c) 24)) fun e w' => e = .returned (.bool q) ∧ Below (w.heap.size + 1) (w.alloc (.cells (nd 27 s n a p m c) 24)) w') :
    Calls Tryz.prog 32 #[.agg (nd 27 s n a p m c)] w fun e w' => e = .returned (.int .i64 ((if q then 22 else 21 : Nat) : Nat)) ∧ Below w.heap.size w w' := by
  have H : Hid (Calls Tryz.prog 54 #[.agg (nd 27 s n a p m c)] (w.alloc (.cells (nd 27 s n a p m c) 24)) fun e w' => e = .returned (.bool q) ∧ Below (w.heap.size + 1) (w.alloc (.cells (nd 27 s n a p m c) 24)) w') := h
  clear h
  cases q
  all_goals
    go_enter Tryz.func32, Tryz.ntmps32
    go_wp2_with fail
    refine Calls.mono H.out ?_
    rintro e w1 ⟨rfl, hb⟩
    have c0 := (hb.cell (p := ⟨w.heap.size, 0, none⟩) (by show w.heap.size < _; omega)).trans (cell_mid w (nd 27 s n a p m c) 24 _ 0 _ rfl rfl)
    have HE : Hid (Below w.heap.size w w1) := (below1 _ _).trans (hb.mono (by omega))
    clear hb
    go_wp2_with fail
    go_ret
    exact ⟨rfl, HE.out⟩

set_option maxRecDepth 100000 in
set_option maxHeartbeats 4000000 in
theorem own_any (t : MT) (w : World) (hin : t.In w.heap.size w) : Calls Tryz.prog 32 #[nodeV t] w fun e w' => e = .returned (.int .i64 (ownR t : Nat)) ∧ Below w.heap.size w w' := by
  have hb1 := below1 w (nodeO t)
  have HL : Hid (Calls Tryz.prog 54 #[nodeV t] (w.alloc (nodeO t)) fun e w' => e = .returned (.bool (listsT t)) ∧ Below (w.heap.size + 1) (w.alloc (nodeO t)) w') :=
    Calls.mono (lists_any t _ (MT.In.mono (by simp) t (MT.In.below hb1 t hin))) fun _ _ ⟨h1, h2⟩ => ⟨h1, h2.mono (by simp)⟩
  obtain ⟨k, s, n, a, p, c, ks⟩ := t
  clear hin
  by_cases h40 : k = 40
  · subst h40
    by_cases h0 : s.data.toList = []
    · obtain rfl := text_eq h0
      have e : ownR (.node 40 ⟨#[]⟩ n a p c ks) = 28 := rfl
      rw [show ownR (.node 40 ⟨[].toArray⟩ n a p c ks) = 28 from e]
      clear e HL hb1
      simp only [nodeV, MT.kind_node, MT.text_node, MT.num_node, MT.at_node, MT.ptr_node, MT.cap_node, MT.kids_node]
      go_enter Tryz.func32, Tryz.ntmps32
      go_wp2
      go_ret
      exact ⟨rfl, below1 _ _⟩
    · have e : ownR (.node 40 s n a p c ks) = 29 := by
        unfold ownR
        rw [MT.kind_node, MT.text_node, beq_false_of_ne h0]; rfl
      rw [e]
      have g0 := list_empty h0
      clear e HL hb1 h0
      simp only [nodeV, MT.kind_node, MT.text_node, MT.num_node, MT.at_node, MT.ptr_node, MT.cap_node, MT.kids_node]
      go_enter Tryz.func32, Tryz.ntmps32
      go_wp2
      go_ret
      exact ⟨rfl, below1 _ _⟩
  have g40 : (k == 40) = false := beq_false_of_ne h40
  by_cases h27 : k = 27
  · subst h27
    have e : ownR (.node 27 s n a p c ks) = if listsT (.node 27 s n a p c ks) then 22 else 21 := rfl
    rw [e]
    exact own_27 s n a p ks.length c w _ HL.out
  · have g27 : (k == 27) = false := beq_false_of_ne h27
    have e : ownR (.node k s n a p c ks) = 0 := by unfold ownR; rw [MT.kind_node, g40, g27]; rfl
    rw [e]
    clear e HL hb1 h40 h27
    simp only [nodeV, MT.kind_node, MT.text_node, MT.num_node, MT.at_node, MT.ptr_node, MT.cap_node, MT.kids_node]
    go_enter Tryz.func32, Tryz.ntmps32
    go_wp2
    go_ret
    exact ⟨rfl, below1 _ _⟩

set_option maxRecDepth 100000 in
set_option maxHeartbeats 4000000 in
theorem wrong_long (code k : Int) (s : ByteArray) (hs : 40 < s.size) (n a : Int) (p : Option Addr) (m c : Nat) (w : World) :
    Calls Tryz.prog 51 #[.int .i64 code, .agg (nd k s n a p m c)] w fun e w' => ∃ B, e = .returned (.iface 67 (.pointer (some ⟨B, 0, none⟩))) ∧ w.heap.size ≤ B ∧ w'.heap[B]? = some (.cells #[.int .i64 code, .int .i64 a, .string ⟨#[]⟩] 28 (0, 0)) ∧ Below w.heap.size w w' := by
  have hB2 := below2 w (.cells (nd k s n a p m c) 24) (.cells #[.int .i64 code, .int .i64 a, .string ⟨#[]⟩] 28)
  have hrow : ((w.alloc (.cells (nd k s n a p m c) 24)).alloc (.cells #[.int .i64 code, .int .i64 a, .string ⟨#[]⟩] 28)).heap[w.heap.size + 1]? = some (.cells #[.int .i64 code, .int .i64 a, .string ⟨#[]⟩] 28 (0, 0)) := by
    have := heap_alloc_new (w.alloc (.cells (nd k s n a p m c) 24)) (.cells #[.int .i64 code, .int .i64 a, .string ⟨#[]⟩] 28)
    rwa [World.size_alloc] at this
  have HR : Hid _ := hrow
  clear hrow
  go_enter Tryz.func51, Tryz.ntmps51
  go_wp2_with fail
  go_ret
  exact ⟨w.heap.size + 1, rfl, by omega, HR.out, hB2⟩
/-- The name that is told of a node. -/
def toldName (s : ByteArray) : ByteArray := if s.size ≤ 40 then s else ⟨#[]⟩
theorem treeWrong_all (code k : Int) (s : ByteArray) (n a : Int) (p : Option Addr) (m c : Nat) (w : World) :
    Calls Tryz.prog 51 #[.int .i64 code, .agg (nd k s n a p m c)] w fun e w' => ∃ B, e = .returned (.iface 67 (.pointer (some ⟨B, 0, none⟩))) ∧ w.heap.size ≤ B ∧ w'.heap[B]? = some (.cells #[.int .i64 code, .int .i64 a, .string (toldName s)] 28 (0, 0)) ∧ Below w.heap.size w w' := by
  unfold toldName
  by_cases h : s.size ≤ 40
  · rw [if_pos h]; exact treeWrong_any code k s h n a p m c w
  · rw [if_neg h]; exact wrong_long code k s (by omega) n a p m c w
end Go.Proofs.YthbnegggohegkaaGreatDoor
namespace Go.Proofs.YthbnegggohegkaaGreatDoor
open Go.RowKit

set_option maxRecDepth 100000 in
set_option maxHeartbeats 4000000 in
theorem fault_many (cb : Nat) (ah : Nat) (deep : Int) (k : Int) (s : ByteArray) (n a : Int) (p : Option Addr) (m c rl : Nat) (S : Shp) (q : Option Addr) (w : World) (hcb : cb < w.heap.size) (hc : w.cell? ⟨cb, 0, none⟩ = some (.int .i64 (ah : Nat))) (ha : 20000 ≤ ah) : Calls Tryz.prog 50 #[.pointer (some ⟨cb, 0, none⟩), .agg (nd k s n a p m c), .int .i64 (rl : Nat), .int .i64 deep, .agg (shV S q)] w fun e w' => e = .returned (.int .i64 22) ∧ Below w.heap.size w w' := by
  go_enter Tryz.func50, Tryz.ntmps50
  go_wp2_with fail
  go_ret
  exact ⟨rfl, below2 _ _ _⟩

set_option maxRecDepth 100000 in
set_option maxHeartbeats 4000000 in
theorem fault_deep (cb : Nat) (ah : Nat) (deep : Int) (k : Int) (s : ByteArray) (n a : Int) (p : Option Addr) (m c rl : Nat) (S : Shp) (q : Option Addr) (w : World) (hcb : cb < w.heap.size) (hc : w.cell? ⟨cb, 0, none⟩ = some (.int .i64 (ah : Nat))) (ha : ah < 20000) (hd : 60 < deep) : Calls Tryz.prog 50 #[.pointer (some ⟨cb, 0, none⟩), .agg (nd k s n a p m c), .int .i64 (rl : Nat), .int .i64 deep, .agg (shV S q)] w fun e w' => e = .returned (.int .i64 21) ∧ Below w.heap.size w w' := by
  go_enter Tryz.func50, Tryz.ntmps50
  go_wp2_with fail
  go_ret
  exact ⟨rfl, below2 _ _ _⟩

set_option maxRecDepth 100000 in
set_option maxHeartbeats 4000000 in
theorem fault_takes (cb : Nat) (ah : Nat) (deep : Int) (k : Int) (s : ByteArray) (n a : Int) (p : Option Addr) (m c rl : Nat) (S : Shp) (q : Option Addr) (w : World) (hcb : cb < w.heap.size) (hc : w.cell? ⟨cb, 0, none⟩ = some (.int .i64 (ah : Nat))) (ha : ah < 20000) (hd : deep ≤ 60) (h66 : ∀ W, Calls Tryz.prog 66 #[.int .i64 (rl : Nat), .int .i64 k] W fun e w' => e = .returned (.bool false) ∧ w' = W) : Calls Tryz.prog 50 #[.pointer (some ⟨cb, 0, none⟩), .agg (nd k s n a p m c), .int .i64 (rl : Nat), .int .i64 deep, .agg (shV S q)] w fun e w' => e = .returned (.int .i64 20) ∧ Below w.heap.size w w' := by
  have HT : Hid _ := h66
  clear h66
  go_enter Tryz.func50, Tryz.ntmps50
  go_wp2_with fail
  refine (HT.out _).mono ?_
  rintro e w0 ⟨rfl, rfl⟩
  go_wp2_with fail
  go_ret
  exact ⟨rfl, below2 _ _ _⟩

set_option maxRecDepth 100000 in
set_option maxHeartbeats 4000000 in
theorem fault_text (cb : Nat) (ah : Nat) (deep : Int) (k : Int) (s : ByteArray) (n a : Int) (p : Option Addr) (m c rl : Nat) (S : Shp) (q : Option Addr) (w : World) (hcb : cb < w.heap.size) (hc : w.cell? ⟨cb, 0, none⟩ = some (.int .i64 (ah : Nat))) (ha : ah < 20000) (hd : deep ≤ 60) (h66 : ∀ W, Calls Tryz.prog 66 #[.int .i64 (rl : Nat), .int .i64 k] W fun e w' => e = .returned (.bool true) ∧ w' = W) (h90 : ∀ W, Below w.heap.size w W → Calls Tryz.prog 90 #[.agg (nd k s n a p m c), .int .i64 (rl : Nat)] W fun e w' => e = .returned (.bool false) ∧ Below W.heap.size W w') : Calls Tryz.prog 50 #[.pointer (some ⟨cb, 0, none⟩), .agg (nd k s n a p m c), .int .i64 (rl : Nat), .int .i64 deep, .agg (shV S q)] w fun e w' => e = .returned (.int .i64 20) ∧ Below w.heap.size w w' := by
  have HT : Hid _ := h66
  clear h66
  have HX : Hid _ := h90
  clear h90
  have hb2 := below2 w (.cells (nd k s n a p m c) 24) (.cells (shV S q) 94)
  have N0 := (CellsOf.new w (nd k s n a p m c) 24).below (Nat.lt_succ_self _) ((Below.refl _ _).alloc (by simp) (.cells (shV S q) 94))
  have S0 := CellsOf.new (w.alloc (.cells (nd k s n a p m c) 24)) (shV S q) 94
  rw [World.size_alloc] at S0
  go_enter Tryz.func50, Tryz.ntmps50
  go_wp2_with fail
  refine (HT.out _).mono ?_
  rintro e w0 ⟨rfl, rfl⟩
  go_wp2_with fail
  refine (HX.out _ hb2).mono ?_
  rintro e w1 ⟨rfl, hb1⟩
  have HE : Hid _ := hb2.trans (hb1.mono (by simp; omega))
  clear hb1 hb2 N0 S0
  go_wp2_with fail
  go_ret
  exact ⟨rfl, HE.out⟩

set_option maxRecDepth 100000 in
set_option maxHeartbeats 4000000 in
theorem fault_num (cb : Nat) (ah : Nat) (deep : Int) (k : Int) (s : ByteArray) (n a : Int) (p : Option Addr) (m c rl : Nat) (S : Shp) (q : Option Addr) (w : World) (hcb : cb < w.heap.size) (hc : w.cell? ⟨cb, 0, none⟩ = some (.int .i64 (ah : Nat))) (ha : ah < 20000) (hd : deep ≤ 60) (h66 : ∀ W, Calls Tryz.prog 66 #[.int .i64 (rl : Nat), .int .i64 k] W fun e w' => e = .returned (.bool true) ∧ w' = W) (h90 : ∀ W, Below w.heap.size w W → Calls Tryz.prog 90 #[.agg (nd k s n a p m c), .int .i64 (rl : Nat)] W fun e w' => e = .returned (.bool true) ∧ Below W.heap.size W w') (h91 : ∀ W, Below w.heap.size w W → Calls Tryz.prog 91 #[.agg (nd k s n a p m c)] W fun e w' => e = .returned (.bool false) ∧ Below W.heap.size W w') : Calls Tryz.prog 50 #[.pointer (some ⟨cb, 0, none⟩), .agg (nd k s n a p m c), .int .i64 (rl : Nat), .int .i64 deep, .agg (shV S q)] w fun e w' => e = .returned (.int .i64 20) ∧ Below w.heap.size w w' := by
  have HT : Hid _ := h66
  clear h66
  have HX : Hid _ := h90
  clear h90
  have HM : Hid _ := h91
  clear h91
  have hb2 := below2 w (.cells (nd k s n a p m c) 24) (.cells (shV S q) 94)
  have N0 := (CellsOf.new w (nd k s n a p m c) 24).below (Nat.lt_succ_self _) ((Below.refl _ _).alloc (by simp) (.cells (shV S q) 94))
  have S0 := CellsOf.new (w.alloc (.cells (nd k s n a p m c) 24)) (shV S q) 94
  rw [World.size_alloc] at S0
  go_enter Tryz.func50, Tryz.ntmps50
  go_wp2_with fail
  refine (HT.out _).mono ?_
  rintro e w0 ⟨rfl, rfl⟩
  go_wp2_with fail
  refine (HX.out _ hb2).mono ?_
  rintro e w1 ⟨rfl, hb1⟩
  have hB1 := hb2.trans (hb1.mono (by simp; omega))
  have hz1 := hb1.size
  simp only [World.size_alloc] at hz1
  have N1 := N0.below (by simp; omega) hb1
  have S1 := S0.below (by simp) hb1
  have n0 := N1 0 _ rfl
  have n1 := N1 1 _ rfl
  have n2 := N1 2 _ rfl
  have n3 := N1 3 _ rfl
  have n4 := N1 4 _ rfl
  clear hb1 hb2 N0 S0
  go_wp2_with fail
  refine (HM.out _ hB1).mono ?_
  rintro e w2 ⟨rfl, hb3⟩
  have hB2 := hB1.trans (hb3.mono hB1.size)
  have HE : Hid _ := hB2
  clear hB1 hB2 hb3 N1 S1 n0 n1 n2 n3 n4
  go_wp2_with fail
  go_ret
  exact ⟨rfl, HE.out⟩

set_option maxRecDepth 100000 in
set_option maxHeartbeats 4000000 in
theorem fault_shape (cb : Nat) (ah : Nat) (deep : Int) (k : Int) (s : ByteArray) (n a : Int) (p : Option Addr) (m c rl : Nat) (S : Shp) (q : Option Addr) (w : World) (hcb : cb < w.heap.size) (hc : w.cell? ⟨cb, 0, none⟩ = some (.int .i64 (ah : Nat))) (ha : ah < 20000) (hd : deep ≤ 60) (h66 : ∀ W, Calls Tryz.prog 66 #[.int .i64 (rl : Nat), .int .i64 k] W fun e w' => e = .returned (.bool true) ∧ w' = W) (h90 : ∀ W, Below w.heap.size w W → Calls Tryz.prog 90 #[.agg (nd k s n a p m c), .int .i64 (rl : Nat)] W fun e w' => e = .returned (.bool true) ∧ Below W.heap.size W w') (h91 : ∀ W, Below w.heap.size w W → Calls Tryz.prog 91 #[.agg (nd k s n a p m c)] W fun e w' => e = .returned (.bool true) ∧ Below W.heap.size W w') (r : Nat) (h92 : ∀ W, Calls Tryz.prog 92 #[.agg (shV S q), .int .i64 (m : Nat)] W fun e w' => e = .returned (.int .i64 (r : Nat)) ∧ Below W.heap.size W w') : Calls Tryz.prog 50 #[.pointer (some ⟨cb, 0, none⟩), .agg (nd k s n a p m c), .int .i64 (rl : Nat), .int .i64 deep, .agg (shV S q)] w fun e w' => e = .returned (.int .i64 (r : Nat)) ∧ Below w.heap.size w w' := by
  have HF : Hid _ := h92
  clear h92
  have HT : Hid _ := h66
  clear h66
  have HX : Hid _ := h90
  clear h90
  have HM : Hid _ := h91
  clear h91
  have hb2 := below2 w (.cells (nd k s n a p m c) 24) (.cells (shV S q) 94)
  have N0 := (CellsOf.new w (nd k s n a p m c) 24).below (Nat.lt_succ_self _) ((Below.refl _ _).alloc (by simp) (.cells (shV S q) 94))
  have S0 := CellsOf.new (w.alloc (.cells (nd k s n a p m c) 24)) (shV S q) 94
  rw [World.size_alloc] at S0
  go_enter Tryz.func50, Tryz.ntmps50
  go_wp2_with fail
  refine (HT.out _).mono ?_
  rintro e w0 ⟨rfl, rfl⟩
  go_wp2_with fail
  refine (HX.out _ hb2).mono ?_
  rintro e w1 ⟨rfl, hb1⟩
  have hB1 := hb2.trans (hb1.mono (by simp; omega))
  have hz1 := hb1.size
  simp only [World.size_alloc] at hz1
  have N1 := N0.below (by simp; omega) hb1
  have S1 := S0.below (by simp) hb1
  have n0 := N1 0 _ rfl
  have n1 := N1 1 _ rfl
  have n2 := N1 2 _ rfl
  have n3 := N1 3 _ rfl
  have n4 := N1 4 _ rfl
  clear hb1 hb2 N0 S0
  go_wp2_with fail
  refine (HM.out _ hB1).mono ?_
  rintro e w2 ⟨rfl, hb3⟩
  have hB2 := hB1.trans (hb3.mono hB1.size)
  have m4 := (N1.below (by omega) hb3) 4 _ rfl
  have S2 := S1.below (by omega) hb3
  have s0 := S2 0 _ rfl
  have s1 := S2 1 _ rfl
  have s2 := S2 2 _ rfl
  have s3 := S2 3 _ rfl
  clear n0 n1 n2 n3 n4 hb3 N1 S1 S2 hB1
  go_wp2_with fail
  refine (HF.out _).mono ?_
  rintro e w3 ⟨rfl, hb4⟩
  have HE : Hid _ := hB2.trans (hb4.mono hB2.size)
  clear hB2 hb4 m4 s0 s1 s2 s3
  go_wp2_with fail
  go_ret
  exact ⟨rfl, HE.out⟩

theorem fault_any {gw ow gs os : Nat} (cb ah : Nat) (deep : Int) (t : MT) (rl : Nat) (hrl : rl ≤ 30) (q : Option Addr) (w : World) (ht : TabsAt gw ow gs os w) (hcb : cb < w.heap.size) (hc : w.cell? ⟨cb, 0, none⟩ = some (.int .i64 (ah : Nat))) :
    Calls Tryz.prog 50 #[.pointer (some ⟨cb, 0, none⟩), nodeV t, .int .i64 (rl : Nat), .int .i64 deep, .agg (shV (shOf t.kind t.kids rl) q)] w fun e w' => e = .returned (.int .i64 (nodeFault t rl ah (decide (deep ≤ 60)) : Nat)) ∧ Below w.heap.size w w' := by
  unfold nodeFault
  by_cases h1 : 20000 ≤ ah
  · rw [if_pos h1]; exact fault_many cb ah deep _ _ _ _ _ _ _ rl _ q w hcb hc h1
  rw [if_neg h1]
  by_cases h2 : deep ≤ 60
  · rw [decide_eq_true h2, if_neg (by decide : ¬ (true = false))]
    cases e1 : takesB rl t.kind with
    | false => exact fault_takes cb ah deep _ _ _ _ _ _ _ rl _ q w hcb hc (by omega) h2 (fun W => by rw [← e1]; exact takes_any rl hrl t.kind W)
    | true =>
      cases e2 : textB t.kind t.text.data.toList rl with
      | false => exact fault_text cb ah deep _ _ _ _ _ _ _ rl _ q w hcb hc (by omega) h2 (fun W => by rw [← e1]; exact takes_any rl hrl t.kind W) (fun W hW => by rw [← e2]; exact textFits_any t.kind t.text t.num t.at_ t.ptr t.kids.length t.cap rl hrl W (ht.below (Nat.le_refl _) hW))
      | true =>
        cases e3 : numB t.kind t.num with
        | false => exact fault_num cb ah deep _ _ _ _ _ _ _ rl _ q w hcb hc (by omega) h2 (fun W => by rw [← e1]; exact takes_any rl hrl t.kind W) (fun W hW => by rw [← e2]; exact textFits_any t.kind t.text t.num t.at_ t.ptr t.kids.length t.cap rl hrl W (ht.below (Nat.le_refl _) hW)) (fun W _ => by rw [← e3]; exact num_any t.kind t.text t.num t.at_ t.ptr t.kids.length t.cap W)
        | true => exact fault_shape cb ah deep _ _ _ _ _ _ _ rl _ q w hcb hc (by omega) h2 (fun W => by rw [← e1]; exact takes_any rl hrl t.kind W) (fun W hW => by rw [← e2]; exact textFits_any t.kind t.text t.num t.at_ t.ptr t.kids.length t.cap rl hrl W (ht.below (Nat.le_refl _) hW)) (fun W _ => by rw [← e3]; exact num_any t.kind t.text t.num t.at_ t.ptr t.kids.length t.cap W) _ (fun W => shFault_any _ q t.kids.length W)
  · rw [decide_eq_false h2, if_pos rfl]; exact fault_deep cb ah deep _ _ _ _ _ _ _ rl _ q w hcb hc (by omega) (by omega)
end Go.Proofs.YthbnegggohegkaaGreatDoor
