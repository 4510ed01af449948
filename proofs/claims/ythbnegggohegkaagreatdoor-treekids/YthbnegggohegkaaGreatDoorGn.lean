/-
  textFits, numberFits, (shape).fault and (shape).role, at every argument.
-/
import Derived.Test.YthbnegggohegkaaGreatDoorGmJ
import Derived.Test.YthbnegggohegkaaGreatDoorGiJ
namespace Go.Proofs.YthbnegggohegkaaGreatDoor
open Go.RowKit

theorem list_empty {s : ByteArray} (h : s.data.toList ≠ []) : (s.toList == []) = false := by rw [ByteArray.toList_eq]; exact beq_false_of_ne h
set_option maxRecDepth 100000 in
set_option maxHeartbeats 4000000 in
theorem textFits_any {gw ow gs os : Nat} (k : Int) (s : ByteArray) (n a : Int) (p : Option Addr) (m c rl : Nat) (hrl : rl ≤ 30) (w : World) (ht : TabsAt gw ow gs os w) :
    Calls Tryz.prog 90 #[.agg (nd k s n a p m c), .int .i64 (rl : Nat)] w fun e w' => e = .returned (.bool (textB k s.data.toList rl)) ∧ Below w.heap.size w w' := by
  have hN : ∀ W, Below w.heap.size w W → Calls Tryz.prog 121 #[.string s] W fun e w' => e = .returned (.bool (nameB s.data.toList)) ∧ Below W.heap.size W w' := fun W hW => treeName_any s W (ht.below (Nat.le_refl _) hW)
  by_cases e2 : k = 2
  · subst e2; exact fits_name 2 (by decide) s n a p m c rl w _ hN
  by_cases e3 : k = 3
  · subst e3; exact fits_name 3 (by decide) s n a p m c rl w _ hN
  by_cases e4 : k = 4
  · subst e4; exact fits_name 4 (by decide) s n a p m c rl w _ hN
  by_cases e5 : k = 5
  · subst e5; exact fits_name 5 (by decide) s n a p m c rl w _ hN
  by_cases e6 : k = 6
  · subst e6; exact fits_name 6 (by decide) s n a p m c rl w _ hN
  by_cases e7 : k = 7
  · subst e7; exact fits_name 7 (by decide) s n a p m c rl w _ hN
  by_cases e8 : k = 8
  · subst e8; exact fits_name 8 (by decide) s n a p m c rl w _ hN
  by_cases e9 : k = 9
  · subst e9; exact fits_name 9 (by decide) s n a p m c rl w _ hN
  by_cases e10 : k = 10
  · subst e10; exact fits_name 10 (by decide) s n a p m c rl w _ hN
  by_cases e11 : k = 11
  · subst e11; exact fits_name 11 (by decide) s n a p m c rl w _ hN
  by_cases e12 : k = 12
  · subst e12; exact fits_name 12 (by decide) s n a p m c rl w _ hN
  by_cases e18 : k = 18
  · subst e18; exact fits_name 18 (by decide) s n a p m c rl w _ hN
  by_cases e41 : k = 41
  · subst e41; exact fits_name 41 (by decide) s n a p m c rl w _ hN
  by_cases e45 : k = 45
  · subst e45; exact fits_name 45 (by decide) s n a p m c rl w _ hN
  by_cases e23 : k = 23
  · subst e23
    have e : textB 23 s.data.toList rl = (s.data.toList == [] || nameB s.data.toList) := rfl
    rw [e]
    by_cases h0 : s.data.toList = []
    · obtain rfl := text_eq h0
      exact fits_label0 23 (by decide) n a p m c rl w
    · rw [beq_false_of_ne h0, Bool.false_or]
      exact fits_label1 23 (by decide) s n a p m c rl w (list_empty h0) _ hN
  by_cases e24 : k = 24
  · subst e24
    have e : textB 24 s.data.toList rl = (s.data.toList == [] || nameB s.data.toList) := rfl
    rw [e]
    by_cases h0 : s.data.toList = []
    · obtain rfl := text_eq h0
      exact fits_label0 24 (by decide) n a p m c rl w
    · rw [beq_false_of_ne h0, Bool.false_or]
      exact fits_label1 24 (by decide) s n a p m c rl w (list_empty h0) _ hN
  by_cases e25 : k = 25
  · subst e25
    have e : textB 25 s.data.toList rl = (s.data.toList == [] || nameB s.data.toList) := rfl
    rw [e]
    by_cases h0 : s.data.toList = []
    · obtain rfl := text_eq h0
      exact fits_label0 25 (by decide) n a p m c rl w
    · rw [beq_false_of_ne h0, Bool.false_or]
      exact fits_label1 25 (by decide) s n a p m c rl w (list_empty h0) _ hN
  by_cases e26 : k = 26
  · subst e26
    have e : textB 26 s.data.toList rl = (s.data.toList == [] || nameB s.data.toList) := rfl
    rw [e]
    by_cases h0 : s.data.toList = []
    · obtain rfl := text_eq h0
      exact fits_label0 26 (by decide) n a p m c rl w
    · rw [beq_false_of_ne h0, Bool.false_or]
      exact fits_label1 26 (by decide) s n a p m c rl w (list_empty h0) _ hN
  by_cases e31 : k = 31
  · subst e31
    have e : textB 31 s.data.toList rl = (s.data.toList == [] || nameB s.data.toList) := rfl
    rw [e]
    by_cases h0 : s.data.toList = []
    · obtain rfl := text_eq h0
      exact fits_label0 31 (by decide) n a p m c rl w
    · rw [beq_false_of_ne h0, Bool.false_or]
      exact fits_label1 31 (by decide) s n a p m c rl w (list_empty h0) _ hN
  by_cases e32 : k = 32
  · subst e32
    have e : textB 32 s.data.toList rl = (s.data.toList == [] || nameB s.data.toList) := rfl
    rw [e]
    by_cases h0 : s.data.toList = []
    · obtain rfl := text_eq h0
      exact fits_label0 32 (by decide) n a p m c rl w
    · rw [beq_false_of_ne h0, Bool.false_or]
      exact fits_label1 32 (by decide) s n a p m c rl w (list_empty h0) _ hN
  by_cases e14 : k = 14
  · subst e14
    have e : textB 14 s.data.toList rl = (nameB s.data.toList || (wordsN rl).contains s.data.toList) := rfl
    rw [e]
    cases hq : nameB s.data.toList with
    | true =>
      rw [hq] at hN
      rw [Bool.true_or]
      exact fits_word1 s n a p m c rl w hN
    | false =>
      rw [hq] at hN
      rw [Bool.false_or]
      exact fits_word2 s n a p m c rl w hN (wordsN rl) (fun W _ => words_any rl hrl W) (fun W p hT => contains_any (wordsN rl) p _ s W (words_len rl) hT)
  by_cases e40 : k = 40
  · subst e40
    have e : textB 40 s.data.toList rl = ((rl == 28 && s.data.toList == []) || (rl == 29 && nameB s.data.toList)) := rfl
    rw [e]
    by_cases h28 : rl = 28
    · subst h28
      by_cases h0 : s.data.toList = []
      · obtain rfl := text_eq h0
        exact fits_pair28a n a p m c w
      · rw [beq_false_of_ne h0]
        exact fits_pair28b s n a p m c w (list_empty h0)
    by_cases h29 : rl = 29
    · subst h29
      have e2 : ((29 == 28 && s.data.toList == []) || (29 == 29 && nameB s.data.toList)) = nameB s.data.toList := by simp
      rw [e2]
      exact fits_pair29 s n a p m c w _ hN
    · have e2 : ((rl == 28 && s.data.toList == []) || (rl == 29 && nameB s.data.toList)) = false := by rw [beq_false_of_ne h28, beq_false_of_ne h29]; rfl
      rw [e2]
      exact fits_pair s n a p m c rl w (by simp; omega) (by simp; omega)
  by_cases e20 : k = 20
  · subst e20; exact fits_assign s n a p m c rl w
  by_cases e34 : k = 34
  · subst e34
    have e : textB 34 s.data.toList rl = (s.data.toList == [43, 43] || s.data.toList == [45, 45]) := rfl
    rw [e]
    by_cases h1 : s.data.toList = [43, 43]
    · obtain rfl := text_eq h1
      exact fits_step0 _ (.inl rfl) n a p m c rl w
    by_cases h2 : s.data.toList = [45, 45]
    · obtain rfl := text_eq h2
      exact fits_step0 _ (.inr rfl) n a p m c rl w
    rw [beq_false_of_ne h1, beq_false_of_ne h2]
    exact fits_step1 s n a p m c rl w (by rw [ByteArray.toList_eq]; exact beq_false_of_ne h1) (by rw [ByteArray.toList_eq]; exact beq_false_of_ne h2)
  by_cases e35 : k = 35
  · subst e35; exact fits_token 35 4 (.inl ⟨rfl, rfl⟩) s n a p m c rl w _ (fun W hW => token_any s 4 W (ht.below (Nat.le_refl _) hW))
  by_cases e36 : k = 36
  · subst e36; exact fits_token 36 5 (.inr ⟨rfl, rfl⟩) s n a p m c rl w _ (fun W hW => token_any s 5 W (ht.below (Nat.le_refl _) hW))
  by_cases e37 : k = 37
  · subst e37; exact fits_text s n a p m c rl w
  by_cases e50 : k = 50
  · subst e50
    have e : textB 50 s.data.toList rl = (unaryB s.data.toList && (s.data.toList == [42] || !(rl == 14))) := rfl
    rw [e]
    cases hq : unaryB s.data.toList with
    | false => exact fits_unary0 s n a p m c rl w (fun W => by rw [← hq]; exact isUnary_any s W)
    | true =>
      rw [Bool.true_and]
      by_cases h0 : s.data.toList = [42]
      · rw [h0]
        exact fits_unary1 s n a p m c rl w (fun W => by rw [← hq]; exact isUnary_any s W) (by rw [ByteArray.toList_eq, h0]; rfl)
      · rw [beq_false_of_ne h0, Bool.false_or]
        refine fits_unary2 s n a p m c rl w (fun W => by rw [← hq]; exact isUnary_any s W) (by rw [ByteArray.toList_eq]; exact beq_false_of_ne h0) _ ?_
        by_cases h14 : rl = 14
        · subst h14; rfl
        · rw [beq_false_of_ne h14]; simp; omega
  by_cases e51 : k = 51
  · subst e51; exact fits_binary s n a p m c rl w
  have e : textB k s.data.toList rl = (s.data.toList == []) := by
    unfold textB
    rw [if_neg (by simp [e2, e3, e4, e5, e6, e7, e8, e9, e10, e11, e12, e18, e41, e45]), if_neg (by simp [e23, e24, e25, e26, e31, e32])]
    simp only [beq_false_of_ne e14, beq_false_of_ne e40, beq_false_of_ne e20, beq_false_of_ne e34, beq_false_of_ne e35, beq_false_of_ne e36, beq_false_of_ne e37, beq_false_of_ne e50, beq_false_of_ne e51, Bool.false_eq_true, if_false]
  rw [e]
  by_cases h0 : s.data.toList = []
  · obtain rfl := text_eq h0
    exact fits_none0 k (beq_false_of_ne e2) (beq_false_of_ne e3) (beq_false_of_ne e4) (beq_false_of_ne e5) (beq_false_of_ne e6) (beq_false_of_ne e7) (beq_false_of_ne e8) (beq_false_of_ne e9) (beq_false_of_ne e10) (beq_false_of_ne e11) (beq_false_of_ne e12) (beq_false_of_ne e18) (beq_false_of_ne e41) (beq_false_of_ne e45) (beq_false_of_ne e23) (beq_false_of_ne e24) (beq_false_of_ne e25) (beq_false_of_ne e26) (beq_false_of_ne e31) (beq_false_of_ne e32) (beq_false_of_ne e14) (beq_false_of_ne e40) (beq_false_of_ne e20) (beq_false_of_ne e34) (beq_false_of_ne e35) (beq_false_of_ne e36) (beq_false_of_ne e37) (beq_false_of_ne e50) (beq_false_of_ne e51) n a p m c rl w
  · rw [beq_false_of_ne h0]
    exact fits_none1 k (beq_false_of_ne e2) (beq_false_of_ne e3) (beq_false_of_ne e4) (beq_false_of_ne e5) (beq_false_of_ne e6) (beq_false_of_ne e7) (beq_false_of_ne e8) (beq_false_of_ne e9) (beq_false_of_ne e10) (beq_false_of_ne e11) (beq_false_of_ne e12) (beq_false_of_ne e18) (beq_false_of_ne e41) (beq_false_of_ne e45) (beq_false_of_ne e23) (beq_false_of_ne e24) (beq_false_of_ne e25) (beq_false_of_ne e26) (beq_false_of_ne e31) (beq_false_of_ne e32) (beq_false_of_ne e14) (beq_false_of_ne e40) (beq_false_of_ne e20) (beq_false_of_ne e34) (beq_false_of_ne e35) (beq_false_of_ne e36) (beq_false_of_ne e37) (beq_false_of_ne e50) (beq_false_of_ne e51) s n a p m c rl w (list_empty h0)

set_option maxRecDepth 100000 in
set_option maxHeartbeats 4000000 in
theorem num_any (k : Int) (s : ByteArray) (n a : Int) (p : Option Addr) (m c : Nat) (w : World) :
    Calls Tryz.prog 91 #[.agg (nd k s n a p m c)] w fun e w' => e = .returned (.bool (numB k n)) ∧ Below w.heap.size w w' := by
  by_cases h0 : n = 0
  · subst h0
    have e : numB k 0 = true := rfl
    rw [e]
    go_enter Tryz.func91, Tryz.ntmps91
    go_wp2
    go_ret
    exact ⟨rfl, below1 _ _⟩
  have g0 : (n == 0) = false := beq_false_of_ne h0
  by_cases h11 : k = 11
  · subst h11
    by_cases h1 : 0 < n
    · have e : numB 11 n = decide (n ≤ 12) := by unfold numB; rw [g0, decide_eq_true h1]; simp
      rw [e]
      go_enter Tryz.func91, Tryz.ntmps91
      go_wp2
      go_ret
      exact ⟨rfl, below1 _ _⟩
    · have e : numB 11 n = false := by unfold numB; rw [g0, decide_eq_false h1]; simp
      rw [e]
      go_enter Tryz.func91, Tryz.ntmps91
      go_wp2
      go_ret
      exact ⟨rfl, below1 _ _⟩
  · have g11 : (k == 11) = false := beq_false_of_ne h11
    have e : numB k n = false := by unfold numB; rw [g0, g11]; simp
    rw [e]
    go_enter Tryz.func91, Tryz.ntmps91
    go_wp2
    go_ret
    exact ⟨rfl, below1 _ _⟩

set_option maxRecDepth 100000 in
set_option maxHeartbeats 4000000 in
theorem shFault_walk (q : Option Addr) (r : Nat) (least n : Nat) (most : Int) (crowded : Bool) (w : World) :
    Calls Tryz.prog 92 #[.agg #[.slice q r r, .int .i64 least, .int .i64 most, .bool crowded], .int .i64 (n : Nat)] w fun e w' => e = .returned (.int .i64 ((if n < least then 20 else if most < 0 ∨ (n : Int) ≤ most then 0 else if crowded then 22 else 20 : Nat) : Nat)) ∧ Below w.heap.size w w' := by
  by_cases h1 : n < least
  · rw [if_pos h1]
    have g1 : ((n : Nat) : Int) < (least : Nat) := by omega
    go_enter Tryz.func92, Tryz.ntmps92
    go_wp2
    go_ret
    exact ⟨rfl, below1 _ _⟩
  rw [if_neg h1]
  have g1 : ¬ ((n : Nat) : Int) < (least : Nat) := by omega
  by_cases h2 : most < 0
  · rw [if_pos (.inl h2)]
    go_enter Tryz.func92, Tryz.ntmps92
    go_wp2
    go_ret
    exact ⟨rfl, below1 _ _⟩
  by_cases h3 : (n : Int) ≤ most
  · rw [if_pos (.inr h3)]
    go_enter Tryz.func92, Tryz.ntmps92
    go_wp2
    go_ret
    exact ⟨rfl, below1 _ _⟩
  rw [if_neg (by omega)]
  cases crowded
  all_goals
    go_enter Tryz.func92, Tryz.ntmps92
    go_wp2
    go_ret
    exact ⟨rfl, below1 _ _⟩
theorem shFault_any (S : Shp) (q : Option Addr) (n : Nat) (w : World) : Calls Tryz.prog 92 #[.agg (shV S q), .int .i64 (n : Nat)] w fun e w' => e = .returned (.int .i64 (faultSh S n : Nat)) ∧ Below w.heap.size w w' :=
  shFault_walk q S.roles.length S.least n S.most S.crowded w

set_option maxHeartbeats 1000000 in
theorem role_walk (g r least i j x : Nat) (most : Int) (crowded : Bool) (hr : 0 < r) (hj : j = min i (r - 1)) (hr2 : r < 100) (w : World) (hg : g < w.heap.size) (hx : w.cell? ⟨g, j, none⟩ = some (.int .i64 (x : Nat))) :
    Calls Tryz.prog 53 #[.agg #[.slice (some ⟨g, 0, none⟩) r r, .int .i64 least, .int .i64 most, .bool crowded], .int .i64 (i : Nat)] w fun e w' => e = .returned (.int .i64 (x : Nat)) ∧ Below w.heap.size w w' := by
  have hm : min ((i : Nat) : Int) ((r : Nat) - 1) = (j : Nat) := by omega
  have hjr : j < r := by omega
  clear hj
  go_enter Tryz.func53, Tryz.ntmps53
  go_wp2
  go_ret
  exact ⟨rfl, below1 _ _⟩
theorem role_any (S : Shp) (q : Option Addr) (lo i : Nat) (w : World) (hR : RolesAt w lo q S.roles) (hne : S.roles ≠ []) (hl : S.roles.length < 100) :
    Calls Tryz.prog 53 #[.agg (shV S q), .int .i64 (i : Nat)] w fun e w' => e = .returned (.int .i64 (roleAt S i : Nat)) ∧ Below w.heap.size w w' := by
  obtain ⟨g, rfl, _, hg, hc⟩ := hR.resolve_left (fun h => hne h.1)
  have hp : 0 < S.roles.length := by cases h : S.roles with | nil => exact absurd h hne | cons _ _ => simp
  have hlt : min i (S.roles.length - 1) < S.roles.length := by omega
  have e : roleAt S i = S.roles[min i (S.roles.length - 1)] := by unfold roleAt; rw [List.getD_eq_getElem?_getD, List.getElem?_eq_getElem hlt]; rfl
  rw [e]
  exact role_walk g S.roles.length S.least i _ _ S.most S.crowded hp rfl hl w hg (hc _ hlt)
end Go.Proofs.YthbnegggohegkaaGreatDoor
