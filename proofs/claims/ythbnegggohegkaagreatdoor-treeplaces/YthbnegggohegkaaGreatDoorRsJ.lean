/-
  The walks of guiseref2.counted and guiseref2.Count, at every tree.
  The small functions of tree.Right, at the nodes of the chapter's examples: names, sums and products, an int.
-/
import Derived.Test.YthbnegggohegkaaGreatDoorProg
import Derived.Test.YthbnegggohegkaaGreatDoorTr
import Derived.WalkKit
import Derived.WalkSpells
import Derived.WalkLawsBesides
namespace Go.Proofs.YthbnegggohegkaaGreatDoor
open Go.RowKit

/-- The value of a node, written out. -/
abbrev nodeV (t : MT) : Value := .agg #[.int .i64 t.kind, .string t.text, .int .i64 t.num, .int .i64 t.at_, .slice t.ptr t.kids.length t.cap]
abbrev nodeO (t : MT) : Obj := .cells #[.int .i64 t.kind, .string t.text, .int .i64 t.num, .int .i64 t.at_, .slice t.ptr t.kids.length t.cap] 24

/-- A node in a box. -/
structure BoxAt (w : World) (b : Nat) (t : MT) : Prop where
  k0 : w.cell? ⟨b, 0, none⟩ = some (.int .i64 t.kind)
  k1 : w.cell? ⟨b, 1, none⟩ = some (.string t.text)
  k2 : w.cell? ⟨b, 2, none⟩ = some (.int .i64 t.num)
  k3 : w.cell? ⟨b, 3, none⟩ = some (.int .i64 t.at_)
  k4 : w.cell? ⟨b, 4, none⟩ = some (.slice t.ptr t.kids.length t.cap)

theorem BoxAt.new (w : World) (t : MT) : BoxAt (w.alloc (nodeO t)) w.heap.size t := ⟨by simp, by simp, by simp, by simp, by simp⟩
theorem BoxAt.below {w w' : World} {b B : Nat} {t : MT} (h : BoxAt w b t) (hB : b < B) (hb : Below B w w') : BoxAt w' b t :=
  ⟨(hb.cell (p := ⟨b, _, none⟩) hB).trans h.k0, (hb.cell (p := ⟨b, _, none⟩) hB).trans h.k1, (hb.cell (p := ⟨b, _, none⟩) hB).trans h.k2,
   (hb.cell (p := ⟨b, _, none⟩) hB).trans h.k3, (hb.cell (p := ⟨b, _, none⟩) hB).trans h.k4⟩

set_option maxHeartbeats 1000000 in
theorem counted_any (N : Nat) : ∀ (t : MT) (m : Int) (w : World), t.size ≤ N → 0 ≤ m → m ≤ 1000000 → t.In w.heap.size w →
    Calls Tryz.prog 30 #[nodeV t, .int .i64 m] w fun e w' => ∃ r : Int, e = .returned (.int .i64 r) ∧ 0 ≤ r ∧ r ≤ m + 1 ∧ Hid (r = min (t.size : Int) (m + 1)) ∧ Below w.heap.size w w' := by
  induction N with
  | zero => intro t m w h; have := t.size_pos; omega
  | succ N ih =>
    intro t m w hN hm0 hm hin
    have HI : Hid _ := ih
    clear ih
    have hcap := hin.cap_le
    have hlc := hin.len_le
    unfold maxLen at hcap
    go_enter Tryz.func30, Tryz.ntmps30
    go_wp2_with fail
    go_loopw [5, 6] (fun a i wr => ∃ (k : Nat) (r : Int), k ≤ t.kids.length ∧ i = .int .i64 k ∧ a = .int .i64 r ∧ 1 ≤ r ∧ r ≤ m + 1 ∧ Hid (r = min (1 + (MT.sizeL (t.kids.take k) : Int)) (m + 1)) ∧ Below (w.heap.size + 1) (w.alloc (nodeO t)) wr) (fun _ i _ => t.kids.length - (intOf i).toNat)
    case atStart => exact ⟨0, 1, Nat.zero_le _, rfl, rfl, Int.le_refl _, by omega, by show _ = _; simp [MT.sizeL]; omega, Below.refl _ _⟩
    case round =>
      obtain ⟨k, r, hk, rfl, rfl, hr1, hr2, hr, hb⟩ := hrel
      have HB : Hid (Below w.heap.size w wr) := ((Below.refl _ _).alloc (Nat.le_refl _) _).trans (hb.mono (by omega))
      have hin' := MT.In.below HB.out t hin
      have hz := hb.size
      simp only [World.size_alloc] at hz
      have k4 := ((BoxAt.new w t).below (Nat.lt_succ_self _) hb).k4
      have HBB : Hid (Below (w.heap.size + 1) (w.alloc (nodeO t)) wr) := hb
      clear hb
      have HT : Hid (t.size = 1 + MT.sizeL t.kids) := t.size_eq
      by_cases hlt : k < t.kids.length
      · obtain ⟨b, o, hp, hbB, hL⟩ : ∃ b o, t.ptr = some ⟨b, o, none⟩ ∧ b < w.heap.size ∧ MT.InL w.heap.size wr b o t.kids := by
          rcases hin'.kidsL with h | h
          · rw [h] at hlt; simp at hlt
          · exact h
        obtain ⟨hC, hI⟩ := hL.get k hlt
        have HS : Hid (MT.sizeL (t.kids.take (k + 1)) = MT.sizeL (t.kids.take k) + (t.kids[k]).size) := MT.sizeL_take_succ t.kids k hlt
        have HL : Hid (MT.sizeL (t.kids.take (k + 1)) ≤ MT.sizeL t.kids) := MT.sizeL_take_le _ _
        generalize t.kids[k] = kid at hC hI HS
        obtain ⟨c0, c1, c2, c3, c4⟩ := hC
        clear hL hin' hin
        by_cases hrm : r ≤ m
        · go_wp2_with (go_at_call 30; refine (HI.out kid (m - r) _ (by have := HS.out; have := HT.out; have := HL.out; omega) (by omega) (by omega) (MT.In.mono (by omega) kid hI)).mono ?_; rintro e w2 ⟨q, rfl, hq0, hq1, hq, hb2⟩)
          refine ⟨⟨k + 1, r + q, hlt, by go_num, rfl, by omega, by omega, ?_, HBB.out.trans (hb2.mono hz)⟩, by simp [intOf]; omega⟩
          show _ = _
          have := HS.out; have := hq.out; have := hr.out
          omega
        · have HX : Hid (min (t.size : Int) (m + 1) = m + 1 ∧ r = m + 1) := ⟨by have := HT.out; have := hr.out; have := HL.out; have := HS.out; omega, by omega⟩
          go_wp2_with fail
          go_ret
          exact ⟨r, rfl, by omega, by omega, by show _ = _; rw [HX.out.1]; exact HX.out.2, HB.out⟩
      · have hke : k = t.kids.length := by omega
        have HX : Hid (min (t.size : Int) (m + 1) = r) := by
          show _ = _
          have h1 := hr.out
          rw [List.take_of_length_le (by omega)] at h1
          have := HT.out
          omega
        clear hke
        go_wp2_with fail
        go_ret
        exact ⟨r, rfl, by omega, by omega, HX.out.symm, HB.out⟩

set_option maxHeartbeats 400000 in
theorem refCount_any (t : MT) (w : World) (hin : t.In w.heap.size w) :
    Calls Tryz.prog 11 #[nodeV t] w fun e w' => ∃ r : Int, e = .returned (.int .i64 r) ∧ 0 ≤ r ∧ r ≤ 1000001 ∧ Hid (r = min (t.size : Int) 1000001) ∧ Below w.heap.size w w' := by
  go_enter Tryz.func11, Tryz.ntmps11
  go_wp2_with fail
  refine (counted_any t.size t 1000000 _ (Nat.le_refl _) (by omega) (by omega) (MT.In.mono (by simp) t (MT.In.below ((Below.refl _ _).alloc (Nat.le_refl _) _) t hin))).mono ?_
  rintro e w2 ⟨q, rfl, hq0, hq1, hq, hb2⟩
  go_wp2_with fail
  go_ret
  exact ⟨q, rfl, hq0, by omega, hq, ((Below.refl _ _).alloc (Nat.le_refl _) _).trans (hb2.mono (by simp))⟩
end Go.Proofs.YthbnegggohegkaaGreatDoor
namespace Go.Proofs.YthbnegggohegkaaGreatDoor
open Go.RowKit

theorem cell_pen (W : World) (cs : Array Value) (t : TypeId) (o : Obj) (n i : Nat) (v : Value) (hn : n = W.heap.size) (h : cs[i]? = some v) : ((W.alloc (.cells cs t)).alloc o).cell? ⟨n, i, none⟩ = some v := by
  subst hn
  rw [World.cell?_alloc_lt _ _ _ (by simp), World.cell?_alloc_new]; exact h

theorem below1 (w : World) (a : Obj) : Below w.heap.size w (w.alloc a) := (Below.refl _ _).alloc (Nat.le_refl _) _
theorem below2 (w : World) (a b : Obj) : Below w.heap.size w ((w.alloc a).alloc b) := (below1 w a).alloc (by simp) _
theorem below3 (w : World) (a b c : Obj) : Below w.heap.size w (((w.alloc a).alloc b).alloc c) := (below2 w a b).alloc (by simp; omega) _
theorem below4 (w : World) (a b c d : Obj) : Below w.heap.size w ((((w.alloc a).alloc b).alloc c).alloc d) := (below3 w a b c).alloc (by simp; omega) _
theorem below5 (w : World) (a b c d e : Obj) : Below w.heap.size w (((((w.alloc a).alloc b).alloc c).alloc d).alloc e) := (below4 w a b c d).alloc (by simp; omega) _

set_option maxHeartbeats 400000 in
theorem takes_0_14 (w : World) : Calls Tryz.prog 66 #[.int .i64 0, .int .i64 14] w fun e w' => e = .returned (.bool true) ∧ w' = w := by
  go_enter Tryz.func66, Tryz.ntmps66
  go_wp2
  go_ret
  exact ⟨rfl, rfl⟩
set_option maxHeartbeats 400000 in
theorem takes_0_51 (w : World) : Calls Tryz.prog 66 #[.int .i64 0, .int .i64 51] w fun e w' => e = .returned (.bool true) ∧ w' = w := by
  go_enter Tryz.func66, Tryz.ntmps66
  go_wp2
  go_ret
  exact ⟨rfl, rfl⟩
set_option maxHeartbeats 400000 in
theorem takes_18_14 (w : World) : Calls Tryz.prog 66 #[.int .i64 18, .int .i64 14] w fun e w' => e = .returned (.bool true) ∧ w' = w := by
  go_enter Tryz.func66, Tryz.ntmps66
  go_wp2
  go_ret
  exact ⟨rfl, rfl⟩
set_option maxHeartbeats 400000 in
theorem takes_18_51 (w : World) : Calls Tryz.prog 66 #[.int .i64 18, .int .i64 51] w fun e w' => e = .returned (.bool true) ∧ w' = w := by
  go_enter Tryz.func66, Tryz.ntmps66
  go_wp2
  go_ret
  exact ⟨rfl, rfl⟩
set_option maxHeartbeats 400000 in
theorem takes_0_35 (w : World) : Calls Tryz.prog 66 #[.int .i64 0, .int .i64 35] w fun e w' => e = .returned (.bool true) ∧ w' = w := by
  go_enter Tryz.func66, Tryz.ntmps66
  go_wp2
  go_ret
  exact ⟨rfl, rfl⟩
set_option maxHeartbeats 400000 in
theorem takes_2_51 (w : World) : Calls Tryz.prog 66 #[.int .i64 2, .int .i64 51] w fun e w' => e = .returned (.bool false) ∧ w' = w := by
  go_enter Tryz.func66, Tryz.ntmps66
  go_wp2
  go_ret
  exact ⟨rfl, rfl⟩
set_option maxHeartbeats 400000 in
theorem takes_3_51 (w : World) : Calls Tryz.prog 66 #[.int .i64 3, .int .i64 51] w fun e w' => e = .returned (.bool false) ∧ w' = w := by
  go_enter Tryz.func66, Tryz.ntmps66
  go_wp2
  go_ret
  exact ⟨rfl, rfl⟩
set_option maxHeartbeats 400000 in
theorem takes_12_51 (w : World) : Calls Tryz.prog 66 #[.int .i64 12, .int .i64 51] w fun e w' => e = .returned (.bool false) ∧ w' = w := by
  go_enter Tryz.func66, Tryz.ntmps66
  go_wp2
  go_ret
  exact ⟨rfl, rfl⟩

set_option maxHeartbeats 400000 in
theorem exactly_any (p : Option Addr) (n c : Nat) (w : World) :
    Calls Tryz.prog 117 #[.slice p n c] w fun e w' => e = .returned (.agg #[.slice p n c, .int .i64 n, .int .i64 n, .bool false]) ∧ w' = w.alloc (.cells #[.slice p n c, .int .i64 n, .int .i64 n, .bool false] 94) := by
  go_enter Tryz.func117, Tryz.ntmps117
  go_wp2
  exact bodyPost_ret (v := .agg #[.slice p n c, .int .i64 n, .int .i64 n, .bool false]) (by simp [results, Tryz.results117, go_sem]) rfl ⟨rfl, rfl⟩

abbrev leafR : Array Value := #[.slice none 0 0, .int .i64 0, .int .i64 0, .bool false]
abbrev binR (g : Nat) : Array Value := #[.slice (some ⟨g, 0, none⟩) 2 2, .int .i64 2, .int .i64 2, .bool false]
abbrev leafN (k : Int) (s : ByteArray) (a : Int) (p : Option Addr) (c : Nat) : Array Value := #[.int .i64 k, .string s, .int .i64 0, .int .i64 a, .slice p 0 c]
abbrev binN (s : ByteArray) (a : Int) (p : Option Addr) (c : Nat) : Array Value := #[.int .i64 51, .string s, .int .i64 0, .int .i64 a, .slice p 2 c]

set_option maxHeartbeats 1000000 in
theorem exprShape_leaf (k : Int) (hk : k = 14 ∨ k = 35) (s : ByteArray) (a r : Int) (p : Option Addr) (c : Nat) (w : World) :
    Calls Tryz.prog 89 #[.agg (leafN k s a p c), .int .i64 r] w fun e w' => e = .returned (.agg leafR) ∧ w' = ((w.alloc (.cells (leafN k s a p c) 24)).alloc (.cells leafR 94)).alloc (.cells leafR 94) := by
  rcases hk with rfl | rfl
  all_goals
    go_enter Tryz.func89, Tryz.ntmps89
    go_wp2_with fail
    refine (exactly_any none 0 0 _).mono ?_
    rintro e w1 ⟨rfl, rfl⟩
    go_wp2_with fail
    exact bodyPost_ret (v := .agg leafR) (by simp [results, Tryz.results89, go_sem]) rfl ⟨rfl, rfl⟩

set_option maxHeartbeats 1000000 in
theorem exprShape_bin (s : ByteArray) (a r : Int) (p : Option Addr) (c : Nat) (w : World) :
    Calls Tryz.prog 89 #[.agg (binN s a p c), .int .i64 r] w fun e w' => e = .returned (.agg (binR (w.heap.size + 1 + 1))) ∧
      w' = (((w.alloc (.cells (binN s a p c) 24)).alloc (.cells (binR (w.heap.size + 1 + 1)) 94)).alloc (.cells #[.int .i64 18, .int .i64 18] 65)).alloc (.cells (binR (w.heap.size + 1 + 1)) 94) := by
  go_enter Tryz.func89, Tryz.ntmps89
  go_wp2_with fail
  refine (exactly_any _ 2 2 _).mono ?_
  rintro e w1 ⟨rfl, rfl⟩
  go_wp2_with fail
  exact bodyPost_ret (v := .agg (binR (w.heap.size + 1 + 1))) (by simp [results, Tryz.results89, go_sem]) rfl ⟨rfl, rfl⟩

set_option maxHeartbeats 1000000 in
theorem shape_leaf (k : Int) (hk : k = 14 ∨ k = 35) (s : ByteArray) (a r : Int) (p : Option Addr) (c : Nat) (w : World) :
    Calls Tryz.prog 49 #[.agg (leafN k s a p c), .int .i64 r] w fun e w' => e = .returned (.agg leafR) ∧ Below w.heap.size w w' := by
  rcases hk with rfl | rfl
  all_goals
    go_enter Tryz.func49, Tryz.ntmps49
    go_wp2_with fail
    refine (exprShape_leaf _ (by simp) s a r p c _).mono ?_
    rintro e w1 ⟨rfl, rfl⟩
    go_wp2_with fail
    exact bodyPost_ret (v := .agg leafR) (by simp [results, Tryz.results49, go_sem]) rfl ⟨rfl, below5 _ _ _ _ _ _⟩

set_option maxHeartbeats 1000000 in
theorem shape_bin (s : ByteArray) (a r : Int) (p : Option Addr) (c : Nat) (w : World) :
    Calls Tryz.prog 49 #[.agg (binN s a p c), .int .i64 r] w fun e w' => ∃ g, e = .returned (.agg (binR g)) ∧ w.heap.size ≤ g ∧ g < w'.heap.size ∧ w'.cell? ⟨g, 0, none⟩ = some (.int .i64 18) ∧ w'.cell? ⟨g, 1, none⟩ = some (.int .i64 18) ∧ Below w.heap.size w w' := by
  go_enter Tryz.func49, Tryz.ntmps49
  go_wp2_with fail
  refine (exprShape_bin s a r p c _).mono ?_
  rintro e w1 ⟨rfl, rfl⟩
  go_wp2_with fail
  refine bodyPost_ret (v := .agg (binR (w.heap.size + 1 + 1 + 1 + 1))) (by simp [results, Tryz.results49, go_sem]) rfl ⟨_, rfl, by omega, by simp <;> omega, ?_, ?_, ?_⟩
  · exact cell_pen _ _ _ _ _ _ _ (by simp) rfl
  · exact cell_pen _ _ _ _ _ _ _ (by simp) rfl
  · exact (below5 _ _ _ _ _ _).alloc (by simp; omega) _
end Go.Proofs.YthbnegggohegkaaGreatDoor
