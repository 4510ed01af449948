/-
  The walks of sliceShape, and of expressionShape at lists and slices.
  The walk of shapeOf, at every node.
-/
import Derived.Test.YthbnegggohegkaaGreatDoorGgJ
namespace Go.Proofs.YthbnegggohegkaaGreatDoor
open Go.RowKit

theorem box_facts {w w1 : World} {A : Obj} (hb : Below (w.heap.size + 1 + 1) ((w.alloc A).alloc (.cells leafR 94)) w1) :
    (w1.cell? ⟨w.heap.size + 1, 0, none⟩ = some (.slice none 0 0) ∧ w1.cell? ⟨w.heap.size + 1, 1, none⟩ = some (.int .i64 0) ∧ w1.cell? ⟨w.heap.size + 1, 2, none⟩ = some (.int .i64 0) ∧ w1.cell? ⟨w.heap.size + 1, 3, none⟩ = some (.bool false)) ∧
    (w1.frozen? ⟨w.heap.size + 1, 0, none⟩ = false ∧ w1.frozen? ⟨w.heap.size + 1, 1, none⟩ = false ∧ w1.frozen? ⟨w.heap.size + 1, 2, none⟩ = false ∧ w1.frozen? ⟨w.heap.size + 1, 3, none⟩ = false) := by
  have hc : ∀ i v, leafR[i]? = some v → w1.cell? ⟨w.heap.size + 1, i, none⟩ = some v := fun i v h => (hb.cell (p := ⟨w.heap.size + 1, i, none⟩) (by show w.heap.size + 1 < _; omega)).trans (cell_mid _ _ _ _ _ _ (by simp) h)
  have hf : ∀ i, i < 4 → w1.frozen? ⟨w.heap.size + 1, i, none⟩ = false := fun i hi => (hb.frozen (p := ⟨w.heap.size + 1, i, none⟩) (by show w.heap.size + 1 < _; omega)).trans (by simp)
  exact ⟨⟨hc 0 _ rfl, hc 1 _ rfl, hc 2 _ rfl, hc 3 _ rfl⟩, hf 0 (by omega), hf 1 (by omega), hf 2 (by omega), hf 3 (by omega)⟩

/-- A shape that came is laid down in the answer's box. -/
theorem box_shape {w w1 : World} {A : Obj} {S : Shp} {p : Option Addr} (hb : Below (w.heap.size + 1 + 1) ((w.alloc A).alloc (.cells leafR 94)) w1) (hR : RolesAt w1 (w.heap.size + 1 + 1) p S.roles) (v0 v1 v2 v3 : Value) :
    RolesAt ((((w1.setCell ⟨w.heap.size + 1, 0, none⟩ v0).setCell ⟨w.heap.size + 1, 1, none⟩ v1).setCell ⟨w.heap.size + 1, 2, none⟩ v2).setCell ⟨w.heap.size + 1, 3, none⟩ v3) w.heap.size p S.roles ∧
    Below w.heap.size w ((((w1.setCell ⟨w.heap.size + 1, 0, none⟩ v0).setCell ⟨w.heap.size + 1, 1, none⟩ v1).setCell ⟨w.heap.size + 1, 2, none⟩ v2).setCell ⟨w.heap.size + 1, 3, none⟩ v3) := by
  refine ⟨((((hR.set (by omega) _).set (by omega) _).set (by omega) _).set (by omega) _).mono (by omega), ?_⟩
  have h := (below2 w A (.cells leafR 94)).trans (hb.mono (by omega))
  exact (((h.setCell (p := ⟨w.heap.size + 1, 0, none⟩) (by show w.heap.size ≤ w.heap.size + 1; omega) _).setCell (p := ⟨w.heap.size + 1, 1, none⟩) (by show w.heap.size ≤ w.heap.size + 1; omega) _).setCell (p := ⟨w.heap.size + 1, 2, none⟩) (by show w.heap.size ≤ w.heap.size + 1; omega) _).setCell (p := ⟨w.heap.size + 1, 3, none⟩) (by show w.heap.size ≤ w.heap.size + 1; omega) _

set_option maxHeartbeats 1000000 in
theorem list_any (rl : Nat) (w : World) : Calls Tryz.prog 119 #[.int .i64 (rl : Nat)] w (ShP (if rl == 23 then shAl 1 [18] else if rl == 24 then shAl 1 [26] else shAl 0 [18]) w) := by
  by_cases h23 : rl = 23
  · subst h23; exact list_23 w
  by_cases h24 : rl = 24
  · subst h24; exact list_24 w
  rw [if_neg (by simpa using h23), if_neg (by simpa using h24)]
  exact list_other rl (by simp; omega) (by simp; omega) w

set_option maxHeartbeats 1000000 in
theorem slice_few (k : Int) (s : ByteArray) (n a : Int) (p : Option Addr) (m c : Nat) (hm : m ≤ 2) (w : World) : Calls Tryz.prog 120 #[.agg (nd k s n a p m c)] w (ShP (shEx [18, 19, 19, 19]) w) := by
  go_enter Tryz.func120, Tryz.ntmps120
  go_wp2_with fail
  refine (exactly_any _ _ _ _).mono ?_
  rintro e w1 ⟨rfl, rfl⟩
  go_wp2_with fail
  refine bodyPost_ret (v := .agg #[.slice (some ⟨w.heap.size + 1 + 1, 0, none⟩) 4 4, .int .i64 4, .int .i64 4, .bool false]) (by simp [results, Tryz.results120, go_sem]) rfl ⟨_, rfl, ?_, below4 _ _ _ _ _⟩
  exact .inr ⟨_, rfl, by omega, by simp <;> omega, fun i hi => by
      match i, hi with
      | 0, _ => exact cell_pen _ _ _ _ _ _ _ (by simp) rfl
      | 1, _ => exact cell_pen _ _ _ _ _ _ _ (by simp) rfl
      | 2, _ => exact cell_pen _ _ _ _ _ _ _ (by simp) rfl
      | 3, _ => exact cell_pen _ _ _ _ _ _ _ (by simp) rfl
      | i + 4, h => exact absurd h (by show ¬ (i + 4 < 4); omega)⟩

set_option maxHeartbeats 1000000 in
theorem slice_many (k : Int) (s : ByteArray) (n a : Int) (b o m c : Nat) (x : Int) (hm : 2 < m) (w : World) (hb : b < w.heap.size) (hx : w.cell? ⟨b, o + 10, none⟩ = some (.int .i64 x)) (h16 : (x == 16) = false) : Calls Tryz.prog 120 #[.agg (nd k s n a (some ⟨b, o, none⟩) m c)] w (ShP (shEx [18, 19, 19, 19]) w) := by
  go_enter Tryz.func120, Tryz.ntmps120
  go_wp2_with fail
  refine (exactly_any _ _ _ _).mono ?_
  rintro e w1 ⟨rfl, rfl⟩
  go_wp2_with fail
  refine bodyPost_ret (v := .agg #[.slice (some ⟨w.heap.size + 1 + 1, 0, none⟩) 4 4, .int .i64 4, .int .i64 4, .bool false]) (by simp [results, Tryz.results120, go_sem]) rfl ⟨_, rfl, ?_, below4 _ _ _ _ _⟩
  exact .inr ⟨_, rfl, by omega, by simp <;> omega, fun i hi => by
      match i, hi with
      | 0, _ => exact cell_pen _ _ _ _ _ _ _ (by simp) rfl
      | 1, _ => exact cell_pen _ _ _ _ _ _ _ (by simp) rfl
      | 2, _ => exact cell_pen _ _ _ _ _ _ _ (by simp) rfl
      | 3, _ => exact cell_pen _ _ _ _ _ _ _ (by simp) rfl
      | i + 4, h => exact absurd h (by show ¬ (i + 4 < 4); omega)⟩

set_option maxHeartbeats 1000000 in
theorem slice_none (k : Int) (s : ByteArray) (n a : Int) (b o m c : Nat) (hm : 2 < m) (w : World) (hb : b < w.heap.size) (hx : w.cell? ⟨b, o + 10, none⟩ = some (.int .i64 16)) : Calls Tryz.prog 120 #[.agg (nd k s n a (some ⟨b, o, none⟩) m c)] w (ShP (shEx [18, 19, 19, 20]) w) := by
  go_enter Tryz.func120, Tryz.ntmps120
  go_wp2_with fail
  refine (exactly_any _ _ _ _).mono ?_
  rintro e w1 ⟨rfl, rfl⟩
  go_wp2_with fail
  refine bodyPost_ret (v := .agg #[.slice (some ⟨w.heap.size + 1 + 1, 0, none⟩) 4 4, .int .i64 4, .int .i64 4, .bool false]) (by simp [results, Tryz.results120, go_sem]) rfl ⟨_, rfl, ?_, below4 _ _ _ _ _⟩
  exact .inr ⟨_, rfl, by omega, by simp <;> omega, fun i hi => by
      match i, hi with
      | 0, _ => exact cell_pen _ _ _ _ _ _ _ (by simp) rfl
      | 1, _ => exact cell_pen _ _ _ _ _ _ _ (by simp) rfl
      | 2, _ => exact cell_pen _ _ _ _ _ _ _ (by simp) rfl
      | 3, _ => exact cell_pen _ _ _ _ _ _ _ (by simp) rfl
      | i + 4, h => exact absurd h (by show ¬ (i + 4 < 4); omega)⟩

theorem slice_any (k : Int) (s : ByteArray) (n a : Int) (p : Option Addr) (c : Nat) (ks : List MT) (w : World) (hin : (MT.node k s n a p c ks).In w.heap.size w) :
    Calls Tryz.prog 120 #[.agg (nd k s n a p ks.length c)] w (ShP (shEx [18, 19, 19, if noneAt ks 2 then 20 else 19]) w) := by
  have hL := hin.kidsL
  simp only [MT.kids_node, MT.ptr_node] at hL
  by_cases hm : ks.length ≤ 2
  · have e : noneAt ks 2 = false := by unfold noneAt; rw [List.getElem?_eq_none (by omega)]; rfl
    rw [e]
    exact slice_few k s n a p ks.length c hm w
  · have hm' : 2 < ks.length := by omega
    obtain ⟨b, o, rfl, hb, hL⟩ := hL.resolve_left (fun h => by rw [h] at hm'; simp at hm')
    have hx := (hL.get 2 hm').1.c0
    have e : noneAt ks 2 = (ks[2].kind == 16) := by unfold noneAt; rw [List.getElem?_eq_getElem hm']; rfl
    rw [e]
    generalize ks[2] = x at hx
    cases h16 : x.kind == 16 with
    | true =>
      rw [eq_of_beq h16] at hx
      exact slice_none k s n a b o ks.length c hm' w hb hx
    | false => exact slice_many k s n a b o ks.length c x.kind hm' w hb hx h16

set_option maxHeartbeats 1000000 in
theorem expr_38 (s : ByteArray) (n a : Int) (p : Option Addr) (m c : Nat) (rl : Nat) (S : Shp) (h : ∀ W, Calls Tryz.prog 119 #[.int .i64 (rl : Nat)] W (ShP S W)) (w : World) : Calls Tryz.prog 89 #[.agg (nd 38 s n a p m c), .int .i64 (rl : Nat)] w (ShP S w) := by
  have H : Hid _ := h
  clear h
  go_enter Tryz.func89, Tryz.ntmps89
  go_wp2_with fail
  refine (H.out _).mono ?_
  rintro e w1 ⟨q, rfl, hR, hb⟩
  simp only [World.size_alloc] at hR hb
  obtain ⟨⟨c0, c1, c2, c3⟩, f0, f1, f2, f3⟩ := box_facts hb
  have HB : Hid _ := box_shape hb hR (.slice q S.roles.length S.roles.length) (.int .i64 S.least) (.int .i64 S.most) (.bool S.crowded)
  clear hb hR
  go_wp2_with fail
  exact bodyPost_ret (v := .agg (shV S q)) (by simp [results, Tryz.results89, go_sem, *]) rfl ⟨q, rfl, HB.out.1, HB.out.2⟩

set_option maxHeartbeats 1000000 in
theorem expr_47 (s : ByteArray) (n a : Int) (p : Option Addr) (m c : Nat) (rl : Nat) (S : Shp) (w : World) (h : ∀ W, Below w.heap.size w W → Calls Tryz.prog 120 #[.agg (nd 47 s n a p m c)] W (ShP S W)) : Calls Tryz.prog 89 #[.agg (nd 47 s n a p m c), .int .i64 (rl : Nat)] w (ShP S w) := by
  have H : Hid _ := h
  clear h
  go_enter Tryz.func89, Tryz.ntmps89
  go_wp2_with fail
  refine (H.out _ (below2 _ _ _)).mono ?_
  rintro e w1 ⟨q, rfl, hR, hb⟩
  simp only [World.size_alloc] at hR hb
  obtain ⟨⟨c0, c1, c2, c3⟩, f0, f1, f2, f3⟩ := box_facts hb
  have HB : Hid _ := box_shape hb hR (.slice q S.roles.length S.roles.length) (.int .i64 S.least) (.int .i64 S.most) (.bool S.crowded)
  clear hb hR
  go_wp2_with fail
  exact bodyPost_ret (v := .agg (shV S q)) (by simp [results, Tryz.results89, go_sem, *]) rfl ⟨q, rfl, HB.out.1, HB.out.2⟩
end Go.Proofs.YthbnegggohegkaaGreatDoor
namespace Go.Proofs.YthbnegggohegkaaGreatDoor
open Go.RowKit

set_option maxHeartbeats 4000000 in
theorem shape_decl (k : Int) (hk : k = 1 ∨ k = 2 ∨ k = 3 ∨ k = 4 ∨ k = 5 ∨ k = 6 ∨ k = 7 ∨ k = 12 ∨ k = 13 ∨ k = 15) (s : ByteArray) (n a : Int) (p : Option Addr) (m c : Nat) (rl : Nat) (S : Shp) (w : World) (h : ∀ W, Below w.heap.size w W → Calls Tryz.prog 87 #[.agg (nd k s n a p m c)] W (ShP S W)) : Calls Tryz.prog 49 #[.agg (nd k s n a p m c), .int .i64 (rl : Nat)] w (ShP S w) := by
  have H : Hid _ := h
  clear h
  rcases hk with rfl | rfl | rfl | rfl | rfl | rfl | rfl | rfl | rfl | rfl
  all_goals
    go_enter Tryz.func49, Tryz.ntmps49
    go_wp2_with fail
    refine (H.out _ (below2 _ _ _)).mono ?_
    rintro e w1 ⟨q, rfl, hR, hb⟩
    simp only [World.size_alloc] at hR hb
    obtain ⟨⟨c0, c1, c2, c3⟩, f0, f1, f2, f3⟩ := box_facts hb
    have HB : Hid _ := box_shape hb hR (.slice q S.roles.length S.roles.length) (.int .i64 S.least) (.int .i64 S.most) (.bool S.crowded)
    clear hb hR
    go_wp2_with fail
    exact bodyPost_ret (v := .agg (shV S q)) (by simp [results, Tryz.results49, go_sem, *]) rfl ⟨q, rfl, HB.out.1, HB.out.2⟩

set_option maxHeartbeats 4000000 in
theorem shape_stmt (k : Int) (hk : k = 17 ∨ k = 18 ∨ k = 19 ∨ k = 20 ∨ k = 21 ∨ k = 22 ∨ k = 23 ∨ k = 24 ∨ k = 25 ∨ k = 26 ∨ k = 27 ∨ k = 28 ∨ k = 29 ∨ k = 30 ∨ k = 34) (s : ByteArray) (n a : Int) (p : Option Addr) (m c : Nat) (rl : Nat) (S : Shp) (w : World) (h : ∀ W, Below w.heap.size w W → Calls Tryz.prog 88 #[.agg (nd k s n a p m c), .int .i64 (rl : Nat)] W (ShP S W)) : Calls Tryz.prog 49 #[.agg (nd k s n a p m c), .int .i64 (rl : Nat)] w (ShP S w) := by
  have H : Hid _ := h
  clear h
  rcases hk with rfl | rfl | rfl | rfl | rfl | rfl | rfl | rfl | rfl | rfl | rfl | rfl | rfl | rfl | rfl
  all_goals
    go_enter Tryz.func49, Tryz.ntmps49
    go_wp2_with fail
    refine (H.out _ (below2 _ _ _)).mono ?_
    rintro e w1 ⟨q, rfl, hR, hb⟩
    simp only [World.size_alloc] at hR hb
    obtain ⟨⟨c0, c1, c2, c3⟩, f0, f1, f2, f3⟩ := box_facts hb
    have HB : Hid _ := box_shape hb hR (.slice q S.roles.length S.roles.length) (.int .i64 S.least) (.int .i64 S.most) (.bool S.crowded)
    clear hb hR
    go_wp2_with fail
    exact bodyPost_ret (v := .agg (shV S q)) (by simp [results, Tryz.results49, go_sem, *]) rfl ⟨q, rfl, HB.out.1, HB.out.2⟩

set_option maxHeartbeats 4000000 in
theorem shape_expr (k : Int) (h1 : (k == 1) = false) (h2 : (k == 2) = false) (h3 : (k == 3) = false) (h4 : (k == 4) = false) (h5 : (k == 5) = false) (h6 : (k == 6) = false) (h7 : (k == 7) = false) (h12 : (k == 12) = false) (h13 : (k == 13) = false) (h15 : (k == 15) = false) (h17 : (k == 17) = false) (h18 : (k == 18) = false) (h19 : (k == 19) = false) (h20 : (k == 20) = false) (h21 : (k == 21) = false) (h22 : (k == 22) = false) (h23 : (k == 23) = false) (h24 : (k == 24) = false) (h25 : (k == 25) = false) (h26 : (k == 26) = false) (h27 : (k == 27) = false) (h28 : (k == 28) = false) (h29 : (k == 29) = false) (h30 : (k == 30) = false) (h34 : (k == 34) = false) (s : ByteArray) (n a : Int) (p : Option Addr) (m c : Nat) (rl : Nat) (S : Shp) (w : World) (h : ∀ W, Below w.heap.size w W → Calls Tryz.prog 89 #[.agg (nd k s n a p m c), .int .i64 (rl : Nat)] W (ShP S W)) : Calls Tryz.prog 49 #[.agg (nd k s n a p m c), .int .i64 (rl : Nat)] w (ShP S w) := by
  have H : Hid _ := h
  clear h
  go_enter Tryz.func49, Tryz.ntmps49
  go_wp2_with fail
  refine (H.out _ (below2 _ _ _)).mono ?_
  rintro e w1 ⟨q, rfl, hR, hb⟩
  simp only [World.size_alloc] at hR hb
  obtain ⟨⟨c0, c1, c2, c3⟩, f0, f1, f2, f3⟩ := box_facts hb
  have HB : Hid _ := box_shape hb hR (.slice q S.roles.length S.roles.length) (.int .i64 S.least) (.int .i64 S.most) (.bool S.crowded)
  clear hb hR
  go_wp2_with fail
  exact bodyPost_ret (v := .agg (shV S q)) (by simp [results, Tryz.results49, go_sem, *]) rfl ⟨q, rfl, HB.out.1, HB.out.2⟩

theorem shape_any (k : Int) (s : ByteArray) (n a : Int) (p : Option Addr) (c : Nat) (ks : List MT) (rl : Nat) (w : World) (hin : (MT.node k s n a p c ks).In w.heap.size w) :
    Calls Tryz.prog 49 #[.agg (nd k s n a p ks.length c), .int .i64 (rl : Nat)] w (ShP (shOf k ks rl) w) := by
  by_cases e1 : k = 1
  · subst e1; exact shape_decl 1 (by decide) s n a p ks.length c rl _ w (fun W _ => decl_1 s n a p ks.length c W)
  by_cases e2 : k = 2
  · subst e2; exact shape_decl 2 (by decide) s n a p ks.length c rl _ w (fun W _ => decl_2 s n a p ks.length c W)
  by_cases e3 : k = 3
  · subst e3; exact shape_decl 3 (by decide) s n a p ks.length c rl _ w (fun W _ => decl_3 s n a p ks.length c W)
  by_cases e4 : k = 4
  · subst e4; exact shape_decl 4 (by decide) s n a p ks.length c rl _ w (fun W _ => decl_4 s n a p ks.length c W)
  by_cases e5 : k = 5
  · subst e5; exact shape_decl 5 (by decide) s n a p ks.length c rl _ w (fun W _ => decl_5 s n a p ks.length c W)
  by_cases e6 : k = 6
  · subst e6; exact shape_decl 6 (by decide) s n a p ks.length c rl _ w (fun W _ => decl_6 s n a p ks.length c W)
  by_cases e7 : k = 7
  · subst e7; exact shape_decl 7 (by decide) s n a p ks.length c rl _ w (fun W _ => decl_7 s n a p ks.length c W)
  by_cases e12 : k = 12
  · subst e12; exact shape_decl 12 (by decide) s n a p ks.length c rl _ w (fun W _ => decl_12 s n a p ks.length c W)
  by_cases e13 : k = 13
  · subst e13; exact shape_decl 13 (by decide) s n a p ks.length c rl _ w (fun W _ => decl_13 s n a p ks.length c W)
  by_cases e15 : k = 15
  · subst e15; exact shape_decl 15 (by decide) s n a p ks.length c rl _ w (fun W _ => decl_15 s n a p ks.length c W)
  by_cases e17 : k = 17
  · subst e17; exact shape_stmt 17 (by decide) s n a p ks.length c rl _ w (fun W _ => stmt_17 s n a p ks.length c rl W)
  by_cases e18 : k = 18
  · subst e18; exact shape_stmt 18 (by decide) s n a p ks.length c rl _ w (fun W _ => stmt_18 s n a p ks.length c rl W)
  by_cases e19 : k = 19
  · subst e19; exact shape_stmt 19 (by decide) s n a p ks.length c rl _ w (fun W _ => stmt_19 s n a p ks.length c rl W)
  by_cases e20 : k = 20
  · subst e20; exact shape_stmt 20 (by decide) s n a p ks.length c rl _ w (fun W _ => stmt_20 s n a p ks.length c rl W)
  by_cases e21 : k = 21
  · subst e21; exact shape_stmt 21 (by decide) s n a p ks.length c rl _ w (fun W _ => stmt_21 s n a p ks.length c rl W)
  by_cases e22 : k = 22
  · subst e22; exact shape_stmt 22 (by decide) s n a p ks.length c rl _ w (fun W _ => stmt_22 s n a p ks.length c rl W)
  by_cases e23 : k = 23
  · subst e23; exact shape_stmt 23 (by decide) s n a p ks.length c rl _ w (fun W _ => stmt_23 s n a p ks.length c rl W)
  by_cases e24 : k = 24
  · subst e24; exact shape_stmt 24 (by decide) s n a p ks.length c rl _ w (fun W _ => stmt_24 s n a p ks.length c rl W)
  by_cases e25 : k = 25
  · subst e25; exact shape_stmt 25 (by decide) s n a p ks.length c rl _ w (fun W _ => stmt_25 s n a p ks.length c rl W)
  by_cases e26 : k = 26
  · subst e26; exact shape_stmt 26 (by decide) s n a p ks.length c rl _ w (fun W _ => stmt_26 s n a p ks.length c rl W)
  by_cases e27 : k = 27
  · subst e27
    refine shape_stmt 27 (by decide) s n a p ks.length c rl _ w (fun W _ => ?_)
    have e : shOf 27 ks rl = if rl == 22 then shEx [24, 11] else shEx [23, 11] := rfl
    rw [e]
    by_cases hr : rl = 22
    · subst hr; exact stmt_27a s n a p ks.length c W
    · rw [if_neg (by simpa using hr)]; exact stmt_27b s n a p ks.length c rl (by simp; omega) W
  by_cases e28 : k = 28
  · subst e28; exact shape_stmt 28 (by decide) s n a p ks.length c rl _ w (fun W _ => stmt_28 s n a p ks.length c rl W)
  by_cases e29 : k = 29
  · subst e29; exact shape_stmt 29 (by decide) s n a p ks.length c rl _ w (fun W _ => stmt_29 s n a p ks.length c rl W)
  by_cases e30 : k = 30
  · subst e30; exact shape_stmt 30 (by decide) s n a p ks.length c rl _ w (fun W _ => stmt_30 s n a p ks.length c rl W)
  by_cases e34 : k = 34
  · subst e34; exact shape_stmt 34 (by decide) s n a p ks.length c rl _ w (fun W _ => stmt_34 s n a p ks.length c rl W)
  refine shape_expr k (beq_false_of_ne e1) (beq_false_of_ne e2) (beq_false_of_ne e3) (beq_false_of_ne e4) (beq_false_of_ne e5) (beq_false_of_ne e6) (beq_false_of_ne e7) (beq_false_of_ne e12) (beq_false_of_ne e13) (beq_false_of_ne e15) (beq_false_of_ne e17) (beq_false_of_ne e18) (beq_false_of_ne e19) (beq_false_of_ne e20) (beq_false_of_ne e21) (beq_false_of_ne e22) (beq_false_of_ne e23) (beq_false_of_ne e24) (beq_false_of_ne e25) (beq_false_of_ne e26) (beq_false_of_ne e27) (beq_false_of_ne e28) (beq_false_of_ne e29) (beq_false_of_ne e30) (beq_false_of_ne e34) s n a p ks.length c rl _ w (fun W hW => ?_)
  by_cases e38 : k = 38
  · subst e38; exact expr_38 s n a p ks.length c rl _ (fun W => list_any rl W) W
  by_cases e47 : k = 47
  · subst e47
    exact expr_47 s n a p ks.length c rl _ W (fun W' hW' => slice_any 47 s n a p c ks W' (MT.In.mono (by have := hW.size; have := hW'.size; omega) _ (MT.In.below (hW.trans (hW'.mono hW.size)) _ hin)))
  by_cases e40 : k = 40
  · subst e40
    have e : shOf 40 ks rl = if rl == 29 then shEx [18] else shEx [18, 18] := rfl
    rw [e]
    by_cases hr : rl = 29
    · subst hr; exact expr_40a s n a p ks.length c W
    · rw [if_neg (by simpa using hr)]; exact expr_40b s n a p ks.length c rl (by simp; omega) W
  by_cases e39 : k = 39
  · subst e39; exact expr_39 s n a p ks.length c rl W
  by_cases e41 : k = 41
  · subst e41; exact expr_41 s n a p ks.length c rl W
  by_cases e42 : k = 42
  · subst e42; exact expr_42 s n a p ks.length c rl W
  by_cases e43 : k = 43
  · subst e43; exact expr_43 s n a p ks.length c rl W
  by_cases e44 : k = 44
  · subst e44; exact expr_44 s n a p ks.length c rl W
  by_cases e45 : k = 45
  · subst e45; exact expr_45 s n a p ks.length c rl W
  by_cases e50 : k = 50
  · subst e50; exact expr_50 s n a p ks.length c rl W
  by_cases e46 : k = 46
  · subst e46; exact expr_46 s n a p ks.length c rl W
  by_cases e51 : k = 51
  · subst e51; exact expr_51 s n a p ks.length c rl W
  by_cases e48 : k = 48
  · subst e48; exact expr_48 s n a p ks.length c rl W
  by_cases e49 : k = 49
  · subst e49; exact expr_49 s n a p ks.length c rl W
  have e : shOf k ks rl = shEx [] := by
    unfold shOf
    simp only [beq_false_of_ne e1, beq_false_of_ne e2, beq_false_of_ne e3, beq_false_of_ne e4, beq_false_of_ne e5, beq_false_of_ne e6, beq_false_of_ne e7, beq_false_of_ne e12, beq_false_of_ne e13, beq_false_of_ne e15, beq_false_of_ne e17, beq_false_of_ne e18, beq_false_of_ne e19, beq_false_of_ne e20, beq_false_of_ne e21, beq_false_of_ne e22, beq_false_of_ne e23, beq_false_of_ne e24, beq_false_of_ne e25, beq_false_of_ne e26, beq_false_of_ne e27, beq_false_of_ne e28, beq_false_of_ne e29, beq_false_of_ne e30, beq_false_of_ne e34, beq_false_of_ne e38, beq_false_of_ne e39, beq_false_of_ne e40, beq_false_of_ne e41, beq_false_of_ne e42, beq_false_of_ne e43, beq_false_of_ne e44, beq_false_of_ne e45, beq_false_of_ne e46, beq_false_of_ne e47, beq_false_of_ne e48, beq_false_of_ne e49, beq_false_of_ne e50, beq_false_of_ne e51, Bool.false_eq_true, if_false]
  rw [e]
  exact expr_leaf k (beq_false_of_ne e38) (beq_false_of_ne e39) (beq_false_of_ne e41) (beq_false_of_ne e40) (beq_false_of_ne e42) (beq_false_of_ne e43) (beq_false_of_ne e44) (beq_false_of_ne e45) (beq_false_of_ne e50) (beq_false_of_ne e46) (beq_false_of_ne e51) (beq_false_of_ne e47) (beq_false_of_ne e48) (beq_false_of_ne e49) s n a p ks.length c rl W
end Go.Proofs.YthbnegggohegkaaGreatDoor
