/-
  The walks of guiselaw2.alike, guiselaw2.goes and TreeAll.
-/
import Derived.Test.YthbnegggohegkaaGreatDoorAs
import Derived.Deep.RegionHeld3
namespace Go.Proofs.YthbnegggohegkaaGreatDoor
open Go.RowKit Go.Shelf

set_option maxHeartbeats 1000000 in
theorem alikeLaw_any (k n a : Int) (s : ByteArray) (w : World) :
    Calls Tryz.prog 23 #[.agg #[.int .i64 k, .string s, .int .i64 n, .int .i64 a, .slice none 0 0], .agg #[.int .i64 k, .string s, .int .i64 n, .int .i64 a, .slice none 0 0]] w fun e w' => e = .returned (.bool true) ∧ Below w.heap.size w w' := by
  go_enter Tryz.func23, Tryz.ntmps23
  go_wp2_with fail
  go_ret
  exact ⟨rfl, below2 w _ _⟩

attribute [local go_sem] Oper.semAt_some

theorem results20 (tmps : Array Value) (w : World) (g : Nat) (b : Bool) (hp : tmps[6]?.getD undef = .pointer (some ⟨g, 0, none⟩)) (hc : w.cell? ⟨g, 0, none⟩ = some (.bool b)) : (results Tryz.f20 tmps).run Tryz.prog w = .ok (.bool b) w := by
  have h : Tryz.f20.results = #[.cell 6 4] := rfl
  simp only [results, h]
  simp [Sem.run_bind, Result.andThen, hp, asAddr, loadVar, hc, go_sem]

/-- The cells that a round of goes reads. -/
structure GoAt (B g c n m i N : Nat) (x : Nat × MT) (U : World) : Prop where
  c1 : U.cell? ⟨B + 1, 0, none⟩ = some (.slice (some ⟨g, 0, none⟩) n c)
  c2 : U.cell? ⟨B + 1 + 1, 0, none⟩ = some (.int .i64 m)
  c3 : U.cell? ⟨B + 1 + 1 + 1, 0, none⟩ = some (.bool false)
  f3 : U.frozen? ⟨B + 1 + 1 + 1, 0, none⟩ = false
  c4 : U.cell? ⟨B + 1 + 1 + 1 + 1, 0, none⟩ = some (.int .i64 (i : Int))
  f4 : U.frozen? ⟨B + 1 + 1 + 1 + 1, 0, none⟩ = false
  e0 : U.cell? ⟨g, i * 6, none⟩ = some (.int .i64 x.1)
  e1 : U.cell? ⟨g, i * 6 + 1, none⟩ = some (.int .i64 x.2.kind)
  e2 : U.cell? ⟨g, i * 6 + 2, none⟩ = some (.string x.2.text)
  e3 : U.cell? ⟨g, i * 6 + 3, none⟩ = some (.int .i64 x.2.num)
  e4 : U.cell? ⟨g, i * 6 + 4, none⟩ = some (.int .i64 x.2.at_)
  e5 : U.cell? ⟨g, i * 6 + 5, none⟩ = some (.slice none 0 0)
  n0 : U.cell? ⟨N, 0, none⟩ = some (.int .i64 x.2.kind)
  n1 : U.cell? ⟨N, 1, none⟩ = some (.string x.2.text)
  n2 : U.cell? ⟨N, 2, none⟩ = some (.int .i64 x.2.num)
  n3 : U.cell? ⟨N, 3, none⟩ = some (.int .i64 x.2.at_)
  n4 : U.cell? ⟨N, 4, none⟩ = some (.slice none 0 0)

set_option maxRecDepth 100000 in
set_option maxHeartbeats 4000000 in
theorem goes_any (t : MT) (wn : List (Nat × MT)) (p : Option Addr) (c base : Nat) (m : Nat) (w : World) (hin : t.In w.heap.size w) (hsm : ∀ x ∈ (MT.ord 1 t).take 1000000, x.2.text.size ≤ 140737488351232)
    (hown : w.ownsRow base 46 6 (.slice p wn.length c) wn.length (stepsL wn)) (hw : wn.map stepCells = ((MT.ord 1 t).take wn.length).map stepCells) (hwl : wn.length ≤ 3001)
    (hm : (1 ≤ m ∧ m ≤ wn.length) ∨ ((m = 0 ∨ wn.length < m) ∧ wn.length = (MT.ord 1 t).length)) (hmm : m ≤ 3001) :
    Calls Tryz.prog 20 #[nodeV t, .slice p wn.length c, .int .i64 m] w fun e w' => e = .returned (.bool true) ∧ Below w.heap.size w w' := by
  refine (callsIn_wide (n := 8)).1 ?_
  refine callsIn_of_wp_marks Tryz.func20 rfl trivial ?_ rfl
  simp only [Tryz.ntmps20, List.size_toArray, List.length_cons, List.length_nil, Nat.reduceAdd, Nat.reduceSub, Array.replicate_succ, Array.replicate_zero, List.push_toArray, List.append_toArray, List.nil_append, List.cons_append]
  gi_wp2_with fail
  refine ⟨trivial, ?_⟩
  refine (callsIn_wide.2 (all_any t _)).mono ?_
  rintro e w' ⟨rfl, rfl⟩
  have hcmp : ∀ (q : Value) (W : World), (binOp .eql 43 (.func (.func 38) #[] #[q]) .nilFunc).run Tryz.prog W = .ok (.bool false) W := fun q W => eq_nilFunc _ _ W
  gi_wp2_with fail
  clear hcmp
  have hB6 : Below w.heap.size w ((((((w.alloc (nodeO t)).alloc (.cells #[.slice p wn.length c] 40)).alloc (.cells #[.int .i64 m] 3)).alloc (.cells #[.bool false] 4)).alloc (.cells #[.int .i64 0] 3)).alloc (nodeO t)) := (((((below1 w (nodeO t)).alloc (by simp) _).alloc (by simp; omega) _).alloc (by simp; omega) _).alloc (by simp; omega) _).alloc (by simp; omega) _
  have hx1 : Boxed ((((((w.alloc (nodeO t)).alloc (.cells #[.slice p wn.length c] 40)).alloc (.cells #[.int .i64 m] 3)).alloc (.cells #[.bool false] 4)).alloc (.cells #[.int .i64 0] 3)).alloc (nodeO t)) (w.heap.size + 1) 40 (.slice p wn.length c) := by
    have h := ((((Boxed.new (w.alloc (nodeO t)) 40 (.slice p wn.length c)).alloc (.cells #[.int .i64 m] 3)).alloc (.cells #[.bool false] 4)).alloc (.cells #[.int .i64 0] 3)).alloc (nodeO t)
    simpa only [World.size_alloc] using h
  have hx2 : Boxed ((((((w.alloc (nodeO t)).alloc (.cells #[.slice p wn.length c] 40)).alloc (.cells #[.int .i64 m] 3)).alloc (.cells #[.bool false] 4)).alloc (.cells #[.int .i64 0] 3)).alloc (nodeO t)) (w.heap.size + 1 + 1) 3 (.int .i64 m) := by
    have h := (((Boxed.new ((w.alloc (nodeO t)).alloc (.cells #[.slice p wn.length c] 40)) 3 (.int .i64 m)).alloc (.cells #[.bool false] 4)).alloc (.cells #[.int .i64 0] 3)).alloc (nodeO t)
    simpa only [World.size_alloc] using h
  have hx3 : Boxed ((((((w.alloc (nodeO t)).alloc (.cells #[.slice p wn.length c] 40)).alloc (.cells #[.int .i64 m] 3)).alloc (.cells #[.bool false] 4)).alloc (.cells #[.int .i64 0] 3)).alloc (nodeO t)) (w.heap.size + 1 + 1 + 1) 4 (.bool false) := by
    have h := ((Boxed.new (((w.alloc (nodeO t)).alloc (.cells #[.slice p wn.length c] 40)).alloc (.cells #[.int .i64 m] 3)) 4 (.bool false)).alloc (.cells #[.int .i64 0] 3)).alloc (nodeO t)
    simpa only [World.size_alloc] using h
  have hx4 : Boxed ((((((w.alloc (nodeO t)).alloc (.cells #[.slice p wn.length c] 40)).alloc (.cells #[.int .i64 m] 3)).alloc (.cells #[.bool false] 4)).alloc (.cells #[.int .i64 0] 3)).alloc (nodeO t)) (w.heap.size + 1 + 1 + 1 + 1) 3 (.int .i64 0) := by
    have h := (Boxed.new ((((w.alloc (nodeO t)).alloc (.cells #[.slice p wn.length c] 40)).alloc (.cells #[.int .i64 m] 3)).alloc (.cells #[.bool false] 4)) 3 (.int .i64 0)).alloc (nodeO t)
    simpa only [World.size_alloc] using h
  have hx5 : BoxAt ((((((w.alloc (nodeO t)).alloc (.cells #[.slice p wn.length c] 40)).alloc (.cells #[.int .i64 m] 3)).alloc (.cells #[.bool false] 4)).alloc (.cells #[.int .i64 0] 3)).alloc (nodeO t)) (w.heap.size + 1 + 1 + 1 + 1 + 1) t := by
    have h := BoxAt.new (((((w.alloc (nodeO t)).alloc (.cells #[.slice p wn.length c] 40)).alloc (.cells #[.int .i64 m] 3)).alloc (.cells #[.bool false] 4)).alloc (.cells #[.int .i64 0] 3)) t
    simpa only [World.size_alloc] using h
  have hz6 : ((((((w.alloc (nodeO t)).alloc (.cells #[.slice p wn.length c] 40)).alloc (.cells #[.int .i64 m] 3)).alloc (.cells #[.bool false] 4)).alloc (.cells #[.int .i64 0] 3)).alloc (nodeO t)).heap.size = w.heap.size + 6 := by simp
  have HW : ∃ W6, W6 = ((((((w.alloc (nodeO t)).alloc (.cells #[.slice p wn.length c] 40)).alloc (.cells #[.int .i64 m] 3)).alloc (.cells #[.bool false] 4)).alloc (.cells #[.int .i64 0] 3)).alloc (nodeO t)) := ⟨_, rfl⟩
  obtain ⟨W6, hW6⟩ := HW
  rw [← hW6] at hB6 hx1 hx2 hx3 hx4 hx5 hz6 ⊢
  clear hW6
  have ht6 : t.In w.heap.size W6 := MT.In.below hB6 t hin
  have hseq := all1_stop 7 (by omega) t (w.heap.size + 1 + 1 + 1 + 1 + 1) w.heap.size W6 hx5 ht6 (by omega) (by omega) hsm
  refine wpIn_rangeFunc_stop rfl (by omega) (gf := 38) (lb := #[.pointer (some ⟨w.heap.size + 1 + 1 + 1 + 1 + 1, 0, none⟩)]) rfl trivial (enters_of Tryz.func38 (by kernel_rfl) rfl) hseq (fun _ => rfl)
    (fun k => k = w.heap.size + 1 + 1 + 1 ∨ k = w.heap.size + 1 + 1 + 1 + 1) (by rintro k (rfl | rfl) <;> omega)
    (fun pre W => Boxed W (w.heap.size + 1 + 1 + 1 + 1) 3 (.int .i64 (pre.length : Int)) ∧ Boxed W (w.heap.size + 1 + 1 + 1) 4 (.bool false) ∧ Below (w.heap.size + 3) W6 W ∧ Hid ((1 ≤ m ∧ m ≤ wn.length) → pre.length < m))
    (fun W => Boxed W (w.heap.size + 1 + 1 + 1) 4 (.bool true) ∧ Below w.heap.size w W) ?ab ?ax ⟨hx4, hx3, Below.refl _ _, fun h => h.1⟩
    (fun x A => { tmps := #[nodeV t, .slice p wn.length c, .int .i64 m, .pointer (some ⟨w.heap.size, 0, none⟩), .pointer (some ⟨w.heap.size + 1, 0, none⟩), .pointer (some ⟨w.heap.size + 1 + 1, 0, none⟩), .pointer (some ⟨w.heap.size + 1 + 1 + 1, 0, none⟩), .pointer (some ⟨w.heap.size + 1 + 1 + 1 + 1, 0, none⟩), Value.func (.func 38) #[] #[.pointer (some ⟨w.heap.size + 1 + 1 + 1 + 1 + 1, 0, none⟩)], .int .i64 x.1, .pointer (some ⟨A.heap.size, 0, none⟩), undef, nodeV t, Value.func (.func 38) #[] #[.pointer (some ⟨w.heap.size + 1 + 1 + 1 + 1 + 1, 0, none⟩)], Value.func (.func 38) #[] #[.pointer (some ⟨w.heap.size + 1 + 1 + 1 + 1 + 1, 0, none⟩)], .bool false, Value.func (.func 38) #[] #[.pointer (some ⟨w.heap.size + 1 + 1 + 1 + 1 + 1, 0, none⟩)], .int .i64 x.1, bareV x.2, undef, undef, undef, undef, undef, undef, undef, undef, undef, undef, undef, undef, undef, undef, undef, undef, undef, undef, undef, undef, undef, undef, undef, undef, undef, undef, undef, undef, undef, undef, undef], defers := [] }) (fun x A => A.alloc (bareO x.2)) (fun x A => World.grownBy_alloc _ _ _) ?assign ?body ?done ?stop
  case ab =>
    rintro u A A' row ⟨h1, h2, h3, h4⟩ hgr hr
    exact ⟨h1.kept hgr (fun e => by have := hr _ e.symm; omega), h2.kept hgr (fun e => by have := hr _ e.symm; omega), Below.grown h3 hgr (by have := h3.size; omega) (fun j e => by have := hr j e; omega), h4⟩
  case ax =>
    rintro u A A' row ⟨h1, h2⟩ hgr hr
    exact ⟨h1.kept hgr (fun e => by have := hr _ e.symm; omega), Below.grown h2 hgr h2.size (fun j e => by have := hr j e; omega)⟩
  case assign =>
    intro l x A K hK
    gi_wp2
    refine cast (congrArg (fun z => K ⟨z, []⟩ (A.alloc (bareO x.2))) ?_) hK
    simp
  case body =>
    rintro l pre x W V hpre ⟨h1, h2, h3, h4⟩ hWz hVz hl' hVo
    simp only [World.size_alloc] at hVz
    have hlen : pre.length < ((MT.ord 1 t).take 1000000).length := by
      have := hpre.length_le
      simp only [List.length_append, List.length_cons, List.length_nil] at this; omega
    have hi : pre.length < wn.length := by
      rcases hm with hm | hm
      · have := h4.out hm; omega
      · simp only [List.length_take] at hlen; omega
    have hx : (MT.ord 1 t)[pre.length]'(by simp only [List.length_take] at hlen; omega) = x := by
      obtain ⟨r, hr⟩ := hpre
      have h5 : ((MT.ord 1 t).take 1000000)[pre.length]? = some x := by rw [← hr]; simp
      rw [List.getElem?_take] at h5
      split at h5
      · obtain ⟨_, h6⟩ := List.getElem?_eq_some_iff.1 h5; exact h6
      · cases h5
    have hst : stepCells wn[pre.length] = stepCells x := by
      have h5 := congrArg (fun q => q[pre.length]?) hw
      simp only [List.getElem?_map, List.getElem?_eq_getElem hi, Option.map_some] at h5
      rw [List.getElem?_take, if_pos hi, List.getElem?_eq_getElem (by simp only [List.length_take] at hlen; omega), Option.map_some, hx] at h5
      exact Option.some.inj h5
    obtain ⟨g, rfl⟩ : ∃ g, p = some ⟨g, 0, none⟩ := by
      rcases hown.2 with ⟨h, h0⟩ | ⟨g, cap, cur, h, _⟩
      · omega
      · cases h; exact ⟨g, rfl⟩
    have hgl := (hown.lt g rfl).2
    have hcap : wn.length ≤ c := by
      rcases hown.2 with ⟨h, h0⟩ | ⟨g, cap, cur, h, _, _, h1, _⟩
      · cases h
      · cases h; exact h1
    have hBV : Below w.heap.size w V := hB6.trans (h3.mono (by omega))
    have hcell : ∀ j u, j < 6 → (stepCells x)[j]? = some u → V.cell? ⟨g, pre.length * 6 + j, none⟩ = some u := by
      intro j u hj hu
      refine (hBV.cell (p := ⟨g, _, none⟩) hgl).trans ?_
      exact (own_cell hown _ u (by rw [stepsL_get wn pre.length hi j hj, hst]; exact hu)).1
    have hAV : V.heap[W.heap.size]? = some (bareO x.2) := (hVo _ (by omega)).trans (heap_alloc_new W _)
    have HG : Hid (∀ U, Below V.heap.size V U → GoAt w.heap.size g c wn.length m pre.length W.heap.size x U) := fun U hU =>
      have hlt : ∀ b, b < V.heap.size → ∀ o, U.cell? ⟨b, o, none⟩ = V.cell? ⟨b, o, none⟩ := fun b hb o => hU.cell (p := ⟨b, o, none⟩) hb
      ⟨(hlt _ (by omega) _).trans ((h3.cell (p := ⟨w.heap.size + 1, 0, none⟩) (by show w.heap.size + 1 < _; omega)).trans hx1.cell),
       (hlt _ (by omega) _).trans ((h3.cell (p := ⟨w.heap.size + 1 + 1, 0, none⟩) (by show w.heap.size + 1 + 1 < _; omega)).trans hx2.cell),
       (hlt _ (by omega) _).trans h2.cell, (hU.frozen (p := ⟨w.heap.size + 1 + 1 + 1, 0, none⟩) (by show w.heap.size + 1 + 1 + 1 < _; omega)).trans h2.frozen,
       (hlt _ (by omega) _).trans h1.cell, (hU.frozen (p := ⟨w.heap.size + 1 + 1 + 1 + 1, 0, none⟩) (by show w.heap.size + 1 + 1 + 1 + 1 < _; omega)).trans h1.frozen,
       (hlt _ (by omega) _).trans (hcell 0 _ (by omega) rfl), (hlt _ (by omega) _).trans (hcell 1 _ (by omega) rfl), (hlt _ (by omega) _).trans (hcell 2 _ (by omega) rfl),
       (hlt _ (by omega) _).trans (hcell 3 _ (by omega) rfl), (hlt _ (by omega) _).trans (hcell 4 _ (by omega) rfl), (hlt _ (by omega) _).trans (hcell 5 _ (by omega) rfl),
       (hlt _ (by omega) _).trans (by simp [World.cell?, hAV]), (hlt _ (by omega) _).trans (by simp [World.cell?, hAV]), (hlt _ (by omega) _).trans (by simp [World.cell?, hAV]),
       (hlt _ (by omega) _).trans (by simp [World.cell?, hAV]), (hlt _ (by omega) _).trans (by simp [World.cell?, hAV])⟩
    have HH : Hid (Boxed V (w.heap.size + 1 + 1 + 1 + 1) 3 (.int .i64 (pre.length : Int)) ∧ Boxed V (w.heap.size + 1 + 1 + 1) 4 (.bool false) ∧ Below (w.heap.size + 3) W6 V) := ⟨h1, h2, h3⟩
    have HM : Hid ((1 ≤ m ∧ m ≤ wn.length) → pre.length < m) := h4
    have HMM : Hid ((1 ≤ m ∧ m ≤ wn.length) ∨ ((m = 0 ∨ wn.length < m) ∧ wn.length = (MT.ord 1 t).length)) := hm
    have HOL : Hid (pre.length < (MT.ord 1 t).length) := by show _ < _; simp only [List.length_take] at hlen; omega
    clear hseq hin hsm hown hw hm hx1 hx2 hx3 hx4 hx5 ht6 hpre h1 h2 h3 h4 hlen hst hcell hAV hVo hx
    obtain ⟨c1, c2, c3, f3, c4, f4, e0, e1, e2, e3, e4, e5, n0, n1, n2, n3, n4⟩ := HG.out V (Below.refl _ _)
    have hmx : Tryz.prog.follows .mixedOrders = true := by kernel_rfl
    gi_wp2_with fail
    rename_i Q1 K1 hK1
    have HK1 : Hid _ := hK1
    clear hK1
    have HC : Hid (∀ w9, Below V.heap.size V w9 → K1 { tmps := #[nodeV t, .slice (some ⟨g, 0, none⟩) wn.length c, .int .i64 m, .pointer (some ⟨w.heap.size, 0, none⟩), .pointer (some ⟨w.heap.size + 1, 0, none⟩), .pointer (some ⟨w.heap.size + 1 + 1, 0, none⟩), .pointer (some ⟨w.heap.size + 1 + 1 + 1, 0, none⟩), .pointer (some ⟨w.heap.size + 1 + 1 + 1 + 1, 0, none⟩), Value.func (.func 38) #[] #[.pointer (some ⟨w.heap.size + 1 + 1 + 1 + 1 + 1, 0, none⟩)], .int .i64 x.1, .pointer (some ⟨W.heap.size, 0, none⟩), .bool true, nodeV t, Value.func (.func 38) #[] #[.pointer (some ⟨w.heap.size + 1 + 1 + 1 + 1 + 1, 0, none⟩)], Value.func (.func 38) #[] #[.pointer (some ⟨w.heap.size + 1 + 1 + 1 + 1 + 1, 0, none⟩)], .bool false, Value.func (.func 38) #[] #[.pointer (some ⟨w.heap.size + 1 + 1 + 1 + 1 + 1, 0, none⟩)], .int .i64 x.1, bareV x.2, .int .i64 pre.length, .slice (some ⟨g, 0, none⟩) wn.length c, .int .i64 wn.length, .bool false, bareV x.2, .slice (some ⟨g, 0, none⟩) wn.length c, .int .i64 pre.length, .pointer (some ⟨g, pre.length * 6, none⟩), .pointer (some ⟨g, pre.length * 6 + 1, none⟩), bareV x.2, .bool true, undef, undef, undef, undef, undef, undef, undef, undef, undef, undef, undef, undef, undef, undef, undef, undef, undef, undef, undef, undef], defers := [] } w9) := by
      intro w9 hb9
      refine HK1.out _ _ ?_
      clear c1 c2 c3 f3 c4 f4 e0 e1 e2 e3 e4 e5 n0 n1 n2 n3 n4
      obtain ⟨c1, c2, c3, f3, c4, f4, e0, e1, e2, e3, e4, e5, n0, n1, n2, n3, n4⟩ := HG.out w9 hb9
      have hz9 := hb9.size
      have HB9 : Hid (Below V.heap.size V w9) := hb9
      clear hb9
      by_cases hme : pre.length + 1 = m
      · have hme' : ((pre.length : Int) + 1 == (m : Int)) = true := by simp; omega
        gi_wp2
        have hh := HH.out
        have hk9 : ∀ k, k < W.heap.size → w9.heap[k]? = V.heap[k]? := fun k hk => HB9.out.block k (by omega)
        refine ⟨by simp; omega, ?_, ?_, ?_⟩
        · intro k hk hS
          exact (Below.heap_setCell _ ⟨w.heap.size + 1 + 1 + 1, 0, none⟩ _ k (fun e => hS (.inl e))).trans ((Below.heap_setCell _ ⟨w.heap.size + 1 + 1 + 1 + 1, 0, none⟩ _ k (fun e => hS (.inr e))).trans (hk9 k hk))
        · have hb : Boxed w9 (w.heap.size + 1 + 1 + 1) 4 (.bool false) := (hk9 _ (by omega)).trans hh.2.1
          exact (hb.other (by omega) _).set _
        · exact ((hB6.trans ((hh.2.2.mono (by omega)).trans (HB9.out.mono (by omega)))).setCell (p := ⟨w.heap.size + 1 + 1 + 1 + 1, 0, none⟩) (by show _ ≤ w.heap.size + 1 + 1 + 1 + 1; omega) _).setCell (p := ⟨w.heap.size + 1 + 1 + 1, 0, none⟩) (by show _ ≤ w.heap.size + 1 + 1 + 1; omega) _
      · have hme' : ((pre.length : Int) + 1 == (m : Int)) = false := by simp; omega
        gi_wp2
        have hh := HH.out
        have hk9 : ∀ k, k < W.heap.size → w9.heap[k]? = V.heap[k]? := fun k hk => HB9.out.block k (by omega)
        refine ⟨by simp; omega, ?_, ?_, ?_, ?_, ?_⟩
        · intro k hk hS
          exact (Below.heap_setCell _ ⟨w.heap.size + 1 + 1 + 1 + 1, 0, none⟩ _ k (fun e => hS (.inr e))).trans (hk9 k hk)
        · have hb : Boxed w9 (w.heap.size + 1 + 1 + 1 + 1) 3 (.int .i64 (pre.length : Int)) := (hk9 _ (by omega)).trans hh.1
          have := hb.set (.int .i64 ((pre.length : Int) + 1))
          simpa using this
        · have hb : Boxed w9 (w.heap.size + 1 + 1 + 1) 4 (.bool false) := (hk9 _ (by omega)).trans hh.2.1
          exact hb.other (by omega) _
        · exact (hh.2.2.trans (HB9.out.mono (by omega))).setCell (p := ⟨w.heap.size + 1 + 1 + 1 + 1, 0, none⟩) (by show _ ≤ w.heap.size + 1 + 1 + 1 + 1; omega) _
        · intro h
          have := HM.out h
          simp only [List.length_append, List.length_cons, List.length_nil]
          omega
    gi_region_with_o (refine ⟨trivial, (CallsIn.inRound l (callsIn_wide.2 (alikeLaw_any _ _ _ _ _))).mono ?_⟩; rintro e w9 ⟨rfl, hb9⟩)
    all_goals exact HC.out w9 ⟨hb9.os, hb9.tape, hb9.output, hb9.size, hb9.block⟩
  case done =>
    rintro D W hD ⟨h1, h2, h3, h4⟩ hK
    have hwo : wn.length ≤ (MT.ord 1 t).length := by
      have := congrArg List.length hw
      simp only [List.length_map, List.length_take] at this
      omega
    have hl : ((MT.ord 1 t).take 1000000).length = wn.length := by
      rw [List.length_take]
      rcases hm with hm | hm
      · have := h4.out hm
        rw [List.length_take] at this
        omega
      · omega
    rw [hl] at h1
    have c4 := h1.cell
    have c3 := h2.cell
    have f3 := h2.frozen
    have c1 : W.cell? ⟨w.heap.size + 1, 0, none⟩ = some (.slice p wn.length c) := (h3.cell (p := ⟨w.heap.size + 1, 0, none⟩) (by show w.heap.size + 1 < _; omega)).trans hx1.cell
    have HB : Hid (Below w.heap.size w W) := hB6.trans (h3.mono (by omega))
    clear hseq hin hsm hown hw hm hx1 hx2 hx3 hx4 hx5 ht6 h1 h2 h3 h4
    gi_wp2
    have hK2 : (W.setCell ⟨w.heap.size + 1 + 1 + 1, 0, none⟩ (.bool true)).heap[D]? = some (.deferred (some [])) := (Below.heap_setCell W ⟨w.heap.size + 1 + 1 + 1, 0, none⟩ _ D (by show D ≠ w.heap.size + 1 + 1 + 1; omega)).trans hK
    have hB2 : Below w.heap.size w (W.setCell ⟨w.heap.size + 1 + 1 + 1, 0, none⟩ (.bool true)) := HB.out.setCell (p := ⟨w.heap.size + 1 + 1 + 1, 0, none⟩) (by show _ ≤ w.heap.size + 1 + 1 + 1; omega) _
    refine ⟨by simp, .inl ⟨_, _, rfl, run_takeDeferred hK2, ?_⟩⟩
    refine ⟨_, results20 _ _ (w.heap.size + 1 + 1 + 1) true rfl ?_, rfl, hB2.trans (belowK_b (w := w) (Nat.le_refl _) _ D _ _ (by omega) hK2 rfl rfl)⟩
    have hne9 : w.heap.size + 1 + 1 + 1 ≠ D := by omega
    rw [World.cell?_of_block (a := ⟨w.heap.size + 1 + 1 + 1, 0, none⟩) (World.putObj_heap_other hne9)]
    exact World.cell?_setCell_same' _ _ _ (by rw [c3]; rfl)
  case stop =>
    rintro D W hD ⟨h1, h2⟩ hK
    refine ⟨by simp, .inl ⟨_, _, rfl, run_takeDeferred hK, ?_⟩⟩
    refine ⟨_, results20 _ _ (w.heap.size + 1 + 1 + 1) true rfl ?_, rfl, h2.trans (belowK_b (w := w) (Nat.le_refl _) _ D _ _ (by omega) hK rfl rfl)⟩
    have hne9 : w.heap.size + 1 + 1 + 1 ≠ D := by omega
    rw [World.cell?_of_block (a := ⟨w.heap.size + 1 + 1 + 1, 0, none⟩) (World.putObj_heap_other hne9)]
    exact h1.cell
end Go.Proofs.YthbnegggohegkaaGreatDoor
namespace Go.Proofs.YthbnegggohegkaaGreatDoor
open Go.RowKit Go.Shelf

set_option maxHeartbeats 1000000 in
theorem pick_any (c : Int) (n : Nat) (h0 : -9223372036854775808 ≤ c) (h1 : c ≤ 9223372036854775807) (hn : 0 < n) (hn2 : n ≤ 100000) (w : World) :
    Calls Tryz.prog 19 #[.int .i64 c, .int .i64 n] w fun e w' => ∃ r : Nat, e = .returned (.int .i64 r) ∧ r < n ∧ w' = w := by
  have hn' : ¬ (n : Int) = 0 := by omega
  by_cases hc : c < 0
  · go_enter Tryz.func19, Tryz.ntmps19
    go_wp2_with fail
    go_ret
    obtain ⟨d, hd⟩ : ∃ d : Nat, c + 1 = -(d : Int) := ⟨(-(c + 1)).toNat, by omega⟩
    refine ⟨d % n, ?_, Nat.mod_lt _ hn, rfl⟩
    show Ending.returned (Value.int IntKind.i64 (-(c + 1).tmod n)) = _
    rw [hd, Int.neg_tmod, Int.neg_neg]
    rfl
  · go_enter Tryz.func19, Tryz.ntmps19
    go_wp2_with fail
    go_ret
    obtain ⟨d, hd⟩ : ∃ d : Nat, c = (d : Int) := ⟨c.toNat, by omega⟩
    subst hd
    exact ⟨d % n, rfl, Nat.mod_lt _ hn, rfl⟩

attribute [local go_sem] Oper.semAt_some

theorem results5 (tmps : Array Value) (w : World) (g : Nat) (b : Bool) (hp : tmps[6]?.getD undef = .pointer (some ⟨g, 0, none⟩)) (hc : w.cell? ⟨g, 0, none⟩ = some (.bool b)) : (results Tryz.f5 tmps).run Tryz.prog w = .ok (.bool b) w := by
  have h : Tryz.f5.results = #[.cell 6 4] := rfl
  simp only [results, h]
  simp [Sem.run_bind, Result.andThen, hp, asAddr, loadVar, hc, go_sem]

/-- The cells that a round of TreeAll reads. -/
structure AllAt (Bx Bw Bi Bk N g gx c n k i len : Nat) (X : MT) (x : Nat × MT) (U : World) : Prop where
  cw : U.cell? ⟨Bw, 0, none⟩ = some (.slice (some ⟨g, 0, none⟩) n c)
  ci : U.cell? ⟨Bi, 0, none⟩ = some (.int .i64 (i : Int))
  fi : U.frozen? ⟨Bi, 0, none⟩ = false
  ck : U.cell? ⟨Bk, 0, none⟩ = some (.int .i64 (k : Int))
  x0 : U.cell? ⟨Bx, 0, none⟩ = some (.int .i64 X.kind)
  x1 : U.cell? ⟨Bx, 1, none⟩ = some (.string X.text)
  x2 : U.cell? ⟨Bx, 2, none⟩ = some (.int .i64 X.num)
  x3 : U.cell? ⟨Bx, 3, none⟩ = some (.int .i64 X.at_)
  x4 : U.cell? ⟨Bx, 4, none⟩ = some (.slice (some ⟨gx, 0, none⟩) len (len + 2))
  e0 : U.cell? ⟨g, i * 6, none⟩ = some (.int .i64 x.1)
  e1 : U.cell? ⟨g, i * 6 + 1, none⟩ = some (.int .i64 x.2.kind)
  e2 : U.cell? ⟨g, i * 6 + 2, none⟩ = some (.string x.2.text)
  e3 : U.cell? ⟨g, i * 6 + 3, none⟩ = some (.int .i64 x.2.num)
  e4 : U.cell? ⟨g, i * 6 + 4, none⟩ = some (.int .i64 x.2.at_)
  e5 : U.cell? ⟨g, i * 6 + 5, none⟩ = some (.slice none 0 0)
  n0 : U.cell? ⟨N, 0, none⟩ = some (.int .i64 x.2.kind)
  n1 : U.cell? ⟨N, 1, none⟩ = some (.string x.2.text)
  n2 : U.cell? ⟨N, 2, none⟩ = some (.int .i64 x.2.num)
  n3 : U.cell? ⟨N, 3, none⟩ = some (.int .i64 x.2.at_)
  n4 : U.cell? ⟨N, 4, none⟩ = some (.slice none 0 0)

/-- What holds while the Kids of the twin are written over. -/
structure ClRel (gx n B : Nat) (w w10 wr : World) : Prop where
  size : wr.heap.size = w10.heap.size
  same : ∀ q, q ≠ gx → wr.heap[q]? = w10.heap[q]?
  row : ∃ cur' : Array Value, wr.heap[gx]? = some (.cells cur' 24 (0, 0)) ∧ cur'.size = n
  below : Below B w wr

set_option maxRecDepth 100000 in
set_option maxHeartbeats 1500000 in
theorem allLaw_any {gw ow gs os : Nat} (t : MT) (mo at' : Int) (hmo0 : -9223372036854775808 ≤ mo) (hmo1 : mo ≤ 9223372036854775807) (hat0 : -9223372036854775808 ≤ at') (hat1 : at' ≤ 9223372036854775807) (w : World) (ht : TabsAt gw ow gs os w) (hg : w.cell? ⟨0, 0, none⟩ = some (.iface 129 (.agg #[hnd 33]))) (hin : t.In w.heap.size w)
    (hsm : ∀ x ∈ MT.ord 1 t, x.2.text.size ≤ 140737488351232) :
    Calls Tryz.prog 5 #[nodeV t, .int .i64 mo, .int .i64 at'] w fun e w' => e = .returned (.bool true) ∧ Below w.heap.size w w' := by
  have h6 := ht.two
  have hB2 := below2 w (nodeO t) (.cells #[.bool false] 4)
  have hz2 : ((w.alloc (nodeO t)).alloc (.cells #[.bool false] 4)).heap.size = w.heap.size + 2 := by simp
  have HM : Hid (MoBox w.heap.size t ((w.alloc (nodeO t)).alloc (.cells #[.bool false] 4))) := by
    have h1 := (BoxAt.new w t).below (B := w.heap.size + 1) (by omega) ((Below.refl _ _).alloc (by simp) (.cells #[.bool false] 4))
    have h2 := Boxed.new (w.alloc (nodeO t)) 4 (.bool false)
    rw [World.size_alloc] at h2
    exact ⟨h1.k0, h1.k1, h1.k2, h1.k3, h1.k4, h2.cell, h2.frozen⟩
  refine (callsIn_wide (n := 8)).1 ?_
  refine callsIn_of_wp_marks Tryz.func5 rfl trivial ?_ rfl
  simp only [Tryz.ntmps5, List.size_toArray, List.length_cons, List.length_nil, Nat.reduceAdd, Nat.reduceSub, Array.replicate_succ, Array.replicate_zero, List.push_toArray, List.append_toArray, List.nil_append, List.cons_append]
  gi_wp2_with fail
  refine ⟨trivial, ?_⟩
  refine (callsIn_wide.2 (examples_any _ (ht.below (Nat.le_refl _) hB2) ((hB2.cell (p := ⟨0, 0, none⟩) (by show 0 < _; omega)).trans hg))).mono ?_
  have HW : ∃ W1, W1 = ((w.alloc (nodeO t)).alloc (.cells #[.bool false] 4)) := ⟨_, rfl⟩
  obtain ⟨W1, hW1⟩ := HW
  rw [← hW1] at hB2 hz2 HM
  rintro e w1 ⟨rfl, hb1'⟩
  have hb1 : Below W1.heap.size W1 w1 := by rw [hW1]; exact hb1'
  clear hb1' hW1
  have HK : Hid (∀ W, Below W1.heap.size W1 W → MoBox w.heap.size t W) := fun W hW => HM.out.below (by omega) hW
  have HIA : Hid (∀ W, Below W1.heap.size W1 W → t.In w.heap.size W) := fun W hW => MT.In.below (hB2.trans (hW.mono (by omega))) _ hin
  have HSM : Hid (∀ x ∈ MT.ord 1 t, x.2.text.size ≤ 140737488351232) := hsm
  obtain ⟨k0, k1, k2, k3, k4, kr, kf⟩ := HK.out w1 hb1
  clear ht hg hin hsm HM
  gi_wp2_with fail
  refine ⟨trivial, ?_⟩
  refine (callsIn_wide.2 (pick_any mo 200 hmo0 hmo1 (by omega) (by omega) w1)).mono ?_
  rintro e w1' ⟨r1, rfl, hr1, rfl⟩
  gi_wp2_with fail
  refine ⟨trivial, ?_⟩
  refine (callsIn_wide.2 (refCount_any t w1' (MT.In.mono (by have := hb1.size; omega) _ (HIA.out w1' hb1)))).mono ?_
  rintro e w2 ⟨r, rfl, hr0, hr1', HR, hb2⟩
  have hb12 : Below W1.heap.size W1 w2 := hb1.trans (hb2.mono hb1.size)
  have hz12 := hb12.size
  clear k0 k1 k2 k3 k4 kr kf hb1 hb2
  obtain ⟨k0, k1, k2, k3, k4, kr, kf⟩ := HK.out w2 hb12
  by_cases hbig : 3000 < r
  · have hl3 : ((MT.ord 1 t).take 300).length = 300 := by
      have h1 := HR.out
      rw [List.length_take, MT.ord_length]
      omega
    have HOR : Hid (∀ W, Below W1.heap.size W1 W → Calls Tryz.prog 21 #[.agg #[.int .i64 t.kind, .string t.text, .int .i64 t.num, .int .i64 t.at_, .slice t.ptr t.kids.length t.cap], .int .i64 300] W fun e w' => ∃ p' c', e = .returned (.slice p' 300 c') ∧
        Hid (w'.ownsRow (W.heap.size + 1) 46 6 (.slice p' 300 c') 300 (stepsL ((MT.ord 1 t).take 300))) ∧ Below W.heap.size W w') := fun W hW => by
      have h1 := order_any t 300 W (by omega) (MT.In.mono (by have := hW.size; omega) _ (HIA.out W hW))
      rw [hl3] at h1
      exact h1
    have HGO : Hid (∀ (p' : Option Addr) (c' base r2 : Nat) (W : World), r2 < 300 → Below W1.heap.size W1 W → W.ownsRow base 46 6 (.slice p' 300 c') 300 (stepsL ((MT.ord 1 t).take 300)) →
        Calls Tryz.prog 20 #[.agg #[.int .i64 t.kind, .string t.text, .int .i64 t.num, .int .i64 t.at_, .slice t.ptr t.kids.length t.cap], .slice p' 300 c', .int .i64 (1 + (r2 : Int))] W fun e w' => e = .returned (.bool true) ∧ Below W1.heap.size W1 w') := fun p' c' base r2 W hr2 hW ho => by
      have h1 := goes_any t ((MT.ord 1 t).take 300) p' c' base (1 + r2) W (MT.In.mono (by have := hW.size; omega) _ (HIA.out W hW)) (fun x hx => HSM.out x (List.mem_of_mem_take hx)) (by rw [hl3]; exact ho) (by rw [hl3]) (by omega) (.inl ⟨by omega, by omega⟩) (by omega)
      rw [hl3, show (((1 + r2 : Nat)) : Int) = 1 + (r2 : Int) by simp] at h1
      exact h1.mono fun _ _ ⟨h2, h3⟩ => ⟨h2, hW.trans (h3.mono hW.size)⟩
    clear hl3
    have HPI : Hid (∀ W, Calls Tryz.prog 19 #[.int .i64 (1 + (r1 : Int)), .int .i64 300] W fun e w' => ∃ r2 : Nat, e = .returned (.int .i64 (r2 : Int)) ∧ r2 < 300 ∧ w' = W) := fun W => pick_any (1 + (r1 : Int)) 300 (by omega) (by omega) (by omega) (by omega) W
    have HKS : Hid (∀ W, Below W1.heap.size W1 W → (W.cell? ⟨w.heap.size, 0, none⟩ = some (.int .i64 t.kind) ∧ W.cell? ⟨w.heap.size, 1, none⟩ = some (.string t.text) ∧ W.cell? ⟨w.heap.size, 2, none⟩ = some (.int .i64 t.num) ∧ W.cell? ⟨w.heap.size, 3, none⟩ = some (.int .i64 t.at_) ∧ W.cell? ⟨w.heap.size, 4, none⟩ = some (.slice t.ptr t.kids.length t.cap))) := fun W hW => by
      obtain ⟨k0, k1, k2, k3, k4, kr, kf⟩ := HK.out W hW
      exact ⟨k0, k1, k2, k3, k4⟩
    have HKT : Hid (∀ (W : World) (v : Value), Below W1.heap.size W1 W → ((W.setCell ⟨w.heap.size + 1, 0, none⟩ v).cell? ⟨w.heap.size, 0, none⟩ = some (.int .i64 t.kind) ∧ (W.setCell ⟨w.heap.size + 1, 0, none⟩ v).cell? ⟨w.heap.size, 1, none⟩ = some (.string t.text) ∧ (W.setCell ⟨w.heap.size + 1, 0, none⟩ v).cell? ⟨w.heap.size, 2, none⟩ = some (.int .i64 t.num) ∧ (W.setCell ⟨w.heap.size + 1, 0, none⟩ v).cell? ⟨w.heap.size, 3, none⟩ = some (.int .i64 t.at_) ∧ (W.setCell ⟨w.heap.size + 1, 0, none⟩ v).cell? ⟨w.heap.size, 4, none⟩ = some (.slice t.ptr t.kids.length t.cap))) := fun W v hW => by
      obtain ⟨k0, k1, k2, k3, k4, kr, kf⟩ := HK.out W hW
      have hh : ∀ o, (W.setCell ⟨w.heap.size + 1, 0, none⟩ v).cell? ⟨w.heap.size, o, none⟩ = W.cell? ⟨w.heap.size, o, none⟩ := fun o => World.cell?_of_block (a := ⟨w.heap.size, o, none⟩) (Below.heap_setCell W ⟨w.heap.size + 1, 0, none⟩ v _ (by show w.heap.size ≠ w.heap.size + 1; omega))
      exact ⟨(hh _).trans k0, (hh _).trans k1, (hh _).trans k2, (hh _).trans k3, (hh _).trans k4⟩
    gi_wp2_with fail
    rename_i Kz hKz
    have HKZ : Hid _ := hKz
    clear hKz
    refine wpIn_wide.2 ?_
    refine wp_region_noPanic ?_
    go_region_held3 (fun W => W.cell? ⟨w.heap.size, 0, none⟩ = some (.int .i64 t.kind) ∧ W.cell? ⟨w.heap.size, 1, none⟩ = some (.string t.text) ∧ W.cell? ⟨w.heap.size, 2, none⟩ = some (.int .i64 t.num) ∧ W.cell? ⟨w.heap.size, 3, none⟩ = some (.int .i64 t.at_) ∧ W.cell? ⟨w.heap.size, 4, none⟩ = some (.slice t.ptr t.kids.length t.cap))
      (first | exact HKT.out _ _ hb10 | exact HKS.out _ hb10 | exact HKS.out _ hb19 | exact HKS.out _ hb12.drew)
      (first
        | (go_at_call 20; refine (HGO.out _ _ _ _ _ hr2 hb19 HO9.out).mono ?_; rintro e w10 ⟨rfl, hb10⟩; have kr10 := (HK.out w10 hb10).r; have kf10 := (HK.out w10 hb10).f)
        | (go_at_call 19; refine (HPI.out _).mono ?_; rintro e w8 ⟨r2, rfl, hr2, rfl⟩; have hwr : IntKind.i64.wrap (1 + (r2 : Int)) = 1 + (r2 : Int) := (by rw [IntKind.wrap_i64]; omega))
        | (go_at_call 21; refine (HOR.out _ hb12.drew).mono ?_; rintro e w9 ⟨p9, c9, rfl, HO9, hb9⟩; have hb19 : Below W1.heap.size W1 w9 := hb12.drew.trans (hb9.mono hb12.size)))
    refine HKZ.out _ _ ?_
    gi_wp2
    refine ⟨_, results5 _ _ (w.heap.size + 1) true rfl (World.cell?_setCell_same' _ _ _ (by rw [kr10]; rfl)), rfl, ?_⟩
    exact (hB2.trans (hb10.mono (by omega))).setCell (p := ⟨w.heap.size + 1, 0, none⟩) (by simp) _
  · obtain rfl : r = (t.size : Int) := by have := HR.out; omega
    have hsz : t.size ≤ 3000 := by omega
    have hsp := MT.size_pos t
    gi_wp2_with fail
    refine ⟨trivial, ?_⟩
    refine (callsIn_wide.2 (twin_any 3000 (by omega) t w2 hsz (MT.In.mono (by omega) _ (HIA.out w2 hb12)))).mono ?_
    rintro e w3 ⟨X, rfl, HTW, HAT, HPX, hb3⟩
    have hz3 := hb3.size
    have hb13 : Below W1.heap.size W1 (w3.alloc (nodeO X)) := (hb12.trans (hb3.mono hz12)).alloc (by omega) _
    have hl3 : ((MT.ord 1 t).take 3001).length = t.size := by rw [List.length_take, MT.ord_length]; omega
    have ht3 : (MT.ord 1 t).take 3001 = MT.ord 1 t := List.take_of_length_le (by rw [MT.ord_length]; omega)
    have HOR : Hid (Calls Tryz.prog 21 #[.agg #[.int .i64 t.kind, .string t.text, .int .i64 t.num, .int .i64 t.at_, .slice t.ptr t.kids.length t.cap], .int .i64 3001] (w3.alloc (nodeO X)) fun e w' => ∃ p' c', e = .returned (.slice p' t.size c') ∧
        Hid (w'.ownsRow ((w3.alloc (nodeO X)).heap.size + 1) 46 6 (.slice p' t.size c') t.size (stepsL (MT.ord 1 t))) ∧ Below (w3.alloc (nodeO X)).heap.size (w3.alloc (nodeO X)) w') := by
      have h1 := order_any t 3001 (w3.alloc (nodeO X)) (by omega) (MT.In.mono (by have := hb13.size; omega) _ (HIA.out _ hb13))
      rw [hl3, ht3] at h1
      exact h1
    clear k0 k1 k2 k3 k4 kr kf
    obtain ⟨k0, k1, k2, k3, k4, kr, kf⟩ := HK.out w3 (hb12.trans (hb3.mono hz12))
    have hw3l : w.heap.size < w3.heap.size := by omega
    gi_wp2_with fail
    refine ⟨trivial, ?_⟩
    refine (callsIn_wide.2 HOR.out).mono ?_
    rintro e w5 ⟨p5, c5, rfl, HO5, hb5⟩
    clear HOR
    have hz5 := hb5.size
    simp only [World.size_alloc] at hz5
    have hbx5 : BoxAt w5 w3.heap.size X := (BoxAt.new w3 X).below (B := (w3.alloc (nodeO X)).heap.size) (by simp) hb5
    clear k0 k1 k2 k3 k4 kr kf
    have hb15 : Below W1.heap.size W1 w5 := hb13.trans (hb5.mono hb13.size)
    obtain ⟨x0, x1, x2, x3, x4⟩ := hbx5
    have hx5l : w3.heap.size < w5.heap.size := by omega
    gi_wp2_with fail
    have hbZ : Below W1.heap.size W1 (w5.alloc (.cells #[.slice p5 t.size c5] 40)) := hb15.alloc (by have := hb15.size; omega) _
    have hxZ : BoxAt (w5.alloc (.cells #[.slice p5 t.size c5] 40)) w3.heap.size X := (BoxAt.mk x0 x1 x2 x3 x4).below (B := w5.heap.size) hx5l (below1 w5 _)
    have hwZ : Boxed (w5.alloc (.cells #[.slice p5 t.size c5] 40)) w5.heap.size 40 (.slice p5 t.size c5) := Boxed.new w5 40 _
    have hoZ := HO5.out.alloc (.cells #[.slice p5 t.size c5] 40)
    have hk35 : ∀ k, k < w3.heap.size → (w5.alloc (.cells #[.slice p5 t.size c5] 40)).heap[k]? = w3.heap[k]? := fun k hk => (Below.heap_alloc _ _ k (by omega)).trans ((hb5.block k (by simp; omega)).trans (Below.heap_alloc _ _ k hk))
    have haZ : X.At (fun b => w2.heap.size ≤ b ∧ b < w3.heap.size) (w5.alloc (.cells #[.slice p5 t.size c5] 40)) := MT.At.keep (fun b h => h) (fun k o hk => World.cell?_of_block (a := ⟨k, o, none⟩) (hk35 k hk.2)) X HAT.out
    obtain ⟨gx, cur, hpx, hgx, hgh, hcs, hcp⟩ := HPX.out
    have HPP : Hid (X.ptr = some ⟨gx, 0, none⟩ ∧ X.cap = X.kids.length + 2) := ⟨hpx, hcp⟩
    clear hpx hcp
    have hgl : gx < w3.heap.size := (Array.getElem?_eq_some_iff.1 hgh).1
    have hghZ : (w5.alloc (.cells #[.slice p5 t.size c5] 40)).heap[gx]? = some (.cells cur 24 (0, 0)) := (hk35 gx hgl).trans hgh
    have hzZ : (w5.alloc (.cells #[.slice p5 t.size c5] 40)).heap.size = w5.heap.size + 1 := by simp
    obtain ⟨Z, hZ⟩ : ∃ Z, Z = (w5.alloc (.cells #[.slice p5 t.size c5] 40)) := ⟨_, rfl⟩
    rw [← hZ] at hbZ hxZ hwZ hoZ haZ hghZ hzZ ⊢
    clear hZ hk35 HO5 x0 x1 x2 x3 x4 HAT HPX hgh hb5 hb3 hb13 hb15
    have hts := MT.twin_steps t X 1 HTW.out
    have hlX : (MT.ord 1 X).length = (MT.ord 1 t).length := by simpa using congrArg List.length hts
    have hlt : (MT.ord 1 t).length = t.size := MT.ord_length t 1
    have HSX : Hid (∀ x ∈ (MT.ord 1 X).take 1000000, x.2.text.size ≤ 140737488351232) := by
      intro x hx
      have h1 : stepCells x ∈ (MT.ord 1 t).map stepCells := by rw [← hts]; exact List.mem_map.2 ⟨x, List.mem_of_mem_take hx, rfl⟩
      obtain ⟨y, hy, he⟩ := List.mem_map.1 h1
      have h2 := HSM.out y hy
      simp only [stepCells, List.cons.injEq, Value.string.injEq] at he
      rw [← he.2.2.1]; exact h2
    have HIX : Hid (∀ W, Below Z.heap.size Z W → X.In W.heap.size W) := fun W hW =>
      MT.At.toIn (fun b hb => hb.2) X (MT.At.keep (ok' := fun b => w2.heap.size ≤ b ∧ b < W.heap.size) (fun b h => ⟨h.1, by have := hW.size; omega⟩) (fun k o hk => hW.cell (p := ⟨k, o, none⟩) (by show k < _; omega)) X haZ)
    have HGO : Hid (∀ (W : World) (mi : Int) (m : Nat), Below Z.heap.size Z W → mi = (m : Int) → m ≤ 3001 → Calls Tryz.prog 20 #[.agg #[.int .i64 X.kind, .string X.text, .int .i64 X.num, .int .i64 X.at_, .slice X.ptr X.kids.length X.cap], .slice p5 t.size c5, .int .i64 mi] W fun e w' => e = .returned (.bool true) ∧ Below W.heap.size W w') := fun W mi m hW hmi hm => by
      subst hmi
      have ho := hoZ.kept (below_grown hW (Nat.le_refl _)) (by cases h : (Value.slice p5 t.size c5).ownBlock <;> simp)
      have h1 := goes_any X (MT.ord 1 t) p5 c5 _ m W (HIX.out W hW) HSX.out (by rw [hlt]; exact ho) (by rw [← hlX, List.take_length, hts]) (by omega)
        (by
          rcases Nat.lt_or_ge (MT.ord 1 t).length m with h | h
          · exact .inr ⟨.inr h, hlX.symm⟩
          · rcases Nat.eq_zero_or_pos m with h0 | h0
            · exact .inr ⟨.inl h0, hlX.symm⟩
            · exact .inl ⟨h0, h⟩) hm
      rw [hlt] at h1
      exact h1
    have HFZ : Hid (∀ W, Below Z.heap.size Z W → MoBox w.heap.size t W ∧ BoxAt W w3.heap.size X ∧ W.cell? ⟨w5.heap.size, 0, none⟩ = some (.slice p5 t.size c5)) := fun W hW =>
      ⟨HK.out W (hbZ.trans (hW.mono hbZ.size)), hxZ.below (by omega) hW, (hW.cell (p := ⟨w5.heap.size, 0, none⟩) (by show w5.heap.size < _; omega)).trans hwZ.cell⟩
    refine ⟨trivial, ?_⟩
    refine (callsIn_wide.2 (HGO.out Z _ (1 + r1) (Below.refl _ _) (by simp) (by omega))).mono ?_
    rintro e w7 ⟨rfl, hb7⟩
    obtain ⟨⟨k0, k1, k2, k3, k4, kr, kf⟩, ⟨x0, x1, x2, x3, x4⟩, cw⟩ := HFZ.out w7 hb7
    gi_wp2_with fail
    refine ⟨trivial, ?_⟩
    refine (callsIn_wide.2 (HGO.out w7 _ 0 hb7 (by simp) (by omega))).mono ?_
    rintro e w8 ⟨rfl, hb8'⟩
    have hb8 : Below Z.heap.size Z w8 := hb7.trans (hb8'.mono hb7.size)
    clear hb8' k0 k1 k2 k3 k4 kr kf x0 x1 x2 x3 x4 cw hb7
    obtain ⟨⟨k0, k1, k2, k3, k4, kr, kf⟩, ⟨x0, x1, x2, x3, x4⟩, cw⟩ := HFZ.out w8 hb8
    gi_wp2_with fail
    refine ⟨trivial, ?_⟩
    refine (callsIn_wide.2 (all_any X w8)).mono ?_
    rintro e w' ⟨rfl, rfl⟩
    have hcmp : ∀ (q : Value) (W : World), (binOp .eql 43 (.func (.func 38) #[] #[q]) .nilFunc).run Tryz.prog W = .ok (.bool false) W := fun q W => eq_nilFunc _ _ W
    have hz8 := hb8.size
    have hl8a : w5.heap.size < w8.heap.size := by omega
    gi_wp2_with fail
    clear hcmp
    refine ⟨trivial, ?_⟩
    refine (callsIn_wide.2 (pick_any at' t.size hat0 hat1 hsp (by omega) _)).mono ?_
    rintro e w9' ⟨k, rfl, hk, rfl⟩
    gi_wp2_with fail
    have hbF : Below Z.heap.size Z (((w8.alloc (nodeO X)).alloc (.cells #[.int .i64 0] 3)).alloc (.cells #[.int .i64 (k : Int)] 3)) := ((hb8.alloc (by omega) _).alloc (by simp; omega) _).alloc (by simp; omega) _
    have hiF : Boxed (((w8.alloc (nodeO X)).alloc (.cells #[.int .i64 0] 3)).alloc (.cells #[.int .i64 (k : Int)] 3)) (w8.heap.size + 1) 3 (.int .i64 0) := by
      have h := (Boxed.new (w8.alloc (nodeO X)) 3 (.int .i64 0)).alloc (.cells #[.int .i64 (k : Int)] 3)
      simpa only [World.size_alloc] using h
    have hkF : Boxed (((w8.alloc (nodeO X)).alloc (.cells #[.int .i64 0] 3)).alloc (.cells #[.int .i64 (k : Int)] 3)) (w8.heap.size + 1 + 1) 3 (.int .i64 (k : Int)) := by
      have h := Boxed.new ((w8.alloc (nodeO X)).alloc (.cells #[.int .i64 0] 3)) 3 (.int .i64 (k : Int))
      simpa only [World.size_alloc] using h
    have hXF : BoxAt (((w8.alloc (nodeO X)).alloc (.cells #[.int .i64 0] 3)).alloc (.cells #[.int .i64 (k : Int)] 3)) w8.heap.size X := (BoxAt.new w8 X).below (B := w8.heap.size + 1) (by omega) (((Below.refl _ _).alloc (by simp) _).alloc (by simp) _)
    have hzF : (((w8.alloc (nodeO X)).alloc (.cells #[.int .i64 0] 3)).alloc (.cells #[.int .i64 (k : Int)] 3)).heap.size = w8.heap.size + 3 := by simp
    obtain ⟨Wf, hWf⟩ : ∃ Wf, Wf = (((w8.alloc (nodeO X)).alloc (.cells #[.int .i64 0] 3)).alloc (.cells #[.int .i64 (k : Int)] 3)) := ⟨_, rfl⟩
    rw [← hWf] at hbF hiF hkF hXF hzF ⊢
    clear hWf k0 k1 k2 k3 k4 kr kf x0 x1 x2 x3 x4 cw
    have hinF : X.In w3.heap.size Wf := MT.At.toIn (fun b hb => hb.2) X (MT.At.keep (fun b h => h) (fun q o hq => hbF.cell (p := ⟨q, o, none⟩) (by show q < _; omega)) X haZ)
    have hwF : Below w.heap.size w Wf := hB2.trans ((hbZ.trans (hbF.mono hbZ.size)).mono (by omega))
    have hseq := all1_stop 7 (by omega) X w8.heap.size w3.heap.size Wf hXF hinF (by omega) (by omega) HSX.out
    refine wpIn_rangeFunc_stop rfl (by omega) (gf := 38) (lb := #[.pointer (some ⟨w8.heap.size, 0, none⟩)]) rfl trivial (enters_of Tryz.func38 (by kernel_rfl) rfl) hseq (fun _ => rfl)
      (fun q => q = w8.heap.size + 1 ∨ q = gx) (by rintro q (rfl | rfl) <;> omega)
      (fun pre W => Boxed W (w8.heap.size + 1) 3 (.int .i64 (pre.length : Int)) ∧ KeepsX (fun q => q = w8.heap.size + 1 ∨ q = gx) Wf W ∧ Hid (pre.length ≤ k → Below Z.heap.size Z W) ∧ Hid (∃ cur', W.heap[gx]? = some (.cells cur' 24 (0, 0)) ∧ cur'.size = cur.size) ∧ Below w.heap.size w W)
      (fun _ => False) ?ab ?ax ⟨hiF, ⟨Nat.le_refl _, fun _ _ _ => rfl⟩, fun _ => hbF, ⟨cur, (hbF.block gx (by omega)).trans hghZ, rfl⟩, hwF⟩
      (fun x A => { tmps := #[nodeV t, .int .i64 (1 + (r1 : Int)), .int .i64 at', .pointer (some ⟨w.heap.size, 0, none⟩), undef, undef, .pointer (some ⟨w.heap.size + 1, 0, none⟩), .bool true, .pointer (some ⟨w3.heap.size, 0, none⟩), .pointer (some ⟨w5.heap.size, 0, none⟩), .bool true, .bool true, Value.func (.func 38) #[] #[.pointer (some ⟨w8.heap.size, 0, none⟩)], .pointer (some ⟨w8.heap.size + 1, 0, none⟩), .pointer (some ⟨w8.heap.size + 1 + 1, 0, none⟩), .int .i64 x.1, .pointer (some ⟨A.heap.size, 0, none⟩), undef, undef, undef, .bool true, .int .i64 mo, .int .i64 (r1 : Int), .int .i64 (1 + (r1 : Int)), .agg #[.int .i64 t.kind, .string t.text, .int .i64 t.num, .int .i64 t.at_, .slice t.ptr t.kids.length t.cap], .int .i64 (t.size : Int), .bool (decide (3000 < (t.size : Int))), undef, undef, undef, undef, undef, undef, undef, undef, undef, undef, .agg #[.int .i64 t.kind, .string t.text, .int .i64 t.num, .int .i64 t.at_, .slice t.ptr t.kids.length t.cap], nodeV X, .agg #[.int .i64 t.kind, .string t.text, .int .i64 t.num, .int .i64 t.at_, .slice t.ptr t.kids.length t.cap], .slice p5 t.size c5, .agg #[.int .i64 X.kind, .string X.text, .int .i64 X.num, .int .i64 X.at_, .slice X.ptr X.kids.length X.cap], .slice p5 t.size c5, .int .i64 (1 + (r1 : Int)), .bool true, .agg #[.int .i64 X.kind, .string X.text, .int .i64 X.num, .int .i64 X.at_, .slice X.ptr X.kids.length X.cap], .slice p5 t.size c5, .bool true, .agg #[.int .i64 X.kind, .string X.text, .int .i64 X.num, .int .i64 X.at_, .slice X.ptr X.kids.length X.cap], Value.func (.func 38) #[] #[.pointer (some ⟨w8.heap.size, 0, none⟩)], .bool true, .bool false, .bool false, .bool true, .bool false, .bool false, .bool false, .bool true, .bool false, .bool false, .bool false, Value.func (.func 38) #[] #[.pointer (some ⟨w8.heap.size, 0, none⟩)], .bool false, .bool false, .int .i64 at', .slice p5 t.size c5, .int .i64 (t.size : Int), .int .i64 (k : Int), Value.func (.func 38) #[] #[.pointer (some ⟨w8.heap.size, 0, none⟩)], .int .i64 x.1, bareV x.2, undef, undef, undef, undef, undef, undef, undef, undef, undef, undef, undef, undef, undef, undef, undef, undef, undef, undef, undef, undef, undef, undef, undef, undef, undef, undef, undef, undef, undef, undef, undef, undef, undef, undef, undef, undef, undef, undef, undef, undef, undef, undef, undef, undef, undef, undef, undef, undef], defers := [] }) (fun x A => A.alloc (bareO x.2)) (fun x A => World.grownBy_alloc _ _ _) ?assign ?body ?done ?stop
    case ab =>
      rintro u A A' row ⟨h1, h2, h3, h4, h5⟩ hgr hr
      have hz := h2.size
      have hkb : ∀ q, q < Wf.heap.size → A'.heap[q]? = A.heap[q]? := fun q hq => hgr.block q (by omega) (fun e => by have := hr _ e.symm; omega)
      refine ⟨(hkb _ (by omega)).trans h1, ⟨by have := hgr.size; omega, fun q hq hx => (hkb q hq).trans (h2.same q hq hx)⟩, fun hp => Below.grown (h3.out hp) hgr (by omega) (fun j e => by have := hr j e; omega), ?_, Below.grown h5 hgr (by omega) (fun j e => by have := hr j e; omega)⟩
      obtain ⟨cur', hc1, hc2⟩ := h4.out
      exact ⟨cur', (hkb _ (by omega)).trans hc1, hc2⟩
    case ax =>
      intro u A A' row h hgr hr
      exact h
    case assign =>
      intro l x A K hK
      gi_wp2
      refine cast (congrArg (fun z => K ⟨z, []⟩ (A.alloc (bareO x.2))) ?_) hK
      simp
    case body =>
      rintro l pre x W V hpre ⟨h1, h2, h3, h4, h5⟩ hWz hVz hl' hVo
      simp only [World.size_alloc] at hVz
      have hlen : pre.length < (MT.ord 1 X).length := by
        have := hpre.length_le
        simp only [List.length_append, List.length_cons, List.length_nil, List.length_take] at this; omega
      have hi : pre.length < (MT.ord 1 t).length := by omega
      have hx : (MT.ord 1 X)[pre.length]'hlen = x := by
        obtain ⟨r, hr⟩ := hpre
        have h6 : ((MT.ord 1 X).take 1000000)[pre.length]? = some x := by rw [← hr]; simp
        rw [List.getElem?_take] at h6
        split at h6
        · obtain ⟨_, h7⟩ := List.getElem?_eq_some_iff.1 h6; exact h7
        · cases h6
      have hst : stepCells (MT.ord 1 t)[pre.length] = stepCells x := by
        have h6 := congrArg (fun q => q[pre.length]?) hts
        simp only [List.getElem?_map, List.getElem?_eq_getElem hi, List.getElem?_eq_getElem hlen, Option.map_some, hx] at h6
        exact (Option.some.inj h6).symm
      obtain ⟨gw', rfl⟩ : ∃ g, p5 = some ⟨g, 0, none⟩ := by
        rcases hoZ.2 with ⟨h, h0⟩ | ⟨g, cap, cur, h, _⟩
        · omega
        · cases h; exact ⟨g, rfl⟩
      obtain ⟨hgw1, hgw2⟩ := hoZ.lt gw' rfl
      simp only [World.size_alloc] at hgw1
      have hcap : t.size ≤ c5 := by
        rcases hoZ.2 with ⟨h, h0⟩ | ⟨g, cap, cur, h, _, _, h1, _⟩
        · cases h
        · cases h; exact h1
      have hcell : ∀ j u, j < 6 → (stepCells x)[j]? = some u → V.cell? ⟨gw', pre.length * 6 + j, none⟩ = some u := by
        intro j u hj hu
        refine (h2.cell (b := gw') (by omega) (by omega)).trans ((hbF.cell (p := ⟨gw', _, none⟩) hgw2).trans ?_)
        exact (own_cell hoZ _ u (by rw [stepsL_get (MT.ord 1 t) pre.length hi j hj, hst]; exact hu)).1
      have hAV : V.heap[W.heap.size]? = some (bareO x.2) := (hVo _ (by omega)).trans (heap_alloc_new W _)
      have hzV := h2.size
      obtain ⟨_, hxF, cw0⟩ := HFZ.out Wf hbF
      have HG : Hid (∀ U, (∀ q, q ≠ gx → q < V.heap.size → U.heap[q]? = V.heap[q]?) → AllAt w3.heap.size w5.heap.size (w8.heap.size + 1) (w8.heap.size + 1 + 1) W.heap.size gw' gx c5 t.size k pre.length X.kids.length X x U) := fun U hU => by
        have hlt : ∀ b, b ≠ gx → b < V.heap.size → ∀ o, U.cell? ⟨b, o, none⟩ = V.cell? ⟨b, o, none⟩ := fun b hb hb' o => World.cell?_of_block (a := ⟨b, o, none⟩) (hU b hb hb')
        have hvf : ∀ b o, b < Wf.heap.size → b ≠ w8.heap.size + 1 → b ≠ gx → V.cell? ⟨b, o, none⟩ = Wf.cell? ⟨b, o, none⟩ := fun b o hb h6 h7 => h2.cell hb (by omega)
        refine ⟨?_, ?_, ?_, ?_, ?_, ?_, ?_, ?_, ?_, ?_, ?_, ?_, ?_, ?_, ?_, ?_, ?_, ?_, ?_, ?_⟩
        · rw [hlt _ (by omega) (by omega), hvf _ _ (by omega) (by omega) (by omega)]; exact cw0
        · rw [hlt _ (by omega) (by omega)]; exact h1.cell
        · exact (World.frozen?_of_block (a := ⟨w8.heap.size + 1, 0, none⟩) (hU (w8.heap.size + 1) (by omega) (by omega))).trans h1.frozen
        · rw [hlt _ (by omega) (by omega), hvf _ _ (by omega) (by omega) (by omega)]; exact hkF.cell
        · rw [hlt _ (by omega) (by omega), hvf _ _ (by omega) (by omega) (by omega)]; exact hxF.k0
        · rw [hlt _ (by omega) (by omega), hvf _ _ (by omega) (by omega) (by omega)]; exact hxF.k1
        · rw [hlt _ (by omega) (by omega), hvf _ _ (by omega) (by omega) (by omega)]; exact hxF.k2
        · rw [hlt _ (by omega) (by omega), hvf _ _ (by omega) (by omega) (by omega)]; exact hxF.k3
        · rw [hlt _ (by omega) (by omega), hvf _ _ (by omega) (by omega) (by omega), hxF.k4, HPP.out.1, HPP.out.2]
        · rw [hlt _ (by omega) (by omega)]; exact hcell 0 _ (by omega) rfl
        · rw [hlt _ (by omega) (by omega)]; exact hcell 1 _ (by omega) rfl
        · rw [hlt _ (by omega) (by omega)]; exact hcell 2 _ (by omega) rfl
        · rw [hlt _ (by omega) (by omega)]; exact hcell 3 _ (by omega) rfl
        · rw [hlt _ (by omega) (by omega)]; exact hcell 4 _ (by omega) rfl
        · rw [hlt _ (by omega) (by omega)]; exact hcell 5 _ (by omega) rfl
        · rw [hlt _ (by omega) (by omega)]; simp [World.cell?, hAV]
        · rw [hlt _ (by omega) (by omega)]; simp [World.cell?, hAV]
        · rw [hlt _ (by omega) (by omega)]; simp [World.cell?, hAV]
        · rw [hlt _ (by omega) (by omega)]; simp [World.cell?, hAV]
        · rw [hlt _ (by omega) (by omega)]; simp [World.cell?, hAV]
      have HGX : Hid (∀ W, Below Z.heap.size Z W → Calls Tryz.prog 20 #[.agg #[.int .i64 X.kind, .string X.text, .int .i64 X.num, .int .i64 X.at_, .slice (some ⟨gx, 0, none⟩) X.kids.length (X.kids.length + 2)], .slice (some ⟨gw', 0, none⟩) t.size c5, .int .i64 0] W fun e w' => e = .returned (.bool true) ∧ Below W.heap.size W w') := fun W hW => by
        have h9 := HGO.out W 0 0 hW (by simp) (by omega)
        rw [HPP.out.1, HPP.out.2] at h9
        exact h9
      have HH : Hid (Boxed V (w8.heap.size + 1) 3 (.int .i64 (pre.length : Int)) ∧ KeepsX (fun q => q = w8.heap.size + 1 ∨ q = gx) Wf V ∧ (pre.length ≤ k → Below Z.heap.size Z V) ∧ (∃ cur', V.heap[gx]? = some (.cells cur' 24 (0, 0)) ∧ cur'.size = cur.size) ∧ Below w.heap.size w V) := ⟨h1, h2, h3.out, h4.out, h5⟩
      have hits : pre.length < t.size := by omega
      have HFIN : Hid (∀ (a : Act) (U : World), V.heap.size ≤ U.heap.size → (∀ q, q ≠ gx → q < V.heap.size → U.heap[q]? = V.heap[q]?) → Below w.heap.size w U → (∃ cur', U.heap[gx]? = some (.cells cur' 24 (0, 0)) ∧ cur'.size = cur.size) → (pre.length + 1 ≤ k → Below Z.heap.size Z U) →
          stopPost W.heap.size (fun q => q = w8.heap.size + 1 ∨ q = gx) (fun pre W => Boxed W (w8.heap.size + 1) 3 (.int .i64 (pre.length : Int)) ∧ KeepsX (fun q => q = w8.heap.size + 1 ∨ q = gx) Wf W ∧ Hid (pre.length ≤ k → Below Z.heap.size Z W) ∧ Hid (∃ cur', W.heap[gx]? = some (.cells cur' 24 (0, 0)) ∧ cur'.size = cur.size) ∧ Below w.heap.size w W) (fun _ => False) (pre ++ [x]) V Exit.normal a (U.setCell ⟨w8.heap.size + 1, 0, none⟩ (.int .i64 ((pre.length : Int) + 1)))) := by
        intro a U hz hq hb hc hzz
        refine ⟨by simp; omega, ?_, ?_, ⟨?_, ?_⟩, ?_, ?_, ?_⟩
        · intro q hq1 hS
          exact (Below.heap_setCell U ⟨w8.heap.size + 1, 0, none⟩ _ q (fun e => hS (.inl e))).trans (hq q (fun e => hS (.inr e)) (by omega))
        · have hbx : Boxed U (w8.heap.size + 1) 3 (.int .i64 (pre.length : Int)) := (hq _ (by omega) (by omega)).trans h1
          have := hbx.set (.int .i64 ((pre.length : Int) + 1))
          simpa using this
        · simp; omega
        · intro q hq1 hS
          exact (Below.heap_setCell U ⟨w8.heap.size + 1, 0, none⟩ _ q (fun e => hS (.inl e))).trans ((hq q (fun e => hS (.inr e)) (by omega)).trans (h2.same q hq1 hS))
        · intro hp
          simp only [List.length_append, List.length_cons, List.length_nil] at hp
          exact (hzz hp).setCell (p := ⟨w8.heap.size + 1, 0, none⟩) (by show Z.heap.size ≤ w8.heap.size + 1; omega) _
        · obtain ⟨cur', hc1, hc2⟩ := hc
          exact ⟨cur', (Below.heap_setCell U ⟨w8.heap.size + 1, 0, none⟩ _ gx (by show gx ≠ w8.heap.size + 1; omega)).trans hc1, hc2⟩
        · exact hb.setCell (p := ⟨w8.heap.size + 1, 0, none⟩) (by show w.heap.size ≤ w8.heap.size + 1; omega) _
      clear hseq hpre h1 h2 h3 h4 h5 hlen hi hx hst hcell hAV hVo hxF cw0 hiF hkF hXF hinF hoZ haZ hghZ hwZ hxZ hts
      obtain ⟨cw, ci, fi, ck, x0, x1, x2, x3, x4, e0, e1, e2, e3, e4, e5, n0, n1, n2, n3, n4⟩ := HG.out V (fun _ _ _ => rfl)
      have hmx : Tryz.prog.follows .mixedOrders = true := by kernel_rfl
      gi_wp2_with fail
      rename_i Q1 K1 hK1
      have HK1 : Hid _ := hK1
      clear hK1
      have HC : Hid (∀ w9, Below V.heap.size V w9 → K1 { tmps := #[nodeV t, .int .i64 (1 + (r1 : Int)), .int .i64 at', .pointer (some ⟨w.heap.size, 0, none⟩), undef, undef, .pointer (some ⟨w.heap.size + 1, 0, none⟩), .bool true, .pointer (some ⟨w3.heap.size, 0, none⟩), .pointer (some ⟨w5.heap.size, 0, none⟩), .bool true, .bool true, Value.func (.func 38) #[] #[.pointer (some ⟨w8.heap.size, 0, none⟩)], .pointer (some ⟨w8.heap.size + 1, 0, none⟩), .pointer (some ⟨w8.heap.size + 1 + 1, 0, none⟩), .int .i64 x.1, .pointer (some ⟨W.heap.size, 0, none⟩), .bool true, undef, undef, .bool true, .int .i64 mo, .int .i64 (r1 : Int), .int .i64 (1 + (r1 : Int)), .agg #[.int .i64 t.kind, .string t.text, .int .i64 t.num, .int .i64 t.at_, .slice t.ptr t.kids.length t.cap], .int .i64 (t.size : Int), .bool (decide (3000 < (t.size : Int))), undef, undef, undef, undef, undef, undef, undef, undef, undef, undef, .agg #[.int .i64 t.kind, .string t.text, .int .i64 t.num, .int .i64 t.at_, .slice t.ptr t.kids.length t.cap], nodeV X, .agg #[.int .i64 t.kind, .string t.text, .int .i64 t.num, .int .i64 t.at_, .slice t.ptr t.kids.length t.cap], .slice (some ⟨gw', 0, none⟩) t.size c5, .agg #[.int .i64 X.kind, .string X.text, .int .i64 X.num, .int .i64 X.at_, .slice X.ptr X.kids.length X.cap], .slice (some ⟨gw', 0, none⟩) t.size c5, .int .i64 (1 + (r1 : Int)), .bool true, .agg #[.int .i64 X.kind, .string X.text, .int .i64 X.num, .int .i64 X.at_, .slice X.ptr X.kids.length X.cap], .slice (some ⟨gw', 0, none⟩) t.size c5, .bool true, .agg #[.int .i64 X.kind, .string X.text, .int .i64 X.num, .int .i64 X.at_, .slice X.ptr X.kids.length X.cap], Value.func (.func 38) #[] #[.pointer (some ⟨w8.heap.size, 0, none⟩)], .bool true, .bool false, .bool false, .bool true, .bool false, .bool false, .bool false, .bool true, .bool false, .bool false, .bool false, Value.func (.func 38) #[] #[.pointer (some ⟨w8.heap.size, 0, none⟩)], .bool false, .bool false, .int .i64 at', .slice (some ⟨gw', 0, none⟩) t.size c5, .int .i64 (t.size : Int), .int .i64 (k : Int), Value.func (.func 38) #[] #[.pointer (some ⟨w8.heap.size, 0, none⟩)], .int .i64 x.1, bareV x.2, .int .i64 (pre.length : Int), .slice (some ⟨gw', 0, none⟩) t.size c5, .int .i64 (t.size : Int), .bool false, bareV x.2, .slice (some ⟨gw', 0, none⟩) t.size c5, .int .i64 (pre.length : Int), .pointer (some ⟨gw', pre.length * 6, none⟩), .pointer (some ⟨gw', pre.length * 6 + 1, none⟩), bareV x.2, .bool true, undef, undef, undef, undef, undef, undef, undef, undef, undef, undef, undef, undef, undef, undef, undef, undef, undef, undef, undef, undef, undef, undef, undef, undef, undef, undef, undef, undef, undef, undef, undef, undef, undef, undef, undef, undef, undef], defers := [] } w9) := by
        intro w9 hb9
        refine HK1.out _ _ ?_
        clear cw ci fi ck x0 x1 x2 x3 x4 e0 e1 e2 e3 e4 e5 n0 n1 n2 n3 n4
        obtain ⟨cw, ci, fi, ck, x0, x1, x2, x3, x4, e0, e1, e2, e3, e4, e5, n0, n1, n2, n3, n4⟩ := HG.out w9 (fun q _ hq => hb9.block q hq)
        have hz9 := hb9.size
        have HB9 : Hid (Below V.heap.size V w9) := hb9
        clear hb9
        by_cases hik : pre.length = k
        · have hik' : ((pre.length : Int) == (k : Int)) = true := by simp; omega
          have HIK : Hid (pre.length = k) := hik
          clear hik
          gi_wp2_with fail
          refine ⟨trivial, (CallsIn.inRound l (callsIn_wide.2 (HGX.out w9 ((HH.out.2.2.1 (by have := HIK.out; omega)).trans (HB9.out.mono (by omega)))))).mono ?_⟩
          rintro e w10 ⟨rfl, hb10⟩
          have hz10 := hb10.size
          have HU : Hid (∀ q, q < V.heap.size → w10.heap[q]? = V.heap[q]?) := fun q hq => (hb10.block q (by omega)).trans (HB9.out.block q hq)
          have HBW : Hid (Below w.heap.size w w10) := HH.out.2.2.2.2.trans ((HB9.out.mono (by omega)).trans (hb10.mono (by omega)))
          clear cw ci fi ck x0 x1 x2 x3 x4 e0 e1 e2 e3 e4 e5 n0 n1 n2 n3 n4 hb10
          obtain ⟨cw, ci, fi, ck, x0, x1, x2, x3, x4, e0, e1, e2, e3, e4, e5, n0, n1, n2, n3, n4⟩ := HG.out w10 (fun q _ hq => HU.out q hq)
          gi_wp2_with fail
          have HJ0 : Hid (ClRel gx cur.size w.heap.size w w10 w10) := by
            obtain ⟨cur', hc1, hc2⟩ := HH.out.2.2.2.1
            exact ⟨rfl, fun _ _ => rfl, ⟨cur', (HU.out gx (by omega)).trans hc1, hc2⟩, HBW.out⟩
          clear cw ci fi ck x0 x1 x2 x3 x4 e0 e1 e2 e3 e4 e5 n0 n1 n2 n3 n4
          have hkl3 : X.kids.length ≤ 3000 := by
            have h7 := MT.ord_length X 1
            have h8 := MT.size_eq X
            have h9 := MT.length_le_sizeL X.kids
            omega
          gi_loopg [19] X.kids.length (fun gk i wr => ∃ j : Nat, j ≤ X.kids.length ∧ gk = X.kids.length - j ∧ i = .int .i64 (j : Int) ∧ Hid (ClRel gx cur.size w.heap.size w w10 wr))
          case atStart => exact ⟨0, Nat.zero_le _, rfl, rfl, HJ0⟩
          case round =>
            obtain ⟨j, hj, hgk, rfl, HR9⟩ := hrel
            obtain ⟨cur', hc1, hc2⟩ := HR9.out.row
            have hzr := HR9.out.size
            have hX := HG.out wr (fun q hq hq' => (HR9.out.same q hq).trans (HU.out q hq'))
            have x4 := hX.x4
            by_cases hjl : j < X.kids.length
            · have hcc : ∀ o, o < 5 → ∃ v, wr.cell? ⟨gx, j * 5 + o, none⟩ = some v := fun o ho => by
                have hlt : j * 5 + o < cur'.size := by omega
                exact ⟨cur'[j * 5 + o], by simp [World.cell?, hc1, hlt]⟩
              have hff : ∀ o, wr.frozen? ⟨gx, o, none⟩ = false := fun o => by simp [World.frozen?, hc1]
              obtain ⟨v0, a0⟩ := hcc 0 (by omega)
              obtain ⟨v1, a1⟩ := hcc 1 (by omega)
              obtain ⟨v2, a2⟩ := hcc 2 (by omega)
              obtain ⟨v3, a3⟩ := hcc 3 (by omega)
              obtain ⟨v4, a4⟩ := hcc 4 (by omega)
              have a0' : wr.cell? ⟨gx, j * 5, none⟩ = some v0 := a0
              have b0 := hff (j * 5)
              have b1 := hff (j * 5 + 1)
              have b2 := hff (j * 5 + 2)
              have b3 := hff (j * 5 + 3)
              have b4 := hff (j * 5 + 4)
              clear a0 hcc hff hX
              have HC1 : Hid (wr.heap[gx]? = some (.cells cur' 24 (0, 0))) := hc1
              clear hc1
              gi_wp2
              gi_roundg (X.kids.length - (j + 1))
              case measure => omega
              case rel =>
                refine ⟨j + 1, hjl, rfl, by simp, ⟨?_, ?_, ?_, ?_⟩⟩
                · exact (set5W_size _ _ _ _ _ _ _ _).trans hzr
                · exact fun q hq => (set5W_block _ _ _ _ _ _ _ _ q hq).trans (HR9.out.same q hq)
                · exact ⟨_, heap_set (heap_set (heap_set (heap_set (heap_set HC1.out (j * 5) _) (j * 5 + 1) _) (j * 5 + 2) _) (j * 5 + 3) _) (j * 5 + 4) _, by simp [hc2]⟩
                · exact set5W_below HR9.out.below _ _ (by omega) _ _ _ _ _
            · obtain ⟨_, ci, fi, _⟩ := hX
              gi_wp2
              refine HFIN.out _ wr (by omega) (fun q hq hq' => (HR9.out.same q hq).trans (HU.out q hq')) HR9.out.below HR9.out.row (fun hp => by have := HIK.out; omega)
        · have hik' : ((pre.length : Int) == (k : Int)) = false := by simp; omega
          gi_wp2
          refine HFIN.out _ w9 hz9 (fun q _ hq => HB9.out.block q hq) (HH.out.2.2.2.2.trans (HB9.out.mono (by omega))) ?_ (fun hp => (HH.out.2.2.1 (by omega)).trans (HB9.out.mono (by omega)))
          obtain ⟨cur', hc1, hc2⟩ := HH.out.2.2.2.1
          exact ⟨cur', (HB9.out.block gx (by omega)).trans hc1, hc2⟩
      gi_region_with_o (refine ⟨trivial, (CallsIn.inRound l (callsIn_wide.2 (alikeLaw_any _ _ _ _ _))).mono ?_⟩; rintro e w9 ⟨rfl, hb9⟩)
      all_goals exact HC.out w9 ⟨hb9.os, hb9.tape, hb9.output, hb9.size, hb9.block⟩
    case done =>
      rintro D W hD ⟨h1, h2, h3, h4, h5⟩ hK
      have hlo : ((MT.ord 1 X).take 1000000).length = t.size := by rw [List.length_take]; omega
      rw [hlo] at h1
      have ci := h1.cell
      obtain ⟨⟨_, _, _, _, _, kr0, kf0⟩, _, cw0⟩ := HFZ.out Wf hbF
      have cw : W.cell? ⟨w5.heap.size, 0, none⟩ = some (.slice p5 t.size c5) := (h2.cell (b := w5.heap.size) (by omega) (by omega)).trans cw0
      have kr : W.cell? ⟨w.heap.size + 1, 0, none⟩ = some (.bool false) := (h2.cell (b := w.heap.size + 1) (by omega) (by omega)).trans kr0
      have kf : W.frozen? ⟨w.heap.size + 1, 0, none⟩ = false := (h2.frozen (b := w.heap.size + 1) (by omega) (by omega)).trans kf0
      clear kr0 kf0 cw0 h1 h2 h3 h4 hseq hlo hiF hkF hXF hinF
      gi_wp2
      have hK2 : (W.setCell ⟨w.heap.size + 1, 0, none⟩ (.bool true)).heap[D]? = some (.deferred (some [])) := (Below.heap_setCell W ⟨w.heap.size + 1, 0, none⟩ _ D (by show D ≠ w.heap.size + 1; omega)).trans hK
      have hB9 : Below w.heap.size w (W.setCell ⟨w.heap.size + 1, 0, none⟩ (.bool true)) := h5.setCell (p := ⟨w.heap.size + 1, 0, none⟩) (by simp) _
      refine ⟨by simp, .inl ⟨_, _, rfl, run_takeDeferred hK2, ?_⟩⟩
      refine ⟨_, results5 _ _ (w.heap.size + 1) true rfl ?_, rfl, hB9.trans (belowK_b (w := w) (Nat.le_refl _) _ D _ _ (by omega) hK2 rfl rfl)⟩
      have hne9 : w.heap.size + 1 ≠ D := by omega
      rw [World.cell?_of_block (a := ⟨w.heap.size + 1, 0, none⟩) (World.putObj_heap_other hne9)]
      exact World.cell?_setCell_same' _ _ _ (by rw [kr]; rfl)
    case stop =>
      rintro D W hD h hK
      exact h.elim
end Go.Proofs.YthbnegggohegkaaGreatDoor
