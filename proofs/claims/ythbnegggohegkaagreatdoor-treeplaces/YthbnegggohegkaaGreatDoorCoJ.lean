/-
  The walk of the iterator of tree.nodes, at every tree.
  The walks of tree.nodes and tree.Count, at every tree.
-/
import Derived.Test.YthbnegggohegkaaGreatDoorAkJ
import Derived.Test.YthbnegggohegkaaGreatDoorRf
import Derived.Test.YthbnegggohegkaaGreatDoorSmJ
import Derived.Shelf.Abstract
import Derived.Shelf.RegionOpen
import Derived.WalkKit
import Derived.OwnWalkIn
import Derived.TacticsInMore
import Derived.LoopNIn
import Derived.LoopIn
import Derived.Sort.LoopGhostIn
namespace Go.Proofs.YthbnegggohegkaaGreatDoor
open Go.RowKit Go.Shelf

attribute [local go_sem] Oper.semAt_some

/-- What holds between two rounds of nodes. -/
structure NoInv (ord : List (Nat × MT)) (B Bt Bm m : Nat) (pre : List (Nat × MT)) (fs : List R1) (v : Value) (wr : World) : Prop where
  own : wr.ownsRow (Bt + 1) 22 1 v fs.length (fs.map R1.cell)
  some_ : ∃ g cap, v = .slice (some ⟨g, 0, none⟩) fs.length cap
  rows : ∀ f ∈ fs, f.In B Bt wr
  few : fs.length ≤ pre.length + 1
  le : pre.length ≤ m
  all : ord = pre ++ rem fs
  big : Bt + 2 ≤ wr.heap.size
  box : wr.cell? ⟨Bm, 0, none⟩ = some (.int .i64 m)

theorem own_same {w w' : World} {base e size n g cap : Nat} {xs : List Value} (h : w.ownsRow base e size (.slice (some ⟨g, 0, none⟩) n cap) n xs) (hb : w'.heap[g]? = w.heap[g]?) : w'.ownsRow base e size (.slice (some ⟨g, 0, none⟩) n cap) n xs := by
  refine ⟨h.1, ?_⟩
  rcases h.2 with hn | ⟨g', cap', cur, hv, hg, hgg, rest⟩
  · exact .inl hn
  · cases hv; exact .inr ⟨g, cap, cur, rfl, hg, hb.trans hgg, rest⟩

theorem info22 : (Tryz.prog.info? 22).map (fun i => (i.zero, i.size, i.bytes)) = some (some (.slice none 0 0), 1, 24) := by kernel_rfl

theorem one_new (w : World) (a : Value) (t : TypeId) (n : Nat) (hn : n = w.heap.size) : ∀ j u, [a][j]? = some u → (w.alloc (.cells #[a] t)).cell? ((⟨n, 0, none⟩ : Addr).add j) = some u := by
  subst hn
  intro j u hj
  match j, hj with
  | 0, hj => simp at hj; subst hj; simp [Addr.add]
  | j + 1, hj => simp at hj

theorem grownBy_set (w : World) (g o : Nat) (v : Value) : w.grownBy (w.setCell ⟨g, o, none⟩ v) (some g) :=
  ⟨rfl, rfl, rfl, by simp, fun k _ hk => Below.heap_setCell w ⟨g, o, none⟩ v k (fun e => hk (by rw [e]))⟩

set_option maxRecDepth 100000 in
set_option maxHeartbeats 2000000 in
theorem nodes1_in (n : Nat) (hn : 1 ≤ n) (t : MT) (m : Nat) (hm : m ≤ 1000001) (Bn Bm B : Nat) (w : World) (hBn : BoxAt w Bn t) (hBm : w.cell? ⟨Bm, 0, none⟩ = some (.int .i64 m)) (ht : t.In B w) (hB : B ≤ w.heap.size) (hn' : Bn < w.heap.size) (hm' : Bm < w.heap.size) :
    SeqAll Fence.wide n Tryz.prog 59 #[.pointer (some ⟨Bn, 0, none⟩), .pointer (some ⟨Bm, 0, none⟩)] (fun x : Nat × MT => #[.int .i64 x.1, nodeV x.2]) (fun k => k < B ∨ k = Bn ∨ k = Bm) ((MT.ord 1 t).take m) w := by
  intro l J W X hW hX hJ hY h0
  have hBn' := hBn.below hn' hW
  have hBm2 : W.cell? ⟨Bm, 0, none⟩ = some (.int .i64 m) := (hW.cell (p := ⟨Bm, 0, none⟩) hm').trans hBm
  have ht' := MT.In.below (hW.mono hB) t ht
  have hz := hW.size
  obtain ⟨k0, k1, k2, k3, k4⟩ := hBn'
  refine callsIn_of_wp Tryz.func59 rfl trivial ?_ rfl
  simp only [Tryz.ntmps59, List.size_toArray, List.length_cons, List.length_nil, Nat.reduceAdd, Nat.reduceSub, Array.replicate_succ, Array.replicate_zero, List.push_toArray, List.append_toArray, List.nil_append, List.cons_append]
  gi_wp2
  clear k0 k1 k2 k3 k4
  gi_loopg [4, 5] (2 * t.size + 1) (fun gk v s wr => ∃ (pre : List (Nat × MT)) (fs : List R1), gk = 2 * sizes fs + fs.length ∧ s = .int .i64 pre.length ∧ NoInv (MT.ord 1 t) B W.heap.size Bm m pre fs v wr ∧ J pre wr)
  case atStart =>
    have hb5 : ∀ k o, k < W.heap.size → ((W.alloc (nodeO t)).alloc (.cells #[.slice (some ⟨W.heap.size, 0, none⟩) 1 1] 22)).cell? ⟨k, o, none⟩ = W.cell? ⟨k, o, none⟩ := fun k o hk =>
      (World.cell?_alloc_lt _ _ _ (by show k < _; simp; omega)).trans (World.cell?_alloc_lt _ _ _ hk)
    have hc2 : MT.CellsAt ((W.alloc (nodeO t)).alloc (.cells #[.slice (some ⟨W.heap.size, 0, none⟩) 1 1] 22)) W.heap.size 0 t := by
      have h1 := (BoxAt.new W t).below (B := W.heap.size + 1) (by omega) ((Below.refl _ _).alloc (by simp) (.cells #[.slice (some ⟨W.heap.size, 0, none⟩) 1 1] 22))
      exact ⟨h1.k0, h1.k1, h1.k2, h1.k3, h1.k4⟩
    refine ⟨[], [R1.mk (some ⟨W.heap.size, 0, none⟩) 1 [t]], by simp [sizes, MT.sizeL], rfl, ⟨?_, ⟨_, _, rfl⟩, ?_, by simp, by simp, ?_, by simp, ?_⟩, ?_⟩
    · refine ⟨rfl, .inr ⟨W.heap.size + 1, 1, #[.slice (some ⟨W.heap.size, 0, none⟩) 1 1], rfl, Nat.le_refl _, ?_, Nat.le_refl _, by unfold maxLen; omega, rfl, rfl⟩⟩
      have := heap_alloc_new (W.alloc (nodeO t)) (.cells #[.slice (some ⟨W.heap.size, 0, none⟩) 1 1] 22)
      rwa [World.size_alloc] at this
    · intro f hf
      simp only [List.mem_cons, List.not_mem_nil, or_false] at hf
      subst hf
      refine ⟨Nat.le_refl _, by unfold maxLen; simp only; omega, .inr ⟨W.heap.size, 0, rfl, .inr rfl, ?_⟩⟩
      rw [MT.InL]
      exact ⟨hc2, MT.In.keep (fun k o hk => hb5 k o (by omega)) t ht', by rw [MT.InL]; trivial⟩
    · simp [rem, remT, MT.ordL_cons, MT.ordL_nil]
    · exact (hb5 Bm 0 (by omega)).trans hBm2
    · exact hJ _ _ _ none (hJ _ _ _ none h0 (World.grownBy_alloc _ _ _) (fun r e => by cases e)) (World.grownBy_alloc _ _ _) (fun r e => by cases e)
  case round =>
    obtain ⟨pre, fs, hgk, rfl, hI, hJp⟩ := hrel
    have hbm := hI.box
    rcases two_cases fs with rfl | ⟨gs, f, rfl⟩
    · obtain ⟨g, cap, rfl⟩ := hI.some_
      gi_wp2
      go_end0
      refine ⟨⟨_, rfl⟩, ?_⟩
      rw [hI.all, rem_nil, List.append_nil, List.take_of_length_le hI.le]; exact hJp
    · obtain ⟨g, cap, rfl⟩ := hI.some_
      have hown := hI.own
      have hfin := hI.rows f (by simp)
      have hln : (gs ++ [f]).length = gs.length + 1 := by simp
      rw [hln] at hown
      rw [hln]
      obtain ⟨t0, f0⟩ := own_cell hown gs.length f.cell (by simp)
      obtain ⟨hcapl, hgl, hgb⟩ : gs.length + 1 ≤ cap ∧ g < wr.heap.size ∧ W.heap.size + 1 ≤ g := by
        rcases hown.2 with ⟨h0, _⟩ | ⟨g', cap', cur, hv, hgb, hg, hn, _⟩
        · cases h0
        · cases hv; exact ⟨hn, (Array.getElem?_eq_some_iff.1 hg).1, hgb⟩
      have hfew : gs.length ≤ 1000001 := by have := hI.few; have := hI.le; rw [hln] at *; omega
      have hbig := hI.big
      have HI : Hid (NoInv (MT.ord 1 t) B W.heap.size Bm m pre (gs ++ [f]) (.slice (some ⟨g, 0, none⟩) (gs ++ [f]).length cap) wr) := hI
      have HG : Hid (gk = 2 * sizes (gs ++ [f]) + (gs ++ [f]).length) := hgk
      have HW : Hid (wr.ownsRow (W.heap.size + 1) 22 1 (.slice (some ⟨g, 0, none⟩) (gs.length + 1) cap) (gs.length + 1) ((gs ++ [f]).map R1.cell)) := hown
      have hle := hI.le
      clear hI hgk hown hln
      obtain ⟨p, c, xs⟩ := f
      simp only [R1.cell] at t0
      by_cases hlt : pre.length < m
      · cases xs with
        | nil =>
          gi_wp2
          gi_roundg (2 * sizes gs + gs.length)
          case measure => have := HG.out; simp [sizes_append, sizes] at this; omega
          case rel =>
            have hI := HI.out
            refine ⟨pre, gs, rfl, rfl, ⟨?_, ⟨g, cap, rfl⟩, fun f hf => hI.rows f (by simp [hf]), by have := hI.few; simp at this; omega, hle, ?_, hbig, hbm⟩, hJp⟩
            · have := own_cut HW.out gs.length (by omega)
              simpa using this
            · rw [hI.all, rem_snoc]; simp [MT.ordL_nil]
        | cons x xs =>
          obtain ⟨hl1, hm1, hr1⟩ := hfin
          obtain ⟨b1, o1, hp, hb1, hL1⟩ := hr1.resolve_left (by simp)
          simp only at hp hl1 hm1
          subst hp
          rw [MT.InL] at hL1
          obtain ⟨⟨c0, c1, c2, c3, c4⟩, hx, hLx⟩ := hL1
          clear hr1
          simp only [List.length_cons] at t0 hl1
          unfold maxLen at hm1
          have hb1' : b1 < wr.heap.size := by omega
          have hord : MT.ord 1 t = pre ++ ((gs.length + 1, x) :: (MT.ordL (gs.length + 1 + 1) x.kids ++ (MT.ordL (gs.length + 1) xs ++ rem gs))) := by
            rw [HI.out.all, rem_snoc, MT.ordL_cons, MT.ord_eq]; simp
          have hpre : pre ++ [(gs.length + 1, x)] <+: (MT.ord 1 t).take m := by
            rw [List.prefix_take_iff]
            refine ⟨⟨MT.ordL (gs.length + 1 + 1) x.kids ++ (MT.ordL (gs.length + 1) xs ++ rem gs), ?_⟩, by simp; omega⟩
            rw [hord]; simp
          have HO : Hid (MT.ord 1 t = pre ++ ((gs.length + 1, x) :: (MT.ordL (gs.length + 1 + 1) x.kids ++ (MT.ordL (gs.length + 1) xs ++ rem gs)))) := hord
          obtain ⟨fn, tmps, assign, body, hy, hR⟩ := hY pre (gs.length + 1, x) (wr.alloc (nodeO x)) hpre (hJ _ _ _ none hJp (World.grownBy_alloc _ _ _) (fun r e => by cases e))
          clear hord hpre
          rw [show (((gs.length + 1, x) : Nat × MT).fst : Int) = (gs.length : Int) + 1 by simp] at hy
          dsimp only [nodeV, nodeO] at hy
          gi_wp2
          refine hR.mono ?_
          rintro e W3 ⟨rfl, hJ3, hk3⟩
          clear hy hR
          have hz3 := hk3.size
          simp only [World.size_alloc] at hz3
          have hXn : ∀ k, k < B ∨ k = W.heap.size ∨ k = Bm ∨ W.heap.size ≤ k → ¬ X k := by
            intro k hk hx
            obtain ⟨h1, h2⟩ := hX k hx
            rcases hk with hk | hk | hk | hk
            · exact h2 (.inl hk)
            · omega
            · exact h2 (.inr (.inr hk))
            · omega
          have t3 : W3.cell? ⟨g, gs.length, none⟩ = some (.slice (some ⟨b1, o1, none⟩) (xs.length + 1) c) :=
            (hk3.cell (by simp; omega) (hXn g (by omega))).trans ((World.cell?_alloc_lt _ _ _ (by show g < _; omega)).trans t0)
          have f3 : W3.frozen? ⟨g, gs.length, none⟩ = false :=
            (hk3.frozen (by simp; omega) (hXn g (by omega))).trans ((World.frozen?_of_block (a := ⟨g, gs.length, none⟩) (Below.heap_alloc wr _ g hgl)).trans f0)
          have n3 : W3.cell? ⟨wr.heap.size, 4, none⟩ = some (.slice x.ptr x.kids.length x.cap) :=
            (hk3.cell (by simp) (hXn _ (by omega))).trans (BoxAt.new wr x).k4
          obtain ⟨p1, hp1⟩ : ∃ p1, (if c = 1 then some (⟨b1, o1, none⟩ : Addr) else some ⟨b1, o1 + 5, none⟩) = p1 := ⟨_, rfl⟩
          have HP1 : Hid (xs = [] ∨ p1 = some ⟨b1, o1 + 5, none⟩) := by
            cases xs with
            | nil => exact .inl rfl
            | cons x' xs' => exact .inr (by rw [← hp1, if_neg (by simp at hl1; omega)])
          have hblk3 : ∀ k, k < wr.heap.size → ¬ X k → W3.heap[k]? = wr.heap[k]? := fun k hk hx => (hk3.same k (by simp; omega) hx).trans (Below.heap_alloc wr _ k hk)
          have hown4 : (W3.setCell ⟨g, gs.length, none⟩ (.slice p1 xs.length (c - 1))).ownsRow (W.heap.size + 1) 22 1 (.slice (some ⟨g, 0, none⟩) (gs.length + 1) cap) (gs.length + 1) ((gs ++ [R1.mk p1 (c - 1) xs]).map R1.cell) := by
            have h1 := own_set (own_same HW.out (hblk3 g hgl (hXn g (by omega)))) gs.length (.slice p1 xs.length (c - 1))
            rw [List.map_append, List.set_append_right _ _ (by simp), List.length_map, Nat.sub_self] at h1
            rw [List.map_append]
            exact h1
          obtain ⟨i0, hi, hz0, hz1, hz2⟩ := info_parts info22
          have HB3 : Hid (∀ k, k < wr.heap.size → ¬ X k → W3.heap[k]? = wr.heap[k]?) := hblk3
          have HJ3 : Hid (J (pre ++ [(gs.length + 1, x)]) W3) := hJ3
          clear hblk3 hJ3 hk3
          gi_wp2_with (gi_at_builtin; refine wpListIn_append_own _ rfl _ _ 111 rfl (W.heap.size + 1) 22 i0 (.slice none 0 0) 1 24 Tryz.underlying111 hi hz0 hz1 hz2 rfl (by decide) _ _ _ rfl (hown4.alloc _) ⟨W3.heap.size, 0, none⟩ 1 1 [.slice x.ptr x.kids.length x.cap] rfl rfl ?_ (by simp [Value.oneCell']) (by unfold maxLen; omega) (by omega) (by simp; omega) ?_; exact one_new _ _ _ _ (by simp); intro v' w6 hown6 hgr6 _)
          have hsx := MT.size_eq x
          have hblk : ∀ k, k < wr.heap.size → k ≠ g → ¬ X k → w6.heap[k]? = wr.heap[k]? := fun k hk hkg hx =>
            (((hgr6.block k (by simp; omega) (fun e => by cases e; exact hkg rfl)).trans (Below.heap_alloc _ _ k (by simp; omega))).trans (Below.heap_setCell W3 ⟨g, gs.length, none⟩ _ k hkg)).trans (HB3.out k hk hx)
          have hcl : ∀ k o, k < B ∨ k = W.heap.size → w6.cell? ⟨k, o, none⟩ = wr.cell? ⟨k, o, none⟩ := fun k o hk =>
            World.cell?_of_block (a := ⟨k, o, none⟩) (hblk k (by omega) (by omega) (hXn k (by omega)))
          have hz6 := hgr6.size
          simp only [World.size_alloc, World.size_setCell] at hz6
          have hJ6 : J (pre ++ [(gs.length + 1, x)]) w6 :=
            hJ _ _ _ _ (hJ _ _ _ none (hJ _ _ _ _ HJ3.out (grownBy_set W3 g gs.length _) (fun r e => by have e' : some g = some r := e; cases e'; omega)) (World.grownBy_alloc _ _ _) (fun r e => by cases e)) hgr6 (fun r e => by have e' : some g = some r := e; cases e'; omega)
          gi_roundg (2 * sizes (gs ++ [R1.mk p1 (c - 1) xs, R1.mk x.ptr x.cap x.kids]) + (gs ++ [R1.mk p1 (c - 1) xs, R1.mk x.ptr x.cap x.kids]).length)
          case measure => have := HG.out; simp [sizes_append, sizes, MT.sizeL] at this ⊢; omega
          case rel =>
            have hI := HI.out
            refine ⟨pre ++ [(gs.length + 1, x)], _, rfl, by simp, ⟨?_, ?_, ?_, ?_, ?_, ?_, ?_, ?_⟩, hJ6⟩
            · have e1 : (gs ++ [R1.mk p1 (c - 1) xs, R1.mk x.ptr x.cap x.kids]).map R1.cell = (gs ++ [R1.mk p1 (c - 1) xs]).map R1.cell ++ [.slice x.ptr x.kids.length x.cap] := by simp [R1.cell]
              rw [e1, show (gs ++ [R1.mk p1 (c - 1) xs, R1.mk x.ptr x.cap x.kids]).length = gs.length + 1 + 1 by simp]
              exact hown6
            · rw [show (gs ++ [R1.mk p1 (c - 1) xs, R1.mk x.ptr x.cap x.kids]).length = gs.length + 1 + 1 by simp]
              rcases hown6.2 with ⟨h0, h1⟩ | ⟨g', cap', cur, hv, _⟩
              · omega
              · exact ⟨g', cap', hv⟩
            · intro f hf
              simp only [List.mem_append, List.mem_cons, List.not_mem_nil, or_false] at hf
              rcases hf with hf | rfl | rfl
              · exact (hI.rows f (by simp [hf])).keep hcl
              · refine ⟨by simp only; omega, by unfold maxLen; simp only; omega, ?_⟩
                exact HP1.out.imp id fun h => ⟨b1, o1 + 5, h, hb1, MT.InL.keep (fun k o hk => hcl k o (.inl hk)) b1 (o1 + 5) (fun o => hcl b1 o hb1) xs hLx⟩
              · have h1 := MT.In.keep (fun k o hk => hcl k o (.inl hk)) x hx
                exact ⟨h1.len_le, h1.cap_le, h1.kidsL.imp id fun ⟨b, o, hp, hlt, hl⟩ => ⟨b, o, hp, .inl hlt, hl⟩⟩
            · have := hI.few; simp at this ⊢; omega
            · simp; omega
            · rw [HO.out, show gs ++ [R1.mk p1 (c - 1) xs, R1.mk x.ptr x.cap x.kids] = (gs ++ [R1.mk p1 (c - 1) xs]) ++ [R1.mk x.ptr x.cap x.kids] by simp, rem_snoc, rem_snoc]; simp
            · omega
            · exact (World.cell?_of_block (a := ⟨Bm, 0, none⟩) (hblk Bm (by omega) (by omega) (hXn Bm (by omega)))).trans hbm
      · gi_wp2
        go_end0
        refine ⟨⟨_, rfl⟩, ?_⟩
        rw [HI.out.all, List.take_left' (by omega)]; exact hJp
end Go.Proofs.YthbnegggohegkaaGreatDoor
namespace Go.Proofs.YthbnegggohegkaaGreatDoor
open Go.RowKit Go.Shelf

attribute [local go_sem] Oper.semAt_some

set_option maxHeartbeats 1000000 in
theorem nodes_any (t : MT) (m : Int) (w : World) :
    Calls Tryz.prog 36 #[nodeV t, .int .i64 m] w fun e w' => e = .returned (.func (.func 59) #[] #[.pointer (some ⟨w.heap.size, 0, none⟩), .pointer (some ⟨w.heap.size + 1, 0, none⟩)]) ∧ w' = (w.alloc (nodeO t)).alloc (.cells #[.int .i64 m] 3) := by
  go_enter Tryz.func36, Tryz.ntmps36
  go_wp2
  go_ret
  exact ⟨rfl, rfl⟩

set_option maxRecDepth 100000 in
set_option maxHeartbeats 2000000 in
theorem count_any (t : MT) (w : World) (ht : t.In w.heap.size w) :
    Calls Tryz.prog 18 #[nodeV t] w fun e w' => ∃ r : Int, e = .returned (.int .i64 r) ∧ 0 ≤ r ∧ r ≤ 1000001 ∧ Hid (r = min (t.size : Int) 1000001) ∧ Below w.heap.size w w' := by
  refine (callsIn_wide (n := 5)).1 ?_
  refine callsIn_of_wp_marks Tryz.func18 rfl trivial ?_ rfl
  simp only [Tryz.ntmps18, List.size_toArray, List.length_cons, List.length_nil, Nat.reduceAdd, Nat.reduceSub, Array.replicate_succ, Array.replicate_zero, List.push_toArray, List.append_toArray, List.nil_append, List.cons_append]
  gi_wp2_with fail
  refine ⟨trivial, ?_⟩
  refine (callsIn_wide.2 (nodes_any t _ _)).mono ?_
  rintro e w' ⟨rfl, rfl⟩
  gi_wp2_with fail
  have hB4 : Below w.heap.size w ((((w.alloc (nodeO t)).alloc (.cells #[.int .i64 0] 3)).alloc (nodeO t)).alloc (.cells #[.int .i64 1000001] 3)) := ((((Below.refl _ _).alloc (Nat.le_refl _) _).alloc (by simp) _).alloc (by simp; omega) _).alloc (by simp; omega) _
  have hn1 : BoxAt ((((w.alloc (nodeO t)).alloc (.cells #[.int .i64 0] 3)).alloc (nodeO t)).alloc (.cells #[.int .i64 1000001] 3)) (w.heap.size + 1 + 1) t := by
    have := (BoxAt.new ((w.alloc (nodeO t)).alloc (.cells #[.int .i64 0] 3)) t).below (B := w.heap.size + 3) (by simp) ((Below.refl _ _).alloc (by simp) (.cells #[.int .i64 1000001] 3))
    simpa using this
  have hm1 : ((((w.alloc (nodeO t)).alloc (.cells #[.int .i64 0] 3)).alloc (nodeO t)).alloc (.cells #[.int .i64 1000001] 3)).cell? ⟨w.heap.size + 1 + 1 + 1, 0, none⟩ = some (.int .i64 ((1000001 : Nat) : Int)) := by
    have := World.cell?_alloc_new (((w.alloc (nodeO t)).alloc (.cells #[.int .i64 0] 3)).alloc (nodeO t)) #[.int .i64 1000001] 3 0
    simp only [World.size_alloc] at this
    rw [this]; rfl
  have hc1 : ((((w.alloc (nodeO t)).alloc (.cells #[.int .i64 0] 3)).alloc (nodeO t)).alloc (.cells #[.int .i64 1000001] 3)).cell? ⟨w.heap.size + 1, 0, none⟩ = some (.int .i64 0) ∧ ((((w.alloc (nodeO t)).alloc (.cells #[.int .i64 0] 3)).alloc (nodeO t)).alloc (.cells #[.int .i64 1000001] 3)).frozen? ⟨w.heap.size + 1, 0, none⟩ = false := by
    have bx := ((Boxed.new (w.alloc (nodeO t)) 3 (.int .i64 0)).alloc (nodeO t)).alloc (.cells #[.int .i64 1000001] 3)
    rw [World.size_alloc] at bx
    exact ⟨bx.cell, bx.frozen⟩
  have hz4 : ((((w.alloc (nodeO t)).alloc (.cells #[.int .i64 0] 3)).alloc (nodeO t)).alloc (.cells #[.int .i64 1000001] 3)).heap.size = w.heap.size + 4 := by simp
  have ht4 := MT.In.below hB4 t ht
  have HW : ∃ W4, W4 = ((((w.alloc (nodeO t)).alloc (.cells #[.int .i64 0] 3)).alloc (nodeO t)).alloc (.cells #[.int .i64 1000001] 3)) := ⟨_, rfl⟩
  obtain ⟨W4, hW4⟩ := HW
  rw [← hW4] at hB4 hn1 hm1 hc1 hz4 ht4 ⊢
  clear hW4
  refine wpIn_rangeFunc_all rfl (by omega) (gf := 59) (lb := #[.pointer (some ⟨w.heap.size + 1 + 1, 0, none⟩), .pointer (some ⟨w.heap.size + 1 + 1 + 1, 0, none⟩)]) rfl trivial (enters_of Tryz.func59 (by kernel_rfl) rfl)
    (nodes1_in 4 (by omega) t 1000001 (by omega) (w.heap.size + 1 + 1) (w.heap.size + 1 + 1 + 1) w.heap.size W4 hn1 hm1 ht4 (by omega) (by omega) (by omega)) (fun _ => rfl)
    (by rintro k (h | h | h) <;> omega) (fun k => k = w.heap.size + 1) (by rintro k rfl; exact ⟨by omega, by omega⟩)
    (fun pre W => W.cell? ⟨w.heap.size + 1, 0, none⟩ = some (.int .i64 (pre.length : Int)) ∧ W.frozen? ⟨w.heap.size + 1, 0, none⟩ = false ∧ Below w.heap.size w W)
    ?ab ⟨hc1.1, hc1.2, hB4⟩ (fun x => { tmps := #[nodeV t, .pointer (some ⟨w.heap.size, 0, none⟩), .int .i64 0, .pointer (some ⟨w.heap.size + 1, 0, none⟩), nodeV t, .func (.func 59) #[] #[.pointer (some ⟨w.heap.size + 1 + 1, 0, none⟩), .pointer (some ⟨w.heap.size + 1 + 1 + 1, 0, none⟩)], .int .i64 x.1, nodeV x.2, undef, undef, undef], defers := [] }) ?assign ?body ?done
  case ab =>
    rintro s A A' row ⟨h1, h2, h3⟩ hg hr
    have hlt := World.block_lt_of_cell? A ⟨w.heap.size + 1, 0, none⟩ h1
    have hb := hg.block (w.heap.size + 1) hlt (fun e => by have := hr _ e.symm; omega)
    exact ⟨(World.cell?_of_block (a := ⟨w.heap.size + 1, 0, none⟩) hb).trans h1, (World.frozen?_of_block (a := ⟨w.heap.size + 1, 0, none⟩) hb).trans h2, Below.grown h3 hg h3.size (fun j e => by have := hr j e; omega)⟩
  case assign =>
    intro l x W K hK
    gi_wp2
    refine cast (congrArg (fun z => K ⟨z, []⟩ W) ?_) hK
    simp
  case body =>
    rintro l pre x W hpre ⟨h1, h2, h3⟩
    have hlen : pre.length < 1000001 := by
      have := hpre.length_le
      simp at this; omega
    gi_wp2
    refine ⟨KeepsX.setCell W _ _ _ rfl, ?_, ?_, h3.setCell (p := ⟨w.heap.size + 1, 0, none⟩) (by simp) _⟩
    · rw [World.cell?_setCell_same' _ _ _ (by rw [h1]; rfl)]; simp
    · rw [World.frozen?_setCell]; exact h2
  case done =>
    rintro D W hD ⟨h1, h2, h3⟩ hK
    gi_wp2
    refine ⟨by simp, .inl ⟨_, _, rfl, run_takeDeferred hK, ?_⟩⟩
    refine ⟨_, results_tmp rfl _ _ _, _, rfl, ?_, ?_, ?_, h3.trans (belowK_b (w := w) (Nat.le_refl _) W D _ _ (by omega) hK rfl rfl)⟩
    · omega
    · omega
    · show _ = _
      rw [MT.ord_length]; omega
end Go.Proofs.YthbnegggohegkaaGreatDoor
