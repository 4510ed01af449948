/-
  pairs: the pairs of a map in a row.
  The iterator of All.
-/
import Derived.Test.YtflonmlnedkmjaaDoorNdJ
import Derived.Test.YtflonmlnedkmjaaDoorMn
namespace Go.Proofs.YtflonmlnedkmjaaDoor
open Go.RowKit Go.Shelf
attribute [local go_sem] Oper.semAt_some
variable {n : Nat} {w w' : World} {m : Nat} {es A B : List Ent} {e : Ent} {G : KG}
/-- The pairs of entries, one behind the other. -/
def pvals : List Ent → List Value
  | [] => []
  | e :: es => .pointer (some ⟨e.kb, 0, none⟩) :: .pointer (some ⟨e.vb, 0, none⟩) :: pvals es
theorem pvals_append : ∀ (A B : List Ent), pvals (A ++ B) = pvals A ++ pvals B
  | [], _ => rfl
  | _ :: A, B => by simp [pvals, pvals_append A B]
theorem infoPR : (Tryd.prog.info? 60).map (fun i => (i.zero, i.size, i.bytes)) = some (some (.agg #[.pointer none, .pointer none]), 2, 16) := by kernel_rfl
theorem infoPR_parts : ∃ i, Tryd.prog.info? 60 = some i ∧ i.zero = some (.agg #[.pointer none, .pointer none]) ∧ i.size = 2 ∧ i.bytes = 16 := by
  have h := infoPR
  cases hi : Tryd.prog.info? 60 with
  | none => rw [hi] at h; cases h
  | some i => rw [hi] at h; simp at h; exact ⟨i, rfl, h.1, h.2.1, h.2.2⟩
theorem two_new (w : World) (a b : Value) (t : TypeId) (n : Nat) (hn : n = w.heap.size) : ∀ j u, [a, b][j]? = some u → (w.alloc (.cells #[a, b] t)).cell? ((⟨n, 0, none⟩ : Addr).add j) = some u := by
  subst hn
  intro j u hj
  match j, hj with
  | 0, hj => simp at hj; subst hj; simp [Addr.add]
  | 1, hj => simp at hj; subst hj; simp [Addr.add]
  | j + 2, hj => simp at hj
/-- What holds between two rounds of pairs: w: the world that it began with. -/
structure PairI (w : World) (bx : Nat) (es : List Ent) (k : Nat) (v : Value) (W : World) : Prop where
  hbx : w.heap.size < bx
  box : W.heap[bx]? = some (.cells #[v] 79 (0, 0))
  own : W.ownsRow 0 60 2 v k (pvals (es.take k))
  at_ : ∀ g', v.ownBlock = some g' → g' = w.heap.size ∨ bx + 3 ≤ g'
  keep : Below w.heap.size w W
theorem PairI.lt {bx k : Nat} {v : Value} {W : World} (h : PairI w bx es k v W) {g : Nat} (hg : v.ownBlock = some g) : g < W.heap.size := by
  rcases h.own.2 with ⟨q, _⟩ | ⟨g2, cap', cur, hv, _, hgg, _⟩
  · rw [q] at hg; cases hg
  · rw [hv] at hg; cases hg; exact row_ltT hgg
theorem PairI.below {bx k : Nat} {v : Value} {W W' : World} (h : PairI w bx es k v W) (hb : Below W.heap.size W W') : PairI w bx es k v W' :=
  ⟨h.hbx, (hb.block _ (row_ltT h.box)).trans h.box, own_other h.own (fun g' hg' => hb.block g' (h.lt hg')), h.at_, h.keep.trans (hb.mono h.keep.size)⟩
theorem PairI.put {bx k : Nat} {v : Value} {W : World} (h : PairI w bx es k v W) (o : Obj) : PairI w bx es k v (W.putObj (bx + 1 + 1) o) :=
  ⟨h.hbx, (World.putObj_heap_other (by omega)).trans h.box, own_other h.own (fun g' hg' => World.putObj_heap_other (by have := h.hbx; rcases h.at_ g' hg' with q | q <;> omega)), h.at_, ⟨h.keep.os, h.keep.tape, h.keep.output, by simpa using h.keep.size, fun b hb => (World.putObj_heap_other (by have := h.hbx; omega)).trans (h.keep.block b hb)⟩⟩
set_option maxRecDepth 100000 in
set_option maxHeartbeats 4000000 in
theorem pairs_any (hK : KM n w m es G) (hlen : es.length ≤ 1099511627776) :
    Calls Tryd.prog 26 #[.pointer (some ⟨m, 0, none⟩)] w fun r w' => ∃ v, r = .returned v ∧ w'.ownsRow 0 60 2 v es.length (pvals es) ∧ Below w.heap.size w w' ∧ ∀ g, v.ownBlock = some g → w.heap.size ≤ g := by
  have hcm := hK.cell
  have zm := row_ltT hK.map
  have H : Hid (KM n w m es G) := hK
  have HR : Hid (∀ bx k v W, PairI w bx es k v W → RingR m G.rb (es.map Ent.b) G.bh W) := fun bx k v W h => (hK.keep h.keep).ringR
  clear hK
  refine (callsIn_wide (n := 5)).1 ?_
  refine callsIn_of_wp_marks Tryd.func26 rfl trivial ?_ rfl
  simp only [Tryd.ntmps26, List.size_toArray, List.length_cons, List.length_nil, Nat.reduceAdd, Nat.reduceSub, Array.replicate_succ, Array.replicate_zero, List.push_toArray, List.append_toArray, List.nil_append, List.cons_append]
  gi_wp2_with fail
  obtain ⟨i0, hi, hz0', hz1, hz2⟩ := infoPR_parts
  obtain ⟨w1, hrun, hown, hgr⟩ := run_make_own (P := Tryd.prog) w 0 79 60 i0 (.agg #[.pointer none, .pointer none]) 2 Tryd.underlying79 hi hz0' hz1 .i64 .i64 es.length (by rw [hz2]; omega) (by unfold maxLen; omega) (Nat.zero_le _)
  rw [hrun]
  have b1 : Below w.heap.size w w1 := ⟨hgr.os, hgr.tape, hgr.output, hgr.size, fun k hk => hgr.block k hk (fun q => by cases q)⟩
  have hw1 : w.heap.size < w1.heap.size := by
    rcases hown.2 with ⟨q, _⟩ | ⟨g2, cap', cur, hv, _, hgg, _⟩
    · cases q
    · cases hv; exact row_ltT hgg
  obtain ⟨bx, hbx⟩ : ∃ bx, bx = w1.heap.size := ⟨_, rfl⟩
  clear hrun hgr
  gi_wp2_with fail
  obtain ⟨W0, hW0⟩ : ∃ W0, W0 = w1.alloc (.cells #[.slice (some ⟨w.heap.size, 0, none⟩) 0 es.length] 79) := ⟨_, rfl⟩
  have hz0 : W0.heap.size = bx + 1 := by rw [hW0, hbx]; simp
  have hb0 : Below w1.heap.size w1 W0 := by rw [hW0]; exact below1 _ _
  have hx0 : W0.heap[bx]? = some (.cells #[.slice (some ⟨w.heap.size, 0, none⟩) 0 es.length] 79 (0, 0)) := by rw [hW0, hbx]; exact heap_alloc_new _ _
  rw [← hW0]
  rw [← hbx] at hw1 hb0 ⊢
  clear hW0 hbx
  refine wpIn_rangeFunc_R rfl (by omega) (gf := 40) (pre := #[.pointer (some ⟨m, 0, none⟩)]) (lb := #[]) rfl trivial (enters_of Tryd.func40 (by kernel_rfl) rfl)
    (entries_seq 4 (by omega) m G.rb (es.map Ent.b) G.bf G.bh H.out.adj H.out.nod) (fun _ => rfl)
    (fun s W => ∃ v, PairI w bx es s.length v W) (fun s W ⟨v, h⟩ => HR.out bx s.length v W h) (fun o1 o2 => ?start) (fun s W o hz ⟨v, h⟩ => ⟨v, by rw [hz0]; exact h.put o⟩)
    (fun x _ => { tmps := #[.pointer (some ⟨m, 0, none⟩), undef, .slice none 0 0, .pointer (some ⟨bx, 0, none⟩), .pointer (some ⟨x, 0, none⟩), .pointer (some ⟨m, 0, none⟩), .pointer (some ⟨m, 0, none⟩), .pointer (some ⟨m, 2, none⟩), .int .i64 es.length, .slice (some ⟨w.heap.size, 0, none⟩) 0 es.length, .pointer (some ⟨m, 0, none⟩), .func (.func 40) #[.pointer (some ⟨m, 0, none⟩)] #[], .pointer (some ⟨x, 0, none⟩), undef, undef, undef, undef, undef, undef, undef, undef], defers := [] }) (fun _ W => W) (fun s x W _ h => ⟨h, rfl, rfl⟩) ?assign ?body ?done
  case start =>
    have hb : Below W0.heap.size W0 ((W0.alloc o1).alloc o2) := below2 _ _ _
    refine ⟨_, hw1, (hb.block _ (by omega)).trans hx0, own_other hown (fun g' hg' => ?_), fun g' hg' => ?_, b1.trans ((hb0.mono (by omega)).trans (hb.mono (by omega)))⟩
    · cases hg'
      exact (hb.block w.heap.size (by omega)).trans (hb0.block w.heap.size hw1)
    · cases hg'
      exact .inl rfl
  case assign =>
    intro l x W K hK
    gi_wp2
    refine cast (congrArg (fun z => K ⟨z, []⟩ W) ?_) hK
    simp
  case body =>
    intro l s x W o hpre hlt hI
    obtain ⟨v, hI⟩ := hI
    have hI : PairI w bx es s.length v (W.putObj (W0.heap.size + 1) o) := hI
    have hVz : W0.heap.size + 1 < (W.putObj (W0.heap.size + 1) o).heap.size := by simpa using hlt
    show Code.wpIn _ _ _ _ (rPost W0.heap.size (fun s W => ∃ v, PairI w bx es s.length v W) (s ++ [x]) (W.putObj (W0.heap.size + 1) o)) _ (W.putObj (W0.heap.size + 1) o)
    generalize W.putObj (W0.heap.size + 1) o = V at hI hVz ⊢
    have hsl : s.length < es.length := by
      have := hpre.length_le
      simp at this
      omega
    obtain ⟨e, he⟩ : ∃ e, es[s.length]? = some e := ⟨_, List.getElem?_eq_getElem hsl⟩
    have hxe : x = e.b := by
      obtain ⟨t, ht⟩ := hpre
      have h1 : (es.map Ent.b)[s.length]? = some x := by rw [← ht]; simp
      rw [List.getElem?_map, he] at h1
      exact (Option.some.inj h1).symm
    have hent := (H.out.keep hI.keep).ent e (List.mem_of_getElem? he)
    have hxw : x < w.heap.size := by rw [hxe]; exact row_ltT (H.out.ent e (List.mem_of_getElem? he))
    rw [← hxe] at hent
    obtain ⟨kb, hkb⟩ : ∃ kb, kb = e.kb := ⟨_, rfl⟩
    obtain ⟨vb, hvb⟩ : ∃ vb, vb = e.vb := ⟨_, rfl⟩
    rw [← hkb, ← hvb] at hent
    have HX : Hid (es[s.length]? = some e ∧ kb = e.kb ∧ vb = e.vb) := ⟨he, hkb, hvb⟩
    have hvs : ∃ a b c, v = .slice a b c := by
      rcases hI.own.2 with ⟨q, _⟩ | ⟨g2, cap', cur, hv, _⟩
      · exact ⟨_, _, _, q⟩
      · exact ⟨_, _, _, hv⟩
    obtain ⟨pa, pl, pc, rfl⟩ := hvs
    have hS0 : V.cell? ⟨x, 0, none⟩ = some (.pointer (some ⟨kb, 0, none⟩)) ∧ V.cell? ⟨x, 1, none⟩ = some (.pointer (some ⟨vb, 0, none⟩)) := ⟨hent.cell 0, hent.cell 1⟩
    have hVw : x < V.heap.size := row_ltT hent
    have HSV : Hid (V.cell? ⟨x, 0, none⟩ = some (.pointer (some ⟨kb, 0, none⟩)) ∧ V.cell? ⟨x, 1, none⟩ = some (.pointer (some ⟨vb, 0, none⟩))) := hS0
    have HIV0 : Hid (PairI w bx es s.length (.slice pa pl pc) V) := hI
    have hvn : ∀ k, (k = W0.heap.size ∨ k = W0.heap.size + 1) → some k ≠ (Value.slice pa pl pc).ownBlock := fun k hk q => by
      rcases hI.at_ k q.symm with q2 | q2 <;> omega
    have hVbx := row_ltT hI.box
    clear hI hpre he hxe hkb hvb hent
    gi_wp2_with fail
    refine wpIn_region_round (S := fun W => W.cell? ⟨x, 0, none⟩ = some (.pointer (some ⟨kb, 0, none⟩)) ∧ W.cell? ⟨x, 1, none⟩ = some (.pointer (some ⟨vb, 0, none⟩))) (by kernel_rfl) (by kernel_rfl) (fun q => by obtain ⟨_, _, h⟩ := q; exact h) ?_
    obtain ⟨U, hU⟩ : ∃ U, U = V.drew := ⟨_, rfl⟩
    have e4 : ({ V with drawn := V.drawn + 1 } : World) = U := hU.symm
    rw [e4]
    have hBU : Below V.heap.size V U := by rw [hU]; exact (Below.refl _ _).drew
    have hUh : U.heap = V.heap := by rw [hU]; rfl
    have hS : U.cell? ⟨x, 0, none⟩ = some (.pointer (some ⟨kb, 0, none⟩)) ∧ U.cell? ⟨x, 1, none⟩ = some (.pointer (some ⟨vb, 0, none⟩)) := ⟨(hBU.cell (p := ⟨x, 0, none⟩) hVw).trans hS0.1, (hBU.cell (p := ⟨x, 1, none⟩) hVw).trans hS0.2⟩
    have HIU : Hid (PairI w bx es s.length (.slice pa pl pc) U ∧ V.heap.size ≤ U.heap.size ∧ (∀ k, k < V.heap.size → U.heap[k]? = V.heap[k]?)) := ⟨HIV0.out.below hBU, hBU.size, fun k hk => hBU.block k hk⟩
    have HIV : Hid (PairI w bx es s.length (.slice pa pl pc) V ∧ V.heap.size ≤ V.heap.size) := ⟨HIV0.out, Nat.le_refl _⟩
    have hcU := row_at HIU.out.1.box 0
    have hzU := row_ltT HIU.out.1.box
    clear e4 hU hUh hBU hS0
    refine wpAnyH_take (i := 1) (v := .pointer (some ⟨x, 0, none⟩)) rfl (by kernel_rfl) (by kernel_rfl) (by kernel_rfl) (fun _ _ _ h => h) (Or.inl ⟨by rfl, ?r⟩) hS ?_
    case r => intro W hW; simp [go_sem, execOp, Act.eval]
    simp only [List.getElem_toArray, List.getElem_cons_zero, List.getElem_cons_succ, Act.put, List.setIfInBounds_toArray, List.set_cons_succ, List.set_cons_zero]
    refine wpAnyH_take (i := 2) (v := .pointer (some ⟨x, 0, none⟩)) rfl (by kernel_rfl) (by kernel_rfl) (by kernel_rfl) (fun _ _ _ h => h) (Or.inl ⟨by rfl, ?r⟩) hS ?_
    case r => intro W hW; simp [go_sem, execOp, Act.eval]
    simp only [List.getElem_toArray, List.getElem_cons_zero, List.getElem_cons_succ, Act.put, List.setIfInBounds_toArray, List.set_cons_succ, List.set_cons_zero]
    refine wpAnyH_take (i := 3) (v := .pointer (some ⟨x, 0, none⟩)) rfl (by kernel_rfl) (by kernel_rfl) (by kernel_rfl) (fun _ _ _ h => h) (Or.inl ⟨by rfl, ?r⟩) hS ?_
    case r => intro W hW; simp [go_sem, execOp, Act.eval]
    simp only [List.getElem_toArray, List.getElem_cons_zero, List.getElem_cons_succ, Act.put, List.setIfInBounds_toArray, List.set_cons_succ, List.set_cons_zero]
    refine wpAnyH_take (i := 4) (v := .agg #[.pointer (some ⟨kb, 0, none⟩), .pointer (some ⟨vb, 0, none⟩)]) rfl (by kernel_rfl) (by kernel_rfl) (by kernel_rfl) (fun _ _ _ h => h) (Or.inl ⟨by rfl, ?r⟩) hS ?_
    case r => intro W hW; simp [go_sem, execOp, Act.eval, hW.1, hW.2]
    simp only [List.getElem_toArray, List.getElem_cons_zero, List.getElem_cons_succ, Act.put, List.setIfInBounds_toArray, List.set_cons_succ, List.set_cons_zero]
    refine wpAnyH_all (rs := [0, 5]) (by kernel_rfl) (by simp) (fun i2 hi2 => ?_)
    rcases (by simpa using hi2 : i2 = 0 ∨ i2 = 5) with rfl | rfl
    · clear hi2
      refine wpOp_step rfl (fun K hK => ite_yes rfl ?_)
      simp only [List.getElem_toArray, List.getElem_cons_zero]
      go_simp
      refine hK _ _ ⟨hS, ?_⟩
      clear hK K
      try simp only [Act.put, List.setIfInBounds_toArray, List.set_cons_succ, List.set_cons_zero]
      refine wpAnyH_all (rs := [5]) (by kernel_rfl) (by simp) (fun i2 hi2 => ?_)
      obtain rfl : i2 = 5 := by simpa using hi2
      clear hi2
      refine wpOp_step rfl (fun K hK => ite_yes rfl ?_)
      simp only [List.getElem_toArray, List.getElem_cons_zero, List.getElem_cons_succ]
      go_simp
      obtain ⟨V5, hV5⟩ : ∃ X, X = U.alloc (.cells #[.pointer (some ⟨kb, 0, none⟩), .pointer (some ⟨vb, 0, none⟩)] 60) := ⟨_, rfl⟩
      have bV5 : Below U.heap.size U V5 := by rw [hV5]; exact below1 _ _
      have nV5 := two_new U (.pointer (some ⟨kb, 0, none⟩)) (.pointer (some ⟨vb, 0, none⟩)) 60 U.heap.size rfl
      rw [← hV5] at nV5 ⊢
      clear hV5
      have HIV5 : Hid (PairI w bx es s.length (.slice pa pl pc) V5 ∧ V.heap.size ≤ V5.heap.size ∧ (∀ k, k < V.heap.size → V5.heap[k]? = V.heap[k]?)) := ⟨HIU.out.1.below bV5, Nat.le_trans HIU.out.2.1 bV5.size, fun k hk => (bV5.block k (by have := HIU.out.2.1; omega)).trans (HIU.out.2.2 k hk)⟩
      have hcV5 := row_at HIV5.out.1.box 0
      have hzV5 := row_ltT HIV5.out.1.box
      have hSV5 : V5.cell? ⟨x, 0, none⟩ = some (.pointer (some ⟨kb, 0, none⟩)) ∧ V5.cell? ⟨x, 1, none⟩ = some (.pointer (some ⟨vb, 0, none⟩)) := ⟨(bV5.cell (p := ⟨x, 0, none⟩) (by show x < _; have := HIU.out.2.1; omega)).trans hS.1, (bV5.cell (p := ⟨x, 1, none⟩) (by show x < _; have := HIU.out.2.1; omega)).trans hS.2⟩
      clear bV5
      refine hK _ _ ⟨hSV5, ?_⟩
      clear hK K hS
      have hS := hSV5
      clear hSV5
      try simp only [Act.put, List.setIfInBounds_toArray, List.set_cons_succ, List.set_cons_zero]
      refine wpAnyH_all (rs := [6]) (by kernel_rfl) (by simp) (fun i2 hi2 => ?_)
      obtain rfl : i2 = 6 := by simpa using hi2
      clear hi2
      refine wpOp_step rfl (fun K hK => ite_yes rfl ?_)
      simp only [List.getElem_toArray, List.getElem_cons_zero, List.getElem_cons_succ]
      refine wp_append_where _ _ 79 rfl 0 60 i0 (.agg #[.pointer none, .pointer none]) 2 16 Tryd.underlying79 hi hz0' hz1 hz2 rfl (by decide) (.slice pa pl pc) s.length (pvals (es.take s.length)) rfl HIV5.out.1.own ⟨U.heap.size, 0, none⟩ 1 1 [.pointer (some ⟨kb, 0, none⟩), .pointer (some ⟨vb, 0, none⟩)] rfl rfl nV5 (by simp [Value.oneCell']) (by unfold maxLen; omega) (by omega) (by omega) ?_
      intro v' w6 hown6 hgr6 hat6
      obtain ⟨g6, c6, rfl⟩ := slice_of hown6 (Nat.succ_pos _)
      have hblk : ∀ k, k < V.heap.size → some k ≠ (Value.slice pa pl pc).ownBlock → w6.heap[k]? = V.heap[k]? := fun k hk hn => (hgr6.block k (Nat.lt_of_lt_of_le hk HIV5.out.2.1) hn).trans (HIV5.out.2.2 k hk)
      have hg1 : V.heap.size ≤ w6.heap.size := Nat.le_trans HIV5.out.2.1 hgr6.size
      have hxn : some x ≠ (Value.slice pa pl pc).ownBlock := fun q => by
        rcases HIV5.out.1.at_ x q.symm with q2 | q2 <;> omega
      have hbn : some (bx) ≠ (Value.slice pa pl pc).ownBlock := fun q => by
        rcases HIV5.out.1.at_ _ q.symm with q2 | q2 <;> omega
      have hS6 : w6.cell? ⟨x, 0, none⟩ = some (.pointer (some ⟨kb, 0, none⟩)) ∧ w6.cell? ⟨x, 1, none⟩ = some (.pointer (some ⟨vb, 0, none⟩)) := ⟨(World.cell?_of_block (a := ⟨x, 0, none⟩) (hblk x (by omega) hxn)).trans HSV.out.1, (World.cell?_of_block (a := ⟨x, 1, none⟩) (hblk x (by omega) hxn)).trans HSV.out.2⟩
      have hbx6 : w6.heap[bx]? = some (.cells #[.slice pa pl pc] 79 (0, 0)) := (hblk _ (by omega) hbn).trans HIV.out.1.box
      have hc6 := row_at hbx6 0
      have hf6 := fz _ _ _ _ 0 hbx6
      have hz6 := row_ltT hbx6
      have hg6 : g6 = w.heap.size ∨ bx + 3 ≤ g6 := by
        rcases hat6 g6 rfl with q | q
        · exact HIV5.out.1.at_ g6 q
        · have := HIV5.out.2.1; omega
      refine hK _ _ ⟨hS6, ?_⟩
      clear hK K hS
      have hS := hS6
      clear hS6
      try simp only [Act.put, List.setIfInBounds_toArray, List.set_cons_succ, List.set_cons_zero]
      refine wpAnyH_all (rs := [7]) (by kernel_rfl) (by simp) (fun i2 hi2 => ?_)
      obtain rfl : i2 = 7 := by simpa using hi2
      clear hi2
      refine wpOp_step rfl (fun K hK => ite_yes rfl ?_)
      simp only [List.getElem_toArray, List.getElem_cons_zero, List.getElem_cons_succ]
      go_simp
      obtain ⟨w7, hw7⟩ : ∃ X, X = w6.setCell ⟨bx, 0, none⟩ (.slice (some ⟨g6, 0, none⟩) (s.length + 1) c6) := ⟨_, rfl⟩
      have ho7 : ∀ b, b ≠ bx → w7.heap[b]? = w6.heap[b]? := fun b hb => by rw [hw7]; exact heap_setCell_other _ _ _ _ _ hb
      have hx7 : w7.heap[bx]? = some (.cells #[.slice (some ⟨g6, 0, none⟩) (s.length + 1) c6] 79 (0, 0)) := by rw [hw7]; exact row_set hbx6 0 _
      have hs7 : w7.heap.size = w6.heap.size := by rw [hw7]; simp
      have he7 : w7.os = w6.os ∧ w7.tape = w6.tape ∧ w7.output = w6.output := by rw [hw7]; exact ⟨rfl, rfl, rfl⟩
      rw [← hw7]
      have hS7 : w7.cell? ⟨x, 0, none⟩ = some (.pointer (some ⟨kb, 0, none⟩)) ∧ w7.cell? ⟨x, 1, none⟩ = some (.pointer (some ⟨vb, 0, none⟩)) := ⟨(World.cell?_of_block (a := ⟨x, 0, none⟩) (ho7 x (by omega))).trans hS.1, (World.cell?_of_block (a := ⟨x, 1, none⟩) (ho7 x (by omega))).trans hS.2⟩
      clear hw7
      refine hK _ _ ⟨hS7, ?_⟩
      clear hK K hS
      have hS := hS7
      clear hS7
      try simp only [Act.put, List.setIfInBounds_toArray, List.set_cons_succ, List.set_cons_zero]
      refine wpAnyH_done (by kernel_rfl) ?_ _
      refine NoPanic.normal ?_
      try simp only [Act.put]
      gi_wp2_with fail
      refine ⟨(ho7 _ (by omega)).trans (hblk _ (by omega) (hvn _ (.inl rfl))), (ho7 _ (by omega)).trans (hblk _ (by omega) (hvn _ (.inr rfl))), .slice (some ⟨g6, 0, none⟩) (s.length + 1) c6, ?_⟩
      rw [List.length_append]
      refine ⟨hw1, hx7, ?_, fun g' hg' => by cases hg'; exact hg6, ?_⟩
      · have h1 := own_other (w' := w7) hown6 (fun g' hg' => by cases hg'; exact ho7 g6 (by omega))
        have e1 : pvals (es.take (s.length + 1)) = pvals (es.take s.length) ++ [.pointer (some ⟨kb, 0, none⟩), .pointer (some ⟨vb, 0, none⟩)] := by
          rw [List.take_add_one, HX.out.1, pvals_append, HX.out.2.1, HX.out.2.2]; rfl
        show w7.ownsRow 0 60 2 _ (s.length + 1) (pvals (es.take (s.length + 1)))
        rw [e1]
        exact h1
      · have hk := HIV.out.1.keep
        refine ⟨he7.1.trans (hgr6.os.trans HIV5.out.1.keep.os), he7.2.1.trans (hgr6.tape.trans HIV5.out.1.keep.tape), he7.2.2.trans (hgr6.output.trans HIV5.out.1.keep.output), by have := hk.size; omega, fun b hb => (ho7 b (by omega)).trans ((hblk b (by have := hk.size; omega) (fun q => ?_)).trans (hk.block b hb))⟩
        rcases HIV5.out.1.at_ b q.symm with q2 | q2 <;> omega
    · clear hi2
      refine wpOp_step rfl (fun K hK => ite_yes rfl ?_)
      simp only [List.getElem_toArray, List.getElem_cons_zero, List.getElem_cons_succ]
      go_simp
      obtain ⟨V5, hV5⟩ : ∃ X, X = U.alloc (.cells #[.pointer (some ⟨kb, 0, none⟩), .pointer (some ⟨vb, 0, none⟩)] 60) := ⟨_, rfl⟩
      have bV5 : Below U.heap.size U V5 := by rw [hV5]; exact below1 _ _
      have nV5 := two_new U (.pointer (some ⟨kb, 0, none⟩)) (.pointer (some ⟨vb, 0, none⟩)) 60 U.heap.size rfl
      rw [← hV5] at nV5 ⊢
      clear hV5
      have HIV5 : Hid (PairI w bx es s.length (.slice pa pl pc) V5 ∧ V.heap.size ≤ V5.heap.size ∧ (∀ k, k < V.heap.size → V5.heap[k]? = V.heap[k]?)) := ⟨HIU.out.1.below bV5, Nat.le_trans HIU.out.2.1 bV5.size, fun k hk => (bV5.block k (by have := HIU.out.2.1; omega)).trans (HIU.out.2.2 k hk)⟩
      have hcV5 := row_at HIV5.out.1.box 0
      have hzV5 := row_ltT HIV5.out.1.box
      have hSV5 : V5.cell? ⟨x, 0, none⟩ = some (.pointer (some ⟨kb, 0, none⟩)) ∧ V5.cell? ⟨x, 1, none⟩ = some (.pointer (some ⟨vb, 0, none⟩)) := ⟨(bV5.cell (p := ⟨x, 0, none⟩) (by show x < _; have := HIU.out.2.1; omega)).trans hS.1, (bV5.cell (p := ⟨x, 1, none⟩) (by show x < _; have := HIU.out.2.1; omega)).trans hS.2⟩
      clear bV5
      refine hK _ _ ⟨hSV5, ?_⟩
      clear hK K hS
      have hS := hSV5
      clear hSV5
      try simp only [Act.put, List.setIfInBounds_toArray, List.set_cons_succ, List.set_cons_zero]
      refine wpAnyH_all (rs := [0]) (by kernel_rfl) (by simp) (fun i2 hi2 => ?_)
      obtain rfl : i2 = 0 := by simpa using hi2
      clear hi2
      refine wpOp_step rfl (fun K hK => ite_yes rfl ?_)
      simp only [List.getElem_toArray, List.getElem_cons_zero]
      go_simp
      refine hK _ _ ⟨hS, ?_⟩
      clear hK K
      try simp only [Act.put, List.setIfInBounds_toArray, List.set_cons_succ, List.set_cons_zero]
      refine wpAnyH_all (rs := [6]) (by kernel_rfl) (by simp) (fun i2 hi2 => ?_)
      obtain rfl : i2 = 6 := by simpa using hi2
      clear hi2
      refine wpOp_step rfl (fun K hK => ite_yes rfl ?_)
      simp only [List.getElem_toArray, List.getElem_cons_zero, List.getElem_cons_succ]
      refine wp_append_where _ _ 79 rfl 0 60 i0 (.agg #[.pointer none, .pointer none]) 2 16 Tryd.underlying79 hi hz0' hz1 hz2 rfl (by decide) (.slice pa pl pc) s.length (pvals (es.take s.length)) rfl HIV5.out.1.own ⟨U.heap.size, 0, none⟩ 1 1 [.pointer (some ⟨kb, 0, none⟩), .pointer (some ⟨vb, 0, none⟩)] rfl rfl nV5 (by simp [Value.oneCell']) (by unfold maxLen; omega) (by omega) (by omega) ?_
      intro v' w6 hown6 hgr6 hat6
      obtain ⟨g6, c6, rfl⟩ := slice_of hown6 (Nat.succ_pos _)
      have hblk : ∀ k, k < V.heap.size → some k ≠ (Value.slice pa pl pc).ownBlock → w6.heap[k]? = V.heap[k]? := fun k hk hn => (hgr6.block k (Nat.lt_of_lt_of_le hk HIV5.out.2.1) hn).trans (HIV5.out.2.2 k hk)
      have hg1 : V.heap.size ≤ w6.heap.size := Nat.le_trans HIV5.out.2.1 hgr6.size
      have hxn : some x ≠ (Value.slice pa pl pc).ownBlock := fun q => by
        rcases HIV5.out.1.at_ x q.symm with q2 | q2 <;> omega
      have hbn : some (bx) ≠ (Value.slice pa pl pc).ownBlock := fun q => by
        rcases HIV5.out.1.at_ _ q.symm with q2 | q2 <;> omega
      have hS6 : w6.cell? ⟨x, 0, none⟩ = some (.pointer (some ⟨kb, 0, none⟩)) ∧ w6.cell? ⟨x, 1, none⟩ = some (.pointer (some ⟨vb, 0, none⟩)) := ⟨(World.cell?_of_block (a := ⟨x, 0, none⟩) (hblk x (by omega) hxn)).trans HSV.out.1, (World.cell?_of_block (a := ⟨x, 1, none⟩) (hblk x (by omega) hxn)).trans HSV.out.2⟩
      have hbx6 : w6.heap[bx]? = some (.cells #[.slice pa pl pc] 79 (0, 0)) := (hblk _ (by omega) hbn).trans HIV.out.1.box
      have hc6 := row_at hbx6 0
      have hf6 := fz _ _ _ _ 0 hbx6
      have hz6 := row_ltT hbx6
      have hg6 : g6 = w.heap.size ∨ bx + 3 ≤ g6 := by
        rcases hat6 g6 rfl with q | q
        · exact HIV5.out.1.at_ g6 q
        · have := HIV5.out.2.1; omega
      refine hK _ _ ⟨hS6, ?_⟩
      clear hK K hS
      have hS := hS6
      clear hS6
      try simp only [Act.put, List.setIfInBounds_toArray, List.set_cons_succ, List.set_cons_zero]
      refine wpAnyH_all (rs := [7]) (by kernel_rfl) (by simp) (fun i2 hi2 => ?_)
      obtain rfl : i2 = 7 := by simpa using hi2
      clear hi2
      refine wpOp_step rfl (fun K hK => ite_yes rfl ?_)
      simp only [List.getElem_toArray, List.getElem_cons_zero, List.getElem_cons_succ]
      go_simp
      obtain ⟨w7, hw7⟩ : ∃ X, X = w6.setCell ⟨bx, 0, none⟩ (.slice (some ⟨g6, 0, none⟩) (s.length + 1) c6) := ⟨_, rfl⟩
      have ho7 : ∀ b, b ≠ bx → w7.heap[b]? = w6.heap[b]? := fun b hb => by rw [hw7]; exact heap_setCell_other _ _ _ _ _ hb
      have hx7 : w7.heap[bx]? = some (.cells #[.slice (some ⟨g6, 0, none⟩) (s.length + 1) c6] 79 (0, 0)) := by rw [hw7]; exact row_set hbx6 0 _
      have hs7 : w7.heap.size = w6.heap.size := by rw [hw7]; simp
      have he7 : w7.os = w6.os ∧ w7.tape = w6.tape ∧ w7.output = w6.output := by rw [hw7]; exact ⟨rfl, rfl, rfl⟩
      rw [← hw7]
      have hS7 : w7.cell? ⟨x, 0, none⟩ = some (.pointer (some ⟨kb, 0, none⟩)) ∧ w7.cell? ⟨x, 1, none⟩ = some (.pointer (some ⟨vb, 0, none⟩)) := ⟨(World.cell?_of_block (a := ⟨x, 0, none⟩) (ho7 x (by omega))).trans hS.1, (World.cell?_of_block (a := ⟨x, 1, none⟩) (ho7 x (by omega))).trans hS.2⟩
      clear hw7
      refine hK _ _ ⟨hS7, ?_⟩
      clear hK K hS
      have hS := hS7
      clear hS7
      try simp only [Act.put, List.setIfInBounds_toArray, List.set_cons_succ, List.set_cons_zero]
      refine wpAnyH_done (by kernel_rfl) ?_ _
      refine NoPanic.normal ?_
      try simp only [Act.put]
      gi_wp2_with fail
      refine ⟨(ho7 _ (by omega)).trans (hblk _ (by omega) (hvn _ (.inl rfl))), (ho7 _ (by omega)).trans (hblk _ (by omega) (hvn _ (.inr rfl))), .slice (some ⟨g6, 0, none⟩) (s.length + 1) c6, ?_⟩
      rw [List.length_append]
      refine ⟨hw1, hx7, ?_, fun g' hg' => by cases hg'; exact hg6, ?_⟩
      · have h1 := own_other (w' := w7) hown6 (fun g' hg' => by cases hg'; exact ho7 g6 (by omega))
        have e1 : pvals (es.take (s.length + 1)) = pvals (es.take s.length) ++ [.pointer (some ⟨kb, 0, none⟩), .pointer (some ⟨vb, 0, none⟩)] := by
          rw [List.take_add_one, HX.out.1, pvals_append, HX.out.2.1, HX.out.2.2]; rfl
        show w7.ownsRow 0 60 2 _ (s.length + 1) (pvals (es.take (s.length + 1)))
        rw [e1]
        exact h1
      · have hk := HIV.out.1.keep
        refine ⟨he7.1.trans (hgr6.os.trans HIV5.out.1.keep.os), he7.2.1.trans (hgr6.tape.trans HIV5.out.1.keep.tape), he7.2.2.trans (hgr6.output.trans HIV5.out.1.keep.output), by have := hk.size; omega, fun b hb => (ho7 b (by omega)).trans ((hblk b (by have := hk.size; omega) (fun q => ?_)).trans (hk.block b hb))⟩
        rcases HIV5.out.1.at_ b q.symm with q2 | q2 <;> omega
  case done =>
    intro W hI hK
    obtain ⟨v, hI⟩ := hI
    have hcx : W.cell? ⟨bx, 0, none⟩ = some v := row_at hI.box 0
    have hzx := row_ltT hI.box
    have hvs : ∃ a b c, v = .slice a b c := by
      rcases hI.own.2 with ⟨q, _⟩ | ⟨g2, cap', cur, hv, _⟩
      · exact ⟨_, _, _, q⟩
      · exact ⟨_, _, _, hv⟩
    obtain ⟨va, vl, vc, rfl⟩ := hvs
    have HI : Hid _ := hI
    clear hI
    gi_wp2
    refine ⟨by simp, .inl ⟨_, _, rfl, run_takeDeferred hK, ?_⟩⟩
    refine ⟨_, results_tmp rfl _ _ _, .slice va vl vc, rfl, ?_, ?_, fun g' hg' => by rcases HI.out.at_ g' hg' with q | q <;> omega⟩
    · have h1 := own_other (w' := W.putObj W0.heap.size (.deferred none)) HI.out.own (fun g' hg' => World.putObj_heap_other (by rcases HI.out.at_ g' hg' with q | q <;> omega))
      rw [List.length_map, List.take_length] at h1
      exact h1
    · have hk := HI.out.keep
      exact ⟨hk.os, hk.tape, hk.output, by simpa using hk.size, fun b hb => (World.putObj_heap_other (by omega)).trans (hk.block b hb)⟩
end Go.Proofs.YtflonmlnedkmjaaDoor
namespace Go.Proofs.YtflonmlnedkmjaaDoor
open Go.RowKit Go.Shelf
attribute [local go_sem] Oper.semAt_some
section
/-- What is known of the data of a turn: they are those of the entry. -/
def OkE (es : List Ent) (i : Nat) (k v : MD) : Prop := ∃ e, es[i]? = some e ∧ k = e.k ∧ v = e.v
/-- What is asked of what holds between two turns. -/
structure TurnA (n : Nat) (es : List Ent) (J : Nat → World → Prop) : Prop where
  stable : ∀ i A B, J i A → Below A.heap.size A B → J i B
  box : ∀ (i : Nat) (hi : i < es.length) W, J i W → Box W n es[i].kb es[i].k ∧ Box W n es[i].vb es[i].v
def SeqA (F : Fence) (N : Nat) (P : Program) (g : Nat) (lb : Array Value) (n : Nat) (es : List Ent) (w : World) : Prop :=
  ∀ (l : Nat) (J : Nat → World → Prop) (W : World), Below w.heap.size w W → TurnA n es J →
    (∀ i W2 k' v', i < es.length → Handed n (OkE es) i k' v' → J i W2 → MD.In W2.heap.size W2 n k' → MD.In W2.heap.size W2 n v' → YieldAt F (N - 1) P l #[k'.val, v'.val] W2 fun e W' => e = .returned (.bool true) ∧ J (i + 1) W' ∧ KeepT W2 W') →
    J 0 W →
    CallsIn F N P g (#[.func (.yield l) #[] #[]] ++ lb) W fun e W' => (∃ v, e = .returned v) ∧ J es.length W'
variable {F : Fence} {N : Nat} {P : Program}
theorem wpIn_rangeFunc_A {g : Operand} {ps : Array Tmp} {assign body : Code} {Q : Exit → Act → World → Prop} {a : Act} {w : World}
    (hro : F.round = none) (h1 : 1 ≤ N) {gf : Nat} {lb : Array Value} (hg : a.eval g = .func (.func gf) #[] lb) (hFg : F.fn gf) (eg : ∀ args w, (callFunc gf args).run P w = .ok (.enter gf args) w)
    {n : Nat} {es : List Ent} (hseq : SeqA F (N - 1) P gf lb n es w) (hps : 2 = ps.size)
    (I : Nat → World → Prop) (hC : TurnA n es I) (h0 : I 0 w) (hput : ∀ i W o, w.heap.size + 1 < W.heap.size → I i W → I i (W.putObj (w.heap.size + 1) o))
    (a₁ : MD → MD → World → Act) (g₁ : MD → MD → World → World) (hg₁ : ∀ k v (W : World), Below W.heap.size W (g₁ k v W))
    (hassign : ∀ (l : Nat) (k v : MD) (W : World) (K : Act → World → Prop), K (a₁ k v W) (g₁ k v W) →
      assign.wpIn (F.inRound l) (N - 1 - 1) P (Exit.then K (fun _ _ _ => False)) { tmps := (ps.zip #[k.val, v.val]).foldl (fun t (p, v) => t.setIfInBounds p v) a.tmps, defers := [] } W)
    (hbody : ∀ (l i : Nat) (k v : MD) (W : World) (o : Obj), i < es.length → Handed n (OkE es) i k v → w.heap.size + 1 < W.heap.size → MD.In ((g₁ k v W).putObj (w.heap.size + 1) o).heap.size ((g₁ k v W).putObj (w.heap.size + 1) o) n k → MD.In ((g₁ k v W).putObj (w.heap.size + 1) o).heap.size ((g₁ k v W).putObj (w.heap.size + 1) o) n v → I i ((g₁ k v W).putObj (w.heap.size + 1) o) → body.wpIn (F.inRound l) (N - 1 - 1) P (jPost w.heap.size I (i + 1) ((g₁ k v W).putObj (w.heap.size + 1) o)) (a₁ k v W) ((g₁ k v W).putObj (w.heap.size + 1) o))
    (hdone : ∀ (W : World), I es.length W → W.heap[w.heap.size]? = some (.deferred (some [])) → Q .normal { a with defers := { target := .collected w.heap.size, args := #[] } :: a.defers } W) :
    (Code.rangeFunc g ps assign body).wpIn F N P Q a w := by
  refine wpIn_rangeFunc ?_
  intro fn hfn
  rw [hro]
  obtain ⟨rec, hrec⟩ : ∃ rec : LoopState → Option Code → Loop, rec = fun st pe => { state := st, pending := pe, fn, tmps := a.tmps, params := ps, assign, body, defers := w.heap.size } := ⟨_, rfl⟩
  obtain ⟨W1, hW1⟩ : ∃ W1, (w.alloc (.deferred (some []))).alloc (.loop (rec .ready none)) = W1 := ⟨_, rfl⟩
  have hz1 : W1.heap.size = w.heap.size + 2 := by rw [← hW1]; simp
  have hL1 : W1.heap[w.heap.size + 1]? = some (.loop (rec .ready none)) := by
    rw [← hW1]; have := heap_alloc_new (w.alloc (.deferred (some []))) (.loop (rec .ready none)); rwa [World.size_alloc] at this
  have hK1 : W1.heap[w.heap.size]? = some (.deferred (some [])) := by
    rw [← hW1]; exact (Below.heap_alloc _ _ _ (by simp)).trans (heap_alloc_new w _)
  have hb1 : Below w.heap.size w W1 := by rw [← hW1]; exact below2 _ _ _
  refine ⟨w.heap.size + 1, [{ target := .collected w.heap.size, args := #[] }], W1, { target := .fn (.func gf) lb, args := #[.func (.yield (w.heap.size + 1)) #[] #[]] }, W1, gf,
    #[.func (.yield (w.heap.size + 1)) #[] #[]] ++ lb, W1, ?_, ?_, ?_, ?_, fun _ => h1, ?_⟩
  · rw [← hW1, hrec]; exact run_enterLoop_outer _ _ _ _ _
  · simp only [resolve, hg]
    simp [go_sem]
  · intro f' hf'; simp [Target.leads] at hf'; subst hf'; exact hFg
  · simp [invoke, go_sem, eg]
  · refine (hseq (w.heap.size + 1)
      (fun i W => I i W ∧ W.heap[w.heap.size + 1]? = some (.loop (rec .ready none)) ∧ W.heap[w.heap.size]? = some (.deferred (some [])))
      W1 hb1 ⟨fun i A B ⟨q1, q2, q3⟩ hb => ⟨hC.stable i A B q1 hb, (hb.block _ (Array.getElem?_eq_some_iff.1 q2).1).trans q2, (hb.block _ (Array.getElem?_eq_some_iff.1 q3).1).trans q3⟩, fun i hi W h => hC.box i hi W h.1⟩ ?_ ⟨hC.stable 0 w W1 h0 hb1, hL1, hK1⟩).mono ?_
    · rintro i W k v hi hh ⟨hi1, hl, hk⟩ hkin hvin
      have hlt : w.heap.size + 1 < W.heap.size := (Array.getElem?_eq_some_iff.1 hl).1
      have hy := run_yield (P := P) (args := #[k.val, v.val]) hl (by rw [hrec]; exact hps)
      rw [hrec] at hy
      have hgb := hg₁ k v W
      have hig := hC.stable i W _ hi1 hgb
      have hlg' := (hgb.block _ hlt).trans hl
      have hltg : w.heap.size + 1 < (g₁ k v W).heap.size := (Array.getElem?_eq_some_iff.1 hlg').1
      refine ⟨fn, _, assign, body, hy, roundIn_of_wpIn hfn (hassign _ k v W _ ⟨_, run_beginRound hlg' (by rw [hrec]), ?_⟩)⟩
      have hl2 : ((g₁ k v W).putObj (w.heap.size + 1) (.loop { rec .ready none with state := .busy })).heap[w.heap.size + 1]? = some (.loop { rec .ready none with state := .busy }) := World.putObj_heap_same hltg
      have hk2 : ((g₁ k v W).putObj (w.heap.size + 1) (.loop { rec .ready none with state := .busy })).heap[w.heap.size]? = some (.deferred (some [])) := (World.putObj_heap_other (by omega)).trans ((hgb.block _ (by omega)).trans hk)
      refine wpIn_mono (hbody _ i k v W _ hi hh hlt (In_putObj hlg' (hkin.later (Nat.le_refl _) hgb)) (In_putObj hlg' (hvin.later (Nat.le_refl _) hgb)) (hput i _ _ hltg hig)) ?_
      rintro e a3 W3 hp
      cases e with
      | normal =>
        obtain ⟨hkD, hkL, hi3, hkt⟩ := hp
        have hl3 : W3.heap[w.heap.size + 1]? = some (.loop { rec .ready none with state := .busy }) := hkL.trans hl2
        have hk4 : W3.heap[w.heap.size]? = some (.deferred (some [])) := hkD.trans hk2
        have hr := run_endRound (P := P) none hl3
        rw [hrec] at hr
        have hlt3 := (Array.getElem?_eq_some_iff.1 hl3).1
        refine ⟨_, _, hr, rfl, ⟨hput _ W3 _ hlt3 hi3, ?_, (World.putObj_heap_other (by omega)).trans hk4⟩, ?_⟩
        · rw [hrec]; exact World.putObj_heap_same hlt3
        · exact (((KeepT.below hgb).trans (KeepT.putObj _ hlg')).trans hkt).trans (KeepT.putObj _ hl3)
      | ret => exact hp.elim
      | exit id => exact hp.elim
      | goto t => exact hp.elim
      | panic ch => exact hp.elim
      | outgrown => exact hp.elim
    · rintro e W2 ⟨⟨v, rfl⟩, hi, hl, hk⟩
      exact ⟨none, _, by have := run_endLoop (P := P) hl (by rw [hrec]; simp); rw [hrec] at this; exact this, hdone _ (hput _ W2 _ (Array.getElem?_eq_some_iff.1 hl).1 hi) ((World.putObj_heap_other (by omega)).trans hk)⟩

end
variable {n : Nat} {w w' : World} {m : Nat} {es : List Ent} {G : KG}
theorem pair_row {base : Nat} {v : Value} {k : Nat} {xs : List Value} (h : w.ownsRow base 60 2 v k xs) : ∃ p c, v = .slice p k c ∧ k ≤ c ∧ (k = 0 ∨ ∃ g cur, p = some ⟨g, 0, none⟩ ∧ w.heap[g]? = some (.cells cur 60 (0, 0)) ∧ ∀ j, j < 2 * k → cur[j]? = xs[j]?) := by
  rcases h.2 with ⟨q1, q2⟩ | ⟨g, cap, cur, hv, _, hg, hn, _, _, ht⟩
  · exact ⟨none, 0, by rw [q1, q2], by omega, .inl q2⟩
  · refine ⟨_, _, hv, hn, .inr ⟨g, cur, rfl, hg, fun j hj => ?_⟩⟩
    rw [← ht, List.getElem?_take_of_lt (by omega)]
    simp
theorem pvals_at : ∀ (es : List Ent) (i : Nat) (hi : i < es.length), (pvals es)[2 * i]? = some (.pointer (some ⟨es[i].kb, 0, none⟩)) ∧ (pvals es)[2 * i + 1]? = some (.pointer (some ⟨es[i].vb, 0, none⟩))
  | _ :: _, 0, _ => ⟨rfl, rfl⟩
  | _ :: es, i + 1, hi => by
    have h := pvals_at es i (by simpa using hi)
    exact h
  | [], _, hi => absurd hi (by simp)
set_option maxRecDepth 100000 in
set_option maxHeartbeats 4000000 in
theorem all1_seq (N : Nat) (hN1 : 1 ≤ N) (hK : KM n w m es G) (hlen : es.length ≤ 1099511627776) {mb : Nat} (hmb : w.cell? ⟨mb, 0, none⟩ = some (.pointer (some ⟨m, 0, none⟩))) (hmz : mb < w.heap.size) :
    SeqA Fence.wide N Tryd.prog 25 #[.pointer (some ⟨mb, 0, none⟩)] n es w := by
  intro l J W hW hC hY h0
  have hcb : W.cell? ⟨mb, 0, none⟩ = some (.pointer (some ⟨m, 0, none⟩)) := (hW.cell (p := ⟨mb, 0, none⟩) hmz).trans hmb
  have hzb : mb < W.heap.size := Nat.lt_of_lt_of_le hmz hW.size
  have HL : Hid (Calls Tryd.prog 26 #[.pointer (some ⟨m, 0, none⟩)] W fun r w' => ∃ v, r = .returned v ∧ w'.ownsRow 0 60 2 v es.length (pvals es) ∧ Below W.heap.size W w' ∧ ∀ g, v.ownBlock = some g → W.heap.size ≤ g) := pairs_any (hK.keep hW) hlen
  have HKEY : Hid (∀ e ∈ es, MD.right n e.k = true ∧ MD.right n e.v = true) := fun e he => ⟨(hK.key e he).1, (hK.key e he).2.2.2.2⟩
  clear hmb hmz hK
  refine callsIn_of_wp Tryd.func25 rfl trivial ?_ rfl
  simp only [Tryd.ntmps25, List.size_toArray, List.length_cons, List.length_nil, Nat.reduceAdd, Nat.reduceSub, Array.replicate_succ, Array.replicate_zero, List.push_toArray, List.append_toArray, List.nil_append, List.cons_append]
  gi_wp2_with fail
  refine ⟨trivial, (callsIn_wide.2 HL.out).mono ?_⟩
  rintro r W1 ⟨v, rfl, hown, hb1, hv1⟩
  obtain ⟨p, c, rfl, hcl, hrow⟩ := pair_row hown
  have HROW : Hid (es.length = 0 ∨ ∃ g cur, p = some ⟨g, 0, none⟩ ∧ W1.heap[g]? = some (.cells cur 60 (0, 0)) ∧ ∀ j, j < 2 * es.length → cur[j]? = (pvals es)[j]?) := hrow
  have HC : Hid (TurnA n es J) := hC
  have HY : Hid (∀ i W2 k' v', i < es.length → Handed n (OkE es) i k' v' → J i W2 → MD.In W2.heap.size W2 n k' → MD.In W2.heap.size W2 n v' → YieldAt Fence.wide (N - 1) Tryd.prog l #[k'.val, v'.val] W2 fun e W' => e = .returned (.bool true) ∧ J (i + 1) W' ∧ KeepT W2 W') := hY
  have HJ0 : Hid (J 0 W1) := hC.stable 0 W W1 h0 hb1
  clear hrow hown hv1 HL hC hY h0 hb1 hW hcb hzb
  gi_wp2_with fail
  gi_loopg [8] es.length (fun gk i wr => ∃ j : Nat, gk + j = es.length ∧ i = .int .i64 j ∧ Hid (J j wr ∧ (es.length = 0 ∨ ∃ g cur, p = some ⟨g, 0, none⟩ ∧ wr.heap[g]? = some (.cells cur 60 (0, 0)) ∧ ∀ j, j < 2 * es.length → cur[j]? = (pvals es)[j]?)))
  case atStart => exact ⟨0, by omega, rfl, HJ0.out, HROW.out⟩
  case round =>
    obtain ⟨j, hj, rfl, HR⟩ := hrel
    by_cases hlt : j < es.length
    · have i1 : (j : Int) < es.length := by omega
      obtain ⟨g, cur, rfl, hgr, hcur⟩ : ∃ g cur, p = some ⟨g, 0, none⟩ ∧ wr.heap[g]? = some (.cells cur 60 (0, 0)) ∧ ∀ j, j < 2 * es.length → cur[j]? = (pvals es)[j]? := by
        rcases HR.out.2 with q | q
        · omega
        · exact q
      obtain ⟨kb, hkbe⟩ : ∃ kb, kb = es[j].kb := ⟨_, rfl⟩
      obtain ⟨vb, hvbe⟩ : ∃ vb, vb = es[j].vb := ⟨_, rfl⟩
      obtain ⟨e, hee⟩ : ∃ e, e = es[j] := ⟨_, rfl⟩
      have hpv := pvals_at es j hlt
      rw [← hkbe, ← hvbe] at hpv
      have hcg0 : wr.cell? ⟨g, j * 2, none⟩ = some (.pointer (some ⟨kb, 0, none⟩)) := by
        rw [Nat.mul_comm]
        exact (row_at hgr _).trans ((hcur _ (by omega)).trans hpv.1)
      have hcg1 : wr.cell? ⟨g, j * 2 + 1, none⟩ = some (.pointer (some ⟨vb, 0, none⟩)) := by
        rw [Nat.mul_comm]
        exact (row_at hgr _).trans ((hcur _ (by omega)).trans hpv.2)
      have hzg := row_ltT hgr
      obtain ⟨hkb, hvb⟩ := HC.out.box j hlt wr HR.out.1
      rw [← hkbe, ← hee] at hkb
      rw [← hvbe, ← hee] at hvb
      have hem : e ∈ es := by rw [hee]; exact List.getElem_mem hlt
      have HT : Hid (∀ W, Below wr.heap.size wr W → Calls Tryd.prog 27 #[.agg #[.pointer (some ⟨kb, 0, none⟩), .pointer (some ⟨vb, 0, none⟩)]] W (ToldP n e.k e.v W)) := fun W hb => told_any (hkb.keep (Below.keepS (fun _ => False) hb) (fun _ _ _ _ _ h => h)) (hvb.keep (Below.keepS (fun _ => False) hb) (fun _ _ _ _ _ h => h)) (HKEY.out e hem).1 (HKEY.out e hem).2
      have HRG : Hid (wr.heap[g]? = some (.cells cur 60 (0, 0)) ∧ ∀ j, j < 2 * es.length → cur[j]? = (pvals es)[j]?) := ⟨hgr, hcur⟩
      have HJ : Hid (J j wr) := HR.out.1
      have HM : Hid (gk + j = es.length ∧ j < es.length ∧ OkE es j e.k e.v) := ⟨hj, hlt, e, by rw [List.getElem?_eq_getElem hlt, hee], rfl, rfl⟩
      clear hgr hcur hj hpv hkbe hvbe hee HR hkb hvb hem
      gi_wp2_with fail
      refine ⟨trivial, (callsIn_wide.2 (HT.out _ (below1 _ _))).mono ?_⟩
      rintro r w2 ⟨k', v', rfl, s1, s2, in1, in2, b2⟩
      have b3 : Below wr.heap.size wr w2 := (below1 _ _).trans (b2.mono (by simp))
      obtain ⟨fn, tmps, assign, body, hy, hRy⟩ := HY.out j w2 k' v' HM.out.2.1 ⟨e.k, e.v, HM.out.2.2, s1, s2⟩ (HC.out.stable _ _ _ HJ.out b3) in1 in2
      have HB2 : Hid (Below wr.heap.size wr w2) := b3
      clear s1 s2 in1 in2 b2 b3 hcg0 hcg1 HT
      gi_wp2_with fail
      refine hRy.mono ?_
      rintro e' W3 ⟨rfl, hJ3, hk3⟩
      have HR3 : Hid (J (j + 1) W3 ∧ W3.heap[g]? = some (.cells cur 60 (0, 0))) := by
        have h1 := (HB2.out.block g hzg).trans HRG.out.1
        exact ⟨hJ3, (hk3 g cur 60 (.inr rfl) h1).trans h1⟩
      clear hy hRy hJ3 hk3
      gi_wp2_with fail
      gi_roundg (es.length - (j + 1))
      case measure => have := HM.out.1; omega
      case rel => exact ⟨j + 1, by omega, by go_num, HR3.out.1, .inr ⟨g, cur, rfl, HR3.out.2, HRG.out.2⟩⟩
    · have i1 : ¬ (j : Int) < es.length := by omega
      gi_wp2_with fail
      go_end0
      have : j = es.length := by have := HR.out; omega
      rw [← this]
      exact ⟨⟨_, rfl⟩, HR.out.1⟩
set_option maxRecDepth 100000 in
theorem all_any (w : World) (m : Nat) : Calls Tryd.prog 14 #[.pointer (some ⟨m, 0, none⟩)] w fun r w' => r = .returned (.func (.func 25) #[] #[.pointer (some ⟨w.heap.size, 0, none⟩)]) ∧ w' = w.alloc (.cells #[.pointer (some ⟨m, 0, none⟩)] 24) := by
  go_enter Tryd.func14, Tryd.ntmps14
  go_wp2_with fail
  go_ret
  exact ⟨rfl, rfl⟩
end Go.Proofs.YtflonmlnedkmjaaDoor
