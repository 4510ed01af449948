/-
  From the reading of an argument to the tree that lies in memory, with how long its texts are.
-/
import Derived.Test.YthbnegggohegkaaGreatDoorOp
import Derived.Test.YthbnegggohegkaaGreatDoorOr
import GoSem.ClaimJoined
namespace Go.Proofs.YthbnegggohegkaaGreatDoor
open Go.ChangeShapes Go.WideShapes Go.RowKit Go.Deep

theorem mem_ordL {d : Nat} {y : Nat × MT} : ∀ {ts : List MT}, y ∈ MT.ordL d ts → ∃ t ∈ ts, y ∈ MT.ord d t
  | [], h => by rw [MT.ordL] at h; cases h
  | t :: ts, h => by
    rw [MT.ordL, List.mem_append] at h
    rcases h with h | h
    · exact ⟨t, by simp, h⟩
    · obtain ⟨u, hu, hy⟩ := mem_ordL h
      exact ⟨u, by simp [hu], hy⟩

theorem mem_weightsAll {H : Type} {P : Program} {e : TypeId} {R : Nat} : ∀ {l : List (DataW H)}, (DataW.weightsAll P e l).all (· ≤ R) = true → ∀ x ∈ l, (x.weights P e).all (· ≤ R) = true
  | [], _, x, hx => by cases hx
  | d :: r, h, x, hx => by
    rw [DataW.weightsAll, List.all_append, Bool.and_eq_true] at h
    rcases List.mem_cons.1 hx with rfl | hx
    · exact h.1
    · exact mem_weightsAll h.2 x hx

theorem text_small {H : Type} {x : DataW H} {y0 y1 y2 y3 y4 : DataW H × List MemPlace} {s : ByteArray} {R : Nat} (hx : x = .agg ([y0, y1, y2, y3, y4].map (·.1))) (h1 : y1.1 = .lit (.string s.data.toList))
    (h : (x.weights Tryz.prog 24).all (· ≤ R) = true) : s.size ≤ R := by
  subst hx
  simp only [DataW.weights, Tryz.underlying24, List.map_cons, List.map_nil, DataW.weightsEach, List.all_append, Bool.and_eq_true] at h
  have h2 := h.2.1
  rw [h1] at h2
  simpa [DataW.weights] using h2

theorem kids_small {H : Type} {x : DataW H} {y0 y1 y2 y3 y4 : DataW H × List MemPlace} {elems rest : List (DataW H × List MemPlace)} {R : Nat} (hx : x = .agg ([y0, y1, y2, y3, y4].map (·.1))) (h4 : y4.1 = .slice (elems.map (·.1)) (rest.map (·.1)))
    (h : (x.weights Tryz.prog 24).all (· ≤ R) = true) : ∀ e ∈ elems, (e.1.weights Tryz.prog 24).all (· ≤ R) = true := by
  subst hx
  simp only [DataW.weights, Tryz.underlying24, List.map_cons, List.map_nil, DataW.weightsEach, List.all_append, Bool.and_eq_true] at h
  have h2 := h.2.2.2.2.1
  rw [h4] at h2
  simp only [DataW.weights, Tryz.underlying22, List.all_cons, List.all_append, Bool.and_eq_true] at h2
  exact fun e he => mem_weightsAll h2.2.1 e.1 (List.mem_map.2 ⟨e, he, rfl⟩)

set_option maxRecDepth 100000 in
/-- What reads as a node is a tree that lies in memory; no text of it is longer than what is read. -/
theorem open_tree_small_cells {H : Type} {enc : TypeId × Value → H} {W : World} {base : Nat} {spare : Nat → Bool} {held : Bool} : ∀ (N fuel : Nat), fuel ≤ N → ∀ (cs : List Value) (x : DataW H × List MemPlace),
    DataW.trod enc Tryz.prog W base spare held fuel 24 cs = some x → ∃ t : MT, cs = t.cells.toList ∧ t.In W.heap.size W ∧ ∀ R, (x.1.weights Tryz.prog 24).all (· ≤ R) = true → ∀ d, ∀ y ∈ MT.ord d t, y.2.text.size ≤ R := by
  intro N
  induction N with
  | zero => intro fuel hf cs x h; obtain rfl : fuel = 0 := (by omega); simp [DataW.trod] at h
  | succ N ih =>
    intro fuel hf cs x h
    obtain ⟨xs, n, rfl, hxy, hlen, hxl, hfl⟩ := DataW.trod_struct Tryz.underlying24 h
    rw [cells24] at hlen
    have hxl' : xs.length = 5 := hxl
    clear hxl
    match cs, hlen, xs, hxl' with
    | [v0, v1, v2, v3, v4], _, [y0, y1, y2, y3, y4], _ =>
      have g0 := hfl 0 _ rfl
      have g1 := hfl 1 _ rfl
      have g2 := hfl 2 _ rfl
      have g3 := hfl 3 _ rfl
      have g4 := hfl 4 _ rfl
      simp [cells3, cells9, cells22] at g0 g1 g2 g3 g4
      obtain ⟨k, hk, _, _⟩ := DataW.trod_int Tryz.underlying3 g0
      obtain ⟨s, hs, hy1, hsz⟩ := DataW.trod_string Tryz.underlying9 g1
      obtain ⟨nn, hn, _, _⟩ := DataW.trod_int Tryz.underlying3 g2
      obtain ⟨aa, ha, _, _⟩ := DataW.trod_int Tryz.underlying3 g3
      simp only [List.cons.injEq, and_true] at hk hs hn ha
      subst hk hs hn ha
      rcases DataW.trod_slice Tryz.underlying22 g4 with ⟨hv, _⟩ | ⟨a, len, cap, elems, rest, m, hm, hcs, hy4, _, hl, hcap, hel, hall, _, _⟩
      · simp only [List.cons.injEq, and_true] at hv
        subst hv
        refine ⟨.node k s nn aa none 0 [], rfl, ?_, fun R hR d y hy => ?_⟩
        · rw [MT.In]
          exact ⟨hsz, Nat.le_refl _, Nat.zero_le _, .inl rfl⟩
        · rw [MT.ord, MT.ordL, List.mem_singleton] at hy
          subst hy
          exact text_small (Prod.ext_iff.1 hxy).1 (Prod.ext_iff.1 hy1).1 hR
      · simp only [List.cons.injEq, and_true] at hcs
        subst hcs
        have each : ∀ i, i < len → ∃ t : MT, MT.CellsAt W a.block (a.off + i * 5) t ∧ t.In W.heap.size W ∧ (i = 0 → a = ⟨a.block, a.off, none⟩ ∧ a.block < W.heap.size) ∧ ∀ R, (∀ e ∈ elems, (e.1.weights Tryz.prog 24).all (· ≤ R) = true) → ∀ d, ∀ y ∈ MT.ord d t, y.2.text.size ≤ R := by
          intro i hi
          have key := hall i hi
          rw [List.getElem?_eq_getElem (by omega), cells24] at key
          obtain ⟨cs', h1, h2⟩ := Option.bind_eq_some_iff.1 key
          obtain ⟨t, rfl, ht, hsm⟩ := ih m (by omega) _ _ h2
          obtain ⟨_, _, hcell⟩ := World.cells?_some h1
          have e0 := hcell 0 (by omega)
          have e1 := hcell 1 (by omega)
          have e2 := hcell 2 (by omega)
          have e3 := hcell 3 (by omega)
          have e4 := hcell 4 (by omega)
          rw [add_add] at e0 e1 e2 e3 e4
          have st : ∀ j, j < 5 → ∀ v, W.cell? (a.add (i * 5 + j)) = some v → W.cell? ⟨a.block, a.off + i * 5 + j, none⟩ = some v := by
            intro j _ v hv
            by_cases h0 : i * 5 + j = 0
            · have e : a.add (i * 5 + j) = a := by unfold Addr.add; rw [if_pos h0]
              rw [e] at hv
              have hsp := spot_of_cell hv
              rw [hsp] at hv
              rw [show a.off + i * 5 + j = a.off by omega]
              exact hv
            · have e : a.add (i * 5 + j) = ⟨a.block, a.off + (i * 5 + j), none⟩ := by unfold Addr.add; rw [if_neg h0]
              rw [e] at hv
              rw [Nat.add_assoc]
              exact hv
          refine ⟨t, ⟨?_, ?_, ?_, ?_, ?_⟩, ht, fun h0 => ?_, fun R hR => hsm R (hR _ (List.getElem_mem _))⟩
          · simpa using st 0 (by omega) _ e0
          · simpa using st 1 (by omega) _ e1
          · simpa using st 2 (by omega) _ e2
          · simpa using st 3 (by omega) _ e3
          · exact st 4 (by omega) (.slice t.ptr t.kids.length t.cap) e4
          · subst h0
            simp only [Nat.zero_mul, Nat.zero_add, Addr.add, if_true] at e0
            exact ⟨spot_of_cell e0, block_of_cell e0⟩
        obtain ⟨f, hf'⟩ := choose_lt each
        refine ⟨.node k s nn aa (some a) cap ((List.range len).map f), ?_, ?_, fun R hR d y hy => ?_⟩
        · simp [MT.cells, MT.row, MT.kind, MT.text, MT.num, MT.at_, MT.ptr, MT.cap, MT.kids]
        · rw [MT.In]
          refine ⟨hsz, by simpa using hl, hcap, ?_⟩
          rcases Nat.eq_zero_or_pos len with h0 | h0
          · subst h0; exact .inl rfl
          · obtain ⟨hs0, hb0⟩ := (hf' 0 h0).2.2.1 rfl
            refine .inr ⟨a.block, a.off, by rw [← hs0], hb0, MT.InL.mk fun i hi => ?_⟩
            have hi' : i < len := by simpa using hi
            simpa using ⟨(hf' i hi').1, (hf' i hi').2.1⟩
        · rw [MT.ord, List.mem_cons] at hy
          rcases hy with rfl | hy
          · exact text_small (Prod.ext_iff.1 hxy).1 (Prod.ext_iff.1 hy1).1 hR
          · obtain ⟨u, hu, hy⟩ := mem_ordL hy
            obtain ⟨i, hi, rfl⟩ := List.mem_map.1 hu
            exact (hf' i (List.mem_range.1 hi)).2.2.2 R (kids_small (Prod.ext_iff.1 hxy).1 (Prod.ext_iff.1 hy4).1 hR) _ y hy

theorem open_tree_small {H : Type} {enc : TypeId × Value → H} {W : World} {base : Nat} {spare : Nat → Bool} {held : Bool} {v : Value} {d : DataW H} {ps : List MemPlace}
    (h : DataW.Trod enc Tryz.prog W base spare held 24 v d ps) : ∃ t : MT, v = nodeV t ∧ t.In W.heap.size W ∧ ∀ R, (d.weights Tryz.prog 24).all (· ≤ R) = true → ∀ n, ∀ y ∈ MT.ord n t, y.2.text.size ≤ R := by
  obtain ⟨fuel, hf⟩ := h
  obtain ⟨t, ht, hin, hsm⟩ := open_tree_small_cells fuel fuel (Nat.le_refl _) _ _ hf
  refine ⟨t, ?_, hin, hsm⟩
  have hc : v.cells = t.cells := Array.toList_inj.1 ht
  cases v <;> simp [Value.cells, MT.cells] at hc
  rename_i cs
  rw [hc]; rfl
end Go.Proofs.YthbnegggohegkaaGreatDoor
