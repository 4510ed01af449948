/-
  From the reading of an argument to a datum that lies in memory, with how long its parts are.
  What every card of this seat needs: the listed variable, that the program's own text lays it, and the names in memory.
-/
import Derived.Test.YtnhbpcmiolkllaaDoorDbJ
import Derived.Test.YtnhbpcmiolkllaaDoorSbJ
import GoSem.ClaimJoined
import Derived.Test.YtnhbpcmiolkllaaDoorCards
import Derived.Test.YtnhbpcmiolkllaaDoorEJ
import Derived.SevenTiedAt
import Derived.Carry
import Derived.ProofKit
import Derived.LaidMore
import Derived.OpenShut
import Derived.LaidHandle
import Derived.Stop.Joined
namespace Go.Proofs.YtnhbpcmiolkllaaDoor
open Go.ChangeShapes Go.WideShapes Go.RowKit Go.Deep

theorem bytes3 : Tryd.prog.bytesOf 3 = 8 := by kernel_rfl
theorem bytes28 : Tryd.prog.bytesOf 28 = 136 := by kernel_rfl
theorem mem_weightsAll {H : Type} {P : Program} {e : TypeId} {R : Nat} : ∀ {l : List (DataW H)}, (DataW.weightsAll P e l).all (· ≤ R) = true → ∀ x ∈ l, (x.weights P e).all (· ≤ R) = true
  | [], _, x, hx => by cases hx
  | d :: r, h, x, hx => by
    rw [DataW.weightsAll, List.all_append, Bool.and_eq_true] at h
    rcases List.mem_cons.1 hx with rfl | hx
    · exact h.1
    · exact mem_weightsAll h.2 x hx
theorem parts_small {H : Type} {x : DataW H} {y0 y1 y2 y3 y4 y5 y6 z0 z1 z2 z3 z4 : DataW H × List MemPlace} {t s : ByteArray} {R : Nat} (hx : x = .agg ([y0, y1, y2, y3, y4, y5, y6].map (·.1))) (h1 : y1.1 = .lit (.string t.data.toList)) (h4 : y4.1 = .lit (.string s.data.toList)) (h5 : y5.1 = .agg ([z0, z1, z2, z3, z4].map (·.1)))
    (h : (x.weights Tryd.prog 28).all (· ≤ R) = true) : t.size ≤ R ∧ s.size ≤ R ∧ (z4.1.weights Tryd.prog 23).all (· ≤ R) = true ∧ (y6.1.weights Tryd.prog 26).all (· ≤ R) = true := by
  subst hx
  simp only [DataW.weights, Tryd.underlying28, List.map_cons, List.map_nil, DataW.weightsEach, List.all_append, Bool.and_eq_true] at h
  obtain ⟨_, q1, _, _, q4, q5, q6, _⟩ := h
  rw [h1] at q1
  rw [h4] at q4
  rw [h5] at q5
  simp only [DataW.weights, Tryd.underlying25, List.map_cons, List.map_nil, DataW.weightsEach, List.all_append, Bool.and_eq_true] at q5
  exact ⟨by simpa [DataW.weights] using q1, by simpa [DataW.weights] using q4, q5.2.2.2.2.1, q6⟩
theorem items_small {H : Type} {y : DataW H} {elems rest : List (DataW H × List MemPlace)} {R : Nat} (hy : y = .slice (elems.map (·.1)) (rest.map (·.1))) (h : (y.weights Tryd.prog 26).all (· ≤ R) = true) : elems.length ≤ R ∧ ∀ e ∈ elems, (e.1.weights Tryd.prog 28).all (· ≤ R) = true := by
  subst hy
  simp only [DataW.weights, Tryd.underlying26, List.all_cons, List.all_append, Bool.and_eq_true, decide_eq_true_eq] at h
  refine ⟨?_, fun e he => mem_weightsAll h.2.1 e.1 (List.mem_map.2 ⟨e, he, rfl⟩)⟩
  have h1 := h.1
  rw [bytes28] at h1
  simp only [List.length_map] at h1
  omega

/-- What reads as a list of numbers is one. -/
theorem open_rowS {H : Type} {enc : TypeId × Value → H} {W : World} {base : Nat} {spare : Nat → Bool} {held : Bool} {fuel : Nat} {cs : List Value} {x : DataW H × List MemPlace}
    (h : DataW.trod enc Tryd.prog W base spare held fuel 23 cs = some x) : ∃ (pp : Option Addr) (zs : List Int) (c : Nat), cs = [.slice pp zs.length c] ∧ zs.length ≤ c ∧ c ≤ maxLen ∧
      (∀ z ∈ zs, -9223372036854775808 ≤ z ∧ z ≤ 9223372036854775807) ∧
      (zs = [] ∨ ∃ b o, pp = some ⟨b, o, none⟩ ∧ b < W.heap.size ∧ ∀ (i : Nat) (hi : i < zs.length), W.cell? ⟨b, o + i, none⟩ = some (.int .i64 zs[i])) ∧ ∀ R, (x.1.weights Tryd.prog 23).all (· ≤ R) = true → zs.length ≤ R := by
  rcases DataW.trod_slice Tryd.underlying23 h with ⟨hv, _⟩ | ⟨a, len, cap, elems, rest, m, hm, hcs, hx, _, hl, hcap, hel, hall, _, _⟩
  · exact ⟨none, [], 0, hv, Nat.le_refl _, Nat.zero_le _, fun z hz => (by cases hz), .inl rfl, fun R _ => Nat.zero_le _⟩
  · have each : ∀ i, i < len → ∃ z : Int, W.cell? ⟨a.block, a.off + i, none⟩ = some (.int .i64 z) ∧ (-9223372036854775808 ≤ z ∧ z ≤ 9223372036854775807) ∧ (i = 0 → a = ⟨a.block, a.off, none⟩ ∧ a.block < W.heap.size) := by
      intro i hi
      have key := hall i hi
      rw [List.getElem?_eq_getElem (by omega), cells3] at key
      obtain ⟨cs', h1, h2⟩ := Option.bind_eq_some_iff.1 key
      obtain ⟨z, rfl, _, hz⟩ := DataW.trod_int Tryd.underlying3 h2
      obtain ⟨_, _, hcell⟩ := World.cells?_some h1
      have e0 := hcell 0 (by omega)
      rw [add_add] at e0
      simp only [Nat.mul_one, Nat.add_zero, List.getElem?_cons_zero] at e0
      refine ⟨z, add_flat e0, wf_i64 hz, fun h0 => ?_⟩
      subst h0
      have e1 : a.add 0 = a := by unfold Addr.add; rw [if_pos rfl]
      rw [e1] at e0
      exact ⟨spot_of_cell e0, block_of_cell e0⟩
    obtain ⟨f, hf⟩ := choose_lt each
    refine ⟨some a, (List.range len).map f, cap, by simpa using hcs, by simpa using hl, hcap, fun z hz => ?_, ?_, fun R hR => ?_⟩
    · obtain ⟨i, hi, rfl⟩ := List.mem_map.1 hz
      exact (hf i (List.mem_range.1 hi)).2.1
    · rcases Nat.eq_zero_or_pos len with h0 | h0
      · subst h0; exact .inl rfl
      · obtain ⟨hs0, hb0⟩ := (hf 0 h0).2.2 rfl
        refine .inr ⟨a.block, a.off, by rw [← hs0], hb0, fun i hi => ?_⟩
        have hi' : i < len := by simpa using hi
        simpa using (hf i hi').1
    · have hx1 := (Prod.ext_iff.1 hx).1
      simp only at hx1
      rw [hx1] at hR
      simp only [DataW.weights, Tryd.underlying23, List.all_cons, Bool.and_eq_true, decide_eq_true_eq] at hR
      have h1 := hR.1
      rw [bytes3] at h1
      simp only [List.length_map, List.length_range]
      simp only [List.length_map] at h1
      omega

set_option maxRecDepth 100000 in
set_option maxHeartbeats 1000000 in
/-- What reads as a datum is one that lies in memory. -/
theorem open_mdS_cells {H : Type} {enc : TypeId × Value → H} {W : World} {base : Nat} {spare : Nat → Bool} {held : Bool} : ∀ (N fuel : Nat), fuel ≤ N → ∀ (cs : List Value) (x : DataW H × List MemPlace),
    DataW.trod enc Tryd.prog W base spare held fuel 28 cs = some x → ∃ d : MD, cs = d.cells.toList ∧ d.In W.heap.size W N ∧ ∀ R, (x.1.weights Tryd.prog 28).all (· ≤ R) = true → ∀ m, MD.Small R m d := by
  intro N
  induction N with
  | zero => intro fuel hf cs x h; obtain rfl : fuel = 0 := (by omega); simp [DataW.trod] at h
  | succ N ih =>
    intro fuel hf cs x h
    obtain ⟨xs, n, rfl, hxy, hlen, hxl, hfl⟩ := DataW.trod_struct Tryd.underlying28 h
    rw [cells28] at hlen
    have hxl' : xs.length = 7 := hxl
    clear hxl
    match cs, hlen, xs, hxl' with
    | [v0, v1, v2, v3, v4, v5, v6, v7, v8, v9, v10], _, [y0, y1, y2, y3, y4, y5, y6], _ =>
      have g0 := hfl 0 _ rfl
      have g1 := hfl 1 _ rfl
      have g2 := hfl 2 _ rfl
      have g3 := hfl 3 _ rfl
      have g4 := hfl 4 _ rfl
      have g5 := hfl 5 _ rfl
      have g6 := hfl 6 _ rfl
      simp [cells3, cells9, cells22, cells25, cells26] at g0 g1 g2 g3 g4 g5 g6
      obtain ⟨k, hk, _, hkw⟩ := DataW.trod_int Tryd.underlying3 g0
      obtain ⟨t, ht, hy1, htw⟩ := DataW.trod_string Tryd.underlying9 g1
      obtain ⟨nn, hn, _, hnw⟩ := DataW.trod_int Tryd.underlying3 g2
      obtain ⟨f, hff, _, hfw⟩ := DataW.trod_int Tryd.underlying22 g3
      obtain ⟨s, hs, hy4, hsw⟩ := DataW.trod_string Tryd.underlying9 g4
      obtain ⟨zs, m2, rfl, hzy, _, hzl, hfl2⟩ := DataW.trod_struct Tryd.underlying25 g5
      have hzl' : zs.length = 5 := hzl
      match zs, hzl' with
      | [z0, z1, z2, z3, z4], _ =>
        have e0 := hfl2 0 _ rfl
        have e1 := hfl2 1 _ rfl
        have e2 := hfl2 2 _ rfl
        have e3 := hfl2 3 _ rfl
        have e4 := hfl2 4 _ rfl
        simp [cells3, cells23] at e0 e1 e2 e3 e4
        obtain ⟨r0, hr0, _, hw0⟩ := DataW.trod_int Tryd.underlying3 e0
        obtain ⟨r1, hr1, _, hw1⟩ := DataW.trod_int Tryd.underlying3 e1
        obtain ⟨r2, hr2, _, hw2⟩ := DataW.trod_int Tryd.underlying3 e2
        obtain ⟨r3, hr3, _, hw3⟩ := DataW.trod_int Tryd.underlying3 e3
        obtain ⟨pp, path, pc, hpp, hpl, hpm, hpb, hpath, hpw⟩ := open_rowS e4
        simp only [List.cons.injEq, and_true] at hk ht hn hff hs hr0 hr1 hr2 hr3 hpp
        subst hk ht hn hff hs hr0 hr1 hr2 hr3 hpp
        have hF : MD.Fine { k := k, t := t, n := nn, f := f, s := s, r0 := r0, r1 := r1, r2 := r2, r3 := r3, pp := pp, path := path, pc := pc } :=
          ⟨(wf_i64 hkw).1, (wf_i64 hkw).2, (wf_i64 hnw).1, (wf_i64 hnw).2, (wf_u64 hfw).1, (wf_u64 hfw).2, (wf_i64 hw0).1, (wf_i64 hw0).2, (wf_i64 hw1).1, (wf_i64 hw1).2, (wf_i64 hw2).1, (wf_i64 hw2).2, (wf_i64 hw3).1, (wf_i64 hw3).2, htw, hsw, hpl, hpm⟩
        have hP : MD.PathIn W.heap.size W { k := k, t := t, n := nn, f := f, s := s, r0 := r0, r1 := r1, r2 := r2, r3 := r3, pp := pp, path := path, pc := pc } := ⟨hpb, hpath⟩
        rcases DataW.trod_slice Tryd.underlying26 g6 with ⟨hv, _⟩ | ⟨a, len, cap, elems, rest, m, hm, hcs, hy6, _, hl, hcap, hel, hall, _, _⟩
        · simp only [List.cons.injEq, and_true] at hv
          subst hv
          refine ⟨⟨_, none, 0, []⟩, rfl, ⟨hF, hP, Nat.le_refl _, Nat.zero_le _, .inl rfl⟩, fun R hR m => ?_⟩
          cases m with
          | zero => trivial
          | succ m =>
            obtain ⟨p1, p2, p3, _⟩ := parts_small (Prod.ext_iff.1 hxy).1 (Prod.ext_iff.1 hy1).1 (Prod.ext_iff.1 hy4).1 (Prod.ext_iff.1 hzy).1 hR
            exact ⟨p1, p2, hpw R p3, Nat.zero_le _, fun x hx => by cases hx⟩
        · simp only [List.cons.injEq, and_true] at hcs
          subst hcs
          have each : ∀ i, i < len → ∃ t : MD, MD.CellsAt W a.block (a.off + i * 11) t ∧ t.In W.heap.size W N ∧ (i = 0 → a = ⟨a.block, a.off, none⟩ ∧ a.block < W.heap.size) ∧ ∀ R, (∀ e ∈ elems, (e.1.weights Tryd.prog 28).all (· ≤ R) = true) → ∀ m, MD.Small R m t := by
            intro i hi
            have key := hall i hi
            rw [List.getElem?_eq_getElem (by omega), cells28] at key
            obtain ⟨cs', h1, h2⟩ := Option.bind_eq_some_iff.1 key
            obtain ⟨t, rfl, ht, hsm⟩ := ih m (by omega) _ _ h2
            obtain ⟨_, _, hcell⟩ := World.cells?_some h1
            have e0 := hcell 0 (by omega)
            rw [add_add] at e0
            refine ⟨t, fun j hj => ?_, ht, fun h0 => ?_, fun R hR => hsm R (hR _ (List.getElem_mem _))⟩
            · have ej := hcell j hj
              rw [add_add, Array.getElem?_toList] at ej
              obtain ⟨v, hv⟩ : ∃ v, t.cells[j]? = some v := ⟨t.cells[j]'hj, Array.getElem?_eq_getElem hj⟩
              rw [hv] at ej ⊢
              rw [Nat.add_assoc]
              exact add_flat ej
            · subst h0
              simp only [Nat.zero_mul, Nat.zero_add] at e0
              have e1 : a.add 0 = a := by unfold Addr.add; rw [if_pos rfl]
              rw [e1] at e0
              obtain ⟨v, hv⟩ : ∃ v, W.cell? a = some v := ⟨_, e0⟩
              exact ⟨spot_of_cell hv, block_of_cell hv⟩
          haveI : Inhabited MD := ⟨⟨⟨0, ⟨#[]⟩, 0, 0, ⟨#[]⟩, 0, 0, 0, 0, none, [], 0⟩, none, 0, []⟩⟩
          obtain ⟨g, hg⟩ := choose_lt each
          refine ⟨⟨_, some a, cap, (List.range len).map g⟩, ?_, ⟨hF, hP, by simpa using hl, hcap, ?_⟩, fun R hR m' => ?_⟩
          · simp [MD.cells]
          · rcases Nat.eq_zero_or_pos len with h0 | h0
            · subst h0; exact .inl rfl
            · obtain ⟨hs0, hb0⟩ := (hg 0 h0).2.2.1 rfl
              refine .inr ⟨a.block, a.off, by rw [← hs0], hb0, fun i hi => ?_⟩
              have hi' : i < len := by simpa using hi
              simpa using ⟨(hg i hi').1, (hg i hi').2.1⟩
          · cases m' with
            | zero => trivial
            | succ m' =>
              obtain ⟨p1, p2, p3, p4⟩ := parts_small (Prod.ext_iff.1 hxy).1 (Prod.ext_iff.1 hy1).1 (Prod.ext_iff.1 hy4).1 (Prod.ext_iff.1 hzy).1 hR
              obtain ⟨p5, p6⟩ := items_small (Prod.ext_iff.1 hy6).1 p4
              refine ⟨p1, p2, hpw R p3, ?_, fun x hx => ?_⟩
              · simp only [List.length_map, List.length_range]; omega
              · obtain ⟨i, hi, rfl⟩ := List.mem_map.1 hx
                exact (hg i (List.mem_range.1 hi)).2.2.2 R p6 m'

theorem open_mdS {H : Type} {enc : TypeId × Value → H} {W : World} {base : Nat} {spare : Nat → Bool} {held : Bool} {v : Value} {x : DataW H} {ps : List MemPlace}
    (h : DataW.Trod enc Tryd.prog W base spare held 28 v x ps) : ∃ (n : Nat) (d : MD), v = d.val ∧ d.In W.heap.size W n ∧ ∀ R, (x.weights Tryd.prog 28).all (· ≤ R) = true → ∀ m, MD.Small R m d := by
  obtain ⟨fuel, hf⟩ := h
  obtain ⟨d, hd, hin, hsm⟩ := open_mdS_cells fuel fuel (Nat.le_refl _) _ _ hf
  refine ⟨fuel, d, ?_, hin, hsm⟩
  have hc : v.cells = d.cells := Array.toList_inj.1 hd
  cases v <;> simp [Value.cells, MD.cells] at hc
  rename_i cs
  rw [hc]; rfl
end Go.Proofs.YtnhbpcmiolkllaaDoor
namespace Go.Proofs.YtnhbpcmiolkllaaDoor
open Go.ChangeShapes Go.WideShapes Go.ChangeAt Go.WideMaps Go.WideElems Go.RowKit

theorem Tryd.own : ownKnob Tryd.prog.godebug = none := by kernel_rfl
theorem Tryd.laidOut : laidOutB Tryd.prog = true := by kernel_rfl
theorem gNames : Tryd.prog.globalNamed "guise/value.ownNames" = some 0 := by kernel_rfl
theorem tNames : (Tryd.prog.globals[0]?).map (·.type) = some 141 := by kernel_rfl
theorem cells130 : Tryd.prog.cellsOf 141 = 8 := by kernel_rfl
theorem cells9' : Tryd.prog.cellsOf 9 = 1 := by kernel_rfl

/-- What all rows of this seat list. -/
def laidList : List (String × DataW Unit) := [("guise/value.ownNames", Rows.laid_guise_value_ownNames)]

/-- The heap that the program's own text leaves meets the condition. -/
theorem door_met (os : Os) (args : Array Value) : laidMetH Tryd.prog laidList ((World.doorLaid Tryd.prog 400 os).forCall (fun _ _ => 0) ⟨#[], args, []⟩).memory := by
  rw [MakeChecks.laidMetH_plain _ _ _ (by kernel_rfl)]
  exact laidMet_of_run' 8 (by kernel_rfl) (by kernel_rfl)

def nameTab : List (List UInt8) := [[], [98, 111, 111, 108], [105, 110, 116], [102, 108, 111, 97, 116], [116, 101, 120, 116], [108, 105, 115, 116], [109, 97, 112], [102, 117, 110, 99]]
theorem names_datum : (Rows.laid_guise_value_ownNames : DataW Unit) = .agg (nameTab.map fun x => .lit (.string x)) := rfl

theorem names_of_laid {W : World} (h0 : laidMetH Tryd.prog laidList W) : NamesAt W := by
  rw [MakeChecks.laidMetH_plain _ _ _ (by kernel_rfl)] at h0
  obtain ⟨ps, ⟨g, t, cs, fuel, p, q, hg, ht, hv, hd, _, _⟩, _⟩ := h0
  obtain rfl := Option.some.inj (gNames.symm.trans hg)
  obtain rfl := Option.some.inj (tNames.symm.trans ht)
  rw [names_datum] at hd
  obtain ⟨xs, m, _, hx, hl, hn, hel⟩ := DataW.trod_array Tryd.underlying141 hd
  rw [cells130] at hl
  simp only [Prod.mk.injEq, DataW.agg.injEq] at hx
  have hcs : ∀ i, i < 8 → cs[i]? = names8[i]? := by
    intro i hi
    have h1 := hel i hi
    rw [cells9', Nat.mul_one] at h1
    have h2 := congrArg (fun l => l[i]?) hx.1
    obtain ⟨x, hxi⟩ : ∃ x, xs[i]? = some x := ⟨xs[i], List.getElem?_eq_getElem (by omega)⟩
    rw [hxi] at h1
    simp only [List.getElem?_map, hxi, Option.map_some] at h2
    obtain ⟨s, e1, e2, _⟩ := DataW.trod_string Tryd.underlying9 h1
    rw [e2] at h2
    have h3 : cs.toList[i]? = some (.string s) := by
      have := congrArg (fun l => l[0]?) e1
      simpa using this
    rw [← Array.getElem?_toList, h3]
    obtain ⟨bs, hb1, hb2⟩ : ∃ bs, nameTab[i]? = some bs ∧ names8[i]? = some (.string ⟨bs.toArray⟩) := by
      have : ∀ i, i < 8 → ∃ bs, nameTab[i]? = some bs ∧ names8[i]? = some (.string ⟨bs.toArray⟩) := by
        intro i hi
        match i, hi with
        | 0, _ => exact ⟨_, rfl, rfl⟩
        | 1, _ => exact ⟨_, rfl, rfl⟩
        | 2, _ => exact ⟨_, rfl, rfl⟩
        | 3, _ => exact ⟨_, rfl, rfl⟩
        | 4, _ => exact ⟨_, rfl, rfl⟩
        | 5, _ => exact ⟨_, rfl, rfl⟩
        | 6, _ => exact ⟨_, rfl, rfl⟩
        | 7, _ => exact ⟨_, rfl, rfl⟩
      exact this i hi
    rw [hb1] at h2
    simp only [Option.map_some, Option.some.injEq, DataW.lit.injEq, Lit.string.injEq] at h2
    rw [hb2, h2]
  have h8 : cs.size = 8 := by simpa using hl
  refine ⟨fun j => ?_, ?_⟩
  · rw [World.var?_cell gNames hv j]
    by_cases hj : j < 8
    · exact hcs j hj
    · rw [Array.getElem?_eq_none (by omega), Array.getElem?_eq_none (by show 8 ≤ j; omega)]
  · simp only [World.var?, gNames, Option.bind_some] at hv
    split at hv
    · rename_i h; exact (Array.getElem?_eq_some_iff.1 h).1
    · cases hv
end Go.Proofs.YtnhbpcmiolkllaaDoor
