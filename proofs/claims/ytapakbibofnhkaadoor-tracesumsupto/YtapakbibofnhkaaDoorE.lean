/-
  A list lent as the front of a longer one; is it as it was?
-/
import Derived.Test.YtapakbibofnhkaaDoorD
namespace Go.Proofs.YtapakbibofnhkaaDoor
open Go.RowKit Go.ChangeMaps

/-- What stands behind a list that is lent. -/
def ends : List Ev := [⟨77, 0, ⟨#[]⟩⟩, ⟨78, 0, ⟨#[]⟩⟩]
/-- The cells of events. -/
def evCells : List Ev → List Value
  | [] => []
  | e :: l => .int .i64 e.k :: .int .i64 e.a :: .string e.t :: evCells l
theorem evCells_len : ∀ l : List Ev, (evCells l).length = l.length * 3
  | [] => rfl
  | e :: l => by simp [evCells, evCells_len l]; omega
theorem evCells_app : ∀ a b : List Ev, evCells (a ++ b) = evCells a ++ evCells b
  | [], b => rfl
  | e :: a, b => by simp [evCells, evCells_app a b]
theorem evCells_get : ∀ (l : List Ev) (i : Nat) (hi : i < l.length), (evCells l)[i * 3]? = some (.int .i64 l[i].k) ∧ (evCells l)[i * 3 + 1]? = some (.int .i64 l[i].a) ∧ (evCells l)[i * 3 + 2]? = some (.string l[i].t)
  | [], i, hi => by cases hi
  | e :: l, 0, _ => ⟨rfl, rfl, rfl⟩
  | e :: l, i + 1, hi => by
    have h := evCells_get l i (by simpa using hi)
    rw [show (i + 1) * 3 = i * 3 + 1 + 1 + 1 by omega, show i * 3 + 1 + 1 + 1 + 1 = i * 3 + 1 + 1 + 1 + 1 by rfl]
    simpa [evCells] using h
theorem evCells_one : ∀ (l : List Ev), ∀ u ∈ evCells l, u.oneCell' = true
  | [], u, h => by cases h
  | e :: l, u, h => by
    simp only [evCells, List.mem_cons] at h
    rcases h with rfl | rfl | rfl | h
    · rfl
    · rfl
    · rfl
    · exact evCells_one l u h
/-- A block that holds events from its start on. -/
theorem evsAt_block {w : World} {g c : Nat} {l : List Ev} {cs : Array Value} (h : w.heap[g]? = some (.cells cs 33)) (hc : ∀ i, i < (evCells l).length → cs[i]? = (evCells l)[i]?) : EvsAt w (some ⟨g, 0, none⟩) l ∨ c = c + 1 := by
  refine .inl (.inr ⟨g, 0, rfl, heap_lt h, fun i hi => ?_⟩)
  have h1 := evCells_get l i hi
  have h2 := evCells_len l
  have h3 := (cells_of h).1
  rw [h3, h3, h3]
  simp only [Nat.zero_add]
  rw [hc _ (by omega), hc _ (by omega), hc _ (by omega)]
  exact h1

theorem info33 : (Tryd.prog.info? 33).map (fun i => (i.zero, i.size, i.bytes)) = some (some (.agg #[.int .i64 0, .int .i64 0, .string ⟨#[]⟩]), 3, 32) := by kernel_rfl
theorem run_copy_row3 (w : World) (ty : TypeId) (g dLen dCap : Nat) (a : Addr) (sLen sCap : Nat) (cur : Array Value) (cs : List Value) (hg : w.heap[g]? = some (.cells cur 33)) (hn : cs.length = sLen * 3) (hsd : sLen ≤ dLen)
    (hsrc : ∀ j v, cs[j]? = some v → w.cell? (a.add j) = some v) (hfit : cs.length ≤ cur.size) (h1 : ∀ v ∈ cs, v.oneCell' = true) :
    (Builtin.copy_ #[22, 22] ty #[.slice (some ⟨g, 0, none⟩) dLen dCap, .slice (some a) sLen sCap]).run Tryd.prog w = .ok (goInt sLen) (w.setRow g (cs ++ cur.toList.drop cs.length).toArray) := by
  have hl := run_loadCells_list (P := Tryd.prog) w a cs hsrc
  have hst := run_storeCells_at Tryd.prog g 0 33 cs 0 cur w hg (by simpa using hfit) h1
  obtain ⟨i0, hi, hz0, hz1, hz2⟩ := info_parts info33
  have hm : min sLen dLen = sLen := Nat.min_eq_left hsd
  simp only [Nat.zero_add, List.take_zero, List.nil_append] at hst
  simp [Builtin.copy_, run_underlying Tryd.underlying22, Builtin.lenOf, Builtin.firstCells, sizeOf, typeInfo, hi, hz1, hm, ← hn, hl, hst]
theorem add_flat' (b f j : Nat) : (⟨b, f, none⟩ : Addr).add j = ⟨b, f + j, none⟩ := by unfold Addr.add; split <;> simp_all
theorem evsAt_src {w : World} {b f : Nat} {l : List Ev} (h : ∀ (i : Nat) (hi : i < l.length), w.cell? ⟨b, f + i * 3, none⟩ = some (.int .i64 l[i].k) ∧ w.cell? ⟨b, f + i * 3 + 1, none⟩ = some (.int .i64 l[i].a) ∧ w.cell? ⟨b, f + i * 3 + 2, none⟩ = some (.string l[i].t)) :
    ∀ j v, (evCells l)[j]? = some v → w.cell? ((⟨b, f, none⟩ : Addr).add j) = some v := by
  intro j v hv
  have hj : j < l.length * 3 := by have := (List.getElem?_eq_some_iff.1 hv).1; rwa [evCells_len] at this
  obtain ⟨q, hq⟩ : ∃ q, j = q * 3 ∨ j = q * 3 + 1 ∨ j = q * 3 + 2 := ⟨j / 3, by omega⟩
  have hql : q < l.length := by omega
  obtain ⟨h0, h1, h2⟩ := h q hql
  obtain ⟨g0, g1, g2⟩ := evCells_get l q hql
  rw [add_flat']
  rcases hq with rfl | rfl | rfl
  · rw [hv] at g0; rw [h0, g0]
  · rw [hv] at g1; rw [← Nat.add_assoc, h1, g1]
  · rw [hv] at g2; rw [← Nat.add_assoc, h2, g2]
theorem get_tail (E xs : List Value) (n j : Nat) (h : E.length = n) : (E ++ xs).toArray[n + j]? = xs[j]? := by
  subst h
  rw [List.getElem?_toArray, List.getElem?_append_right (by omega)]
  congr 1
  omega
theorem set_tail (E xs : List Value) (n j : Nat) (v : Value) (h : E.length = n) : (E ++ xs).toArray.setIfInBounds (n + j) v = (E ++ xs.set j v).toArray := by
  subst h; simp [List.set_append_right]
/-- A list is copied into a row that was just made. -/
theorem copy_evs (w0 : World) (l : List Ev) (pp : Option Addr) (c n : Nat) (cur : Array Value) (hn : cur.size = n * 3) (hln : l.length ≤ n) (h : EvsAt w0 pp l) :
    ∃ U, (Builtin.copy_ #[22, 22] 3 #[.slice (some ⟨w0.heap.size, 0, none⟩) n n, .slice pp l.length c]).run Tryd.prog (w0.alloc (.cells cur 33)) = .ok (goInt l.length) U ∧ Below w0.heap.size w0 U ∧ U.heap[w0.heap.size]? = some (.cells (evCells l ++ cur.toList.drop (l.length * 3)).toArray 33) := by
  have hg := heap_alloc_new w0 (.cells cur 33)
  have go : ∀ a : Addr, (∀ j v, (evCells l)[j]? = some v → (w0.alloc (.cells cur 33)).cell? (a.add j) = some v) → ∃ U, (Builtin.copy_ #[22, 22] 3 #[.slice (some ⟨w0.heap.size, 0, none⟩) n n, .slice (some a) l.length c]).run Tryd.prog (w0.alloc (.cells cur 33)) = .ok (goInt l.length) U ∧ Below w0.heap.size w0 U ∧ U.heap[w0.heap.size]? = some (.cells (evCells l ++ cur.toList.drop (l.length * 3)).toArray 33) := by
    intro a ha
    have hc := run_copy_row3 (w0.alloc (.cells cur 33)) 3 w0.heap.size n n a l.length c cur (evCells l) hg (evCells_len l) hln ha (by rw [evCells_len]; omega) (evCells_one l)
    rw [evCells_len] at hc
    have hb2 : Below w0.heap.size (w0.alloc (.cells cur 33)) ((w0.alloc (.cells cur 33)).setRow w0.heap.size (evCells l ++ cur.toList.drop (l.length * 3)).toArray) := ⟨rfl, rfl, rfl, by simp, fun k hk => setRow_other _ _ _ _ (by omega)⟩
    exact ⟨_, hc, (below1 w0 _).trans hb2, setRow_heap _ _ cur _ 33 (0, 0) hg⟩
  rcases h with rfl | ⟨b, f, rfl, hb, hh⟩
  · cases pp with
    | none =>
      refine ⟨w0.alloc (.cells cur 33), ?_, below1 w0 _, by simpa [evCells] using hg⟩
      obtain ⟨i0, hi, hz0, hz1, hz2⟩ := info_parts info33
      simp [Builtin.copy_, run_underlying Tryd.underlying22, Builtin.lenOf, Builtin.firstCells, sizeOf, typeInfo, hi, storeCells]
    | some a => exact go a (fun j v hv => by simp [evCells] at hv)
  · refine go _ (fun j v hv => ?_)
    have hk := (below1 w0 (.cells cur 33))
    have := evsAt_src hh j v hv
    rw [add_flat'] at this ⊢
    rw [hk.cell (p := ⟨b, f + j, none⟩) hb]
    exact this
theorem six {l : List Value} (h : l.length = 6) : ∃ a b c d e f, l = [a, b, c, d, e, f] := by
  match l, h with
  | [a, b, c, d, e, f], _ => exact ⟨a, b, c, d, e, f, rfl⟩
set_option maxRecDepth 100000 in
set_option maxHeartbeats 4000000 in
theorem lent_any (l : List Ev) (pp : Option Addr) (c : Nat) (w : World) (ha : EvsAt w pp l) (hl : l.length * 32 ≤ 140737488355328) :
    Calls Tryd.prog 8 #[.slice pp l.length c] w fun r w' => r = .returned (.slice (some ⟨w.heap.size, 0, none⟩) l.length (l.length + 2)) ∧ Below w.heap.size w w' ∧ w'.heap[w.heap.size]? = some (.cells (evCells (l ++ ends)).toArray 33) := by
  obtain ⟨i0, hi, hz0, hz1, hz2⟩ := info_parts info33
  have hmk := run_make (P := Tryd.prog) w 22 33 i0 _ Tryd.underlying22 hi hz0 .i64 .i64 ((l.length : Int) + 2) ((l.length : Int) + 2) (by omega) (by omega) (by rw [hz2]; omega) (by omega)
  obtain ⟨M, hM⟩ : ∃ M, M = madeCells (Value.agg #[.int .i64 0, .int .i64 0, .string ⟨#[]⟩]).cells (((l.length : Int) + 2).toNat * i0.size) := ⟨_, rfl⟩
  have hMs : M.size = (l.length + 2) * 3 := by rw [hM, size_madeCells, hz1]; omega
  rw [← hM, show ((l.length : Int) + 2).toNat = l.length + 2 by omega] at hmk
  clear hM
  obtain ⟨U, hcp, hU, hg⟩ := copy_evs w l pp c (l.length + 2) M hMs (by omega) ha
  obtain ⟨z0, z1, z2, z3, z4, z5, hz⟩ := six (l := M.toList.drop (l.length * 3)) (by rw [List.length_drop, Array.length_toList]; omega)
  rw [hz] at hg
  obtain ⟨E, hE⟩ : ∃ E, E = evCells l := ⟨_, rfl⟩
  have hEl : E.length = l.length * 3 := by rw [hE, evCells_len]
  rw [← hE] at hg
  have HF : Hid (evCells (l ++ ends) = E ++ [.int .i64 77, .int .i64 0, .string ⟨#[]⟩, .int .i64 78, .int .i64 0, .string ⟨#[]⟩]) := by show _ = _; rw [evCells_app, hE]; rfl
  have hy := heap_lt hg
  have e0 : (E ++ [z0, z1, z2, z3, z4, z5]).toArray[l.length * 3]? = some z0 := by have := get_tail E [z0, z1, z2, z3, z4, z5] _ 0 hEl; rw [show l.length * 3 = l.length * 3 + 0 by omega]; exact this
  have e1 : (E ++ [z0, z1, z2, z3, z4, z5]).toArray[l.length * 3 + 1]? = some z1 := by have := get_tail E [z0, z1, z2, z3, z4, z5] _ 1 hEl; rw [show l.length * 3 + 1 = l.length * 3 + 1 by omega]; exact this
  have e2 : (E ++ [z0, z1, z2, z3, z4, z5]).toArray[l.length * 3 + 2]? = some z2 := by have := get_tail E [z0, z1, z2, z3, z4, z5] _ 2 hEl; rw [show l.length * 3 + 2 = l.length * 3 + 2 by omega]; exact this
  have e3 : (E ++ [z0, z1, z2, z3, z4, z5]).toArray[(l.length + 1) * 3]? = some z3 := by have := get_tail E [z0, z1, z2, z3, z4, z5] _ 3 hEl; rw [show (l.length + 1) * 3 = l.length * 3 + 3 by omega]; exact this
  have e4 : (E ++ [z0, z1, z2, z3, z4, z5]).toArray[(l.length + 1) * 3 + 1]? = some z4 := by have := get_tail E [z0, z1, z2, z3, z4, z5] _ 4 hEl; rw [show (l.length + 1) * 3 + 1 = l.length * 3 + 4 by omega]; exact this
  have e5 : (E ++ [z0, z1, z2, z3, z4, z5]).toArray[(l.length + 1) * 3 + 2]? = some z5 := by have := get_tail E [z0, z1, z2, z3, z4, z5] _ 5 hEl; rw [show (l.length + 1) * 3 + 2 = l.length * 3 + 5 by omega]; exact this
  have hc := (cells_of hg).1
  have hf := (cells_of hg).2
  have c0 := (hc _).trans e0
  have c1 := (hc _).trans e1
  have c2 := (hc _).trans e2
  have c3 := (hc _).trans e3
  have c4 := (hc _).trans e4
  have c5 := (hc _).trans e5
  have HG : Hid _ := hg
  have HEl : Hid _ := hEl
  clear hc e0 e1 e2 e3 e4 e5 hE hz hg hEl ha
  have i1 : (l.length : Int) + 1 ≤ 9223372036854775807 := by omega
  go_enter Tryd.func8, Tryd.ntmps8
  go_wp2_with fail
  go_ret
  refine ⟨rfl, ?_, ?_⟩
  · exact (((((hU.setCell (p := ⟨w.heap.size, _, none⟩) (Nat.le_refl _) _).setCell (p := ⟨w.heap.size, _, none⟩) (Nat.le_refl _) _).setCell (p := ⟨w.heap.size, _, none⟩) (Nat.le_refl _) _).setCell (p := ⟨w.heap.size, _, none⟩) (Nat.le_refl _) _).setCell (p := ⟨w.heap.size, _, none⟩) (Nat.le_refl _) _).setCell (p := ⟨w.heap.size, _, none⟩) (Nat.le_refl _) _
  · rw [HF.out]
    have hh := heap_set (heap_set (heap_set (heap_set (heap_set (heap_set HG.out (l.length * 3) (.int .i64 77)) (l.length * 3 + 1) (.int .i64 0)) (l.length * 3 + 2) (.string ⟨#[]⟩)) ((l.length + 1) * 3) (.int .i64 78)) ((l.length + 1) * 3 + 1) (.int .i64 0)) ((l.length + 1) * 3 + 2) (.string ⟨#[]⟩)
    have q0 := set_tail E [z0, z1, z2, z3, z4, z5] _ 0 (.int .i64 77) HEl.out
    rw [Nat.add_zero] at q0
    rw [q0, set_tail E _ _ 1 _ HEl.out, set_tail E _ _ 2 _ HEl.out, show (l.length + 1) * 3 = l.length * 3 + 3 by omega, set_tail E _ _ 3 _ HEl.out, show l.length * 3 + 3 + 1 = l.length * 3 + 4 by omega, set_tail E _ _ 4 _ HEl.out, show l.length * 3 + 3 + 2 = l.length * 3 + 5 by omega, set_tail E _ _ 5 _ HEl.out] at hh
    rw [show (l.length + 1) * 3 = l.length * 3 + 3 by omega, show l.length * 3 + 3 + 1 = l.length * 3 + 4 by omega, show l.length * 3 + 3 + 2 = l.length * 3 + 5 by omega]
    exact hh

/-- The events are still there. -/
def SRel (U : World) (n : Nat) (i : Value) (wr : World) : Prop := ∃ k : Nat, i = .int .i64 k ∧ k ≤ n ∧ Below U.heap.size U wr

set_option maxRecDepth 100000 in
set_option maxHeartbeats 4000000 in
theorem still_any (l : List Ev) (pp : Option Addr) (c g : Nat) (w : World) (ha : EvsAt w pp l) (hl : l.length * 32 ≤ 140737488355328) (hg : w.heap[g]? = some (.cells (evCells (l ++ ends)).toArray 33)) :
    Calls Tryd.prog 11 #[.slice (some ⟨g, 0, none⟩) l.length (l.length + 2), .slice pp l.length c] w fun r w' => r = .returned (.bool true) ∧ Below w.heap.size w w' := by
  have hgs := heap_lt hg
  have HC : Hid (∀ W : World, Below w.heap.size w W → ∀ (i : Nat) (hi : i < (l ++ ends).length), W.cell? ⟨g, i * 3, none⟩ = some (.int .i64 (l ++ ends)[i].k) ∧ W.cell? ⟨g, i * 3 + 1, none⟩ = some (.int .i64 (l ++ ends)[i].a) ∧ W.cell? ⟨g, i * 3 + 2, none⟩ = some (.string (l ++ ends)[i].t)) := fun W hW i hi => by
    have h1 := evCells_get _ i hi
    have h3 := (cells_of ((hW.block _ hgs).trans hg)).1
    rw [h3, h3, h3]
    simpa using h1
  have HA : Hid (EvsAt w pp l) := ha
  clear ha hg
  go_enter Tryd.func11, Tryd.ntmps11
  go_wp2_with fail
  go_loopw [6] (fun i wr => SRel w l.length i wr) (fun i _ => l.length - (intOf i).toNat)
  case atStart => exact ⟨0, rfl, Nat.zero_le _, Below.refl _ _⟩
  case round =>
    obtain ⟨k, rfl, hk, hbr⟩ := hrel
    have HW : Hid (Below w.heap.size w wr) := hbr
    clear hbr
    by_cases hlt : k < l.length
    · have i2 : (k : Int) < l.length := by omega
      have kk2 : (k : Int) + 1 ≤ 9223372036854775807 := by omega
      obtain ⟨ba, fa, rfl, hba, hca⟩ := (HA.out.below HW.out (Nat.le_refl _)).nonempty (by omega)
      obtain ⟨qa0, qa1, qa2⟩ := hca k hlt
      obtain ⟨qb0, qb1, qb2⟩ := HC.out wr HW.out k (by rw [List.length_append]; omega)
      rw [List.getElem_append_left hlt] at qb0 qb1 qb2
      clear hca
      generalize l[k] = e at qa0 qa1 qa2 qb0 qb1 qb2
      have hq : ∀ W, (Op.equalIn 10000 33 (.agg #[.int .i64 e.k, .int .i64 e.a, .string e.t]) (.agg #[.int .i64 e.k, .int .i64 e.a, .string e.t])).run Tryd.prog W = .ok true W := fun W => by rw [eqEv e e W, Ev.same_iff.2 rfl]
      go_wp2_with fail
      go_quiet (fail)
      try simp only [Bool.not_true]
      go_wp2_with fail
      go_roundw
      case rel => exact ⟨k + 1, by go_num, hlt, below_drewN HW.out _⟩
      case measure => simp [intOf]; omega
    · obtain rfl : k = l.length := by omega
      obtain ⟨qb0, qb1, qb2⟩ := HC.out wr HW.out l.length (by simp [ends])
      obtain ⟨qc0, qc1, qc2⟩ := HC.out wr HW.out (l.length + 1) (by simp [ends])
      simp only [List.getElem_append_right (Nat.le_refl _), Nat.sub_self, ends, List.getElem_cons_zero] at qb0 qb1 qb2
      simp only [List.getElem_append_right (Nat.le_succ _), ends] at qc0 qc1 qc2
      have kk2 : (l.length : Int) + 2 ≤ 9223372036854775807 := by omega
      go_wp2_with fail
      go_ret
      exact ⟨rfl, HW.out⟩
end Go.Proofs.YtapakbibofnhkaaDoor
