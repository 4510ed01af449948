/-
  A cache with a ring of any length: its Find.
-/
import Derived.Test.YtaboeocgoocgfaaGreatDoorBfJ
import Derived.Test.YtaboeocgoocgfaaGreatDoorBem
import Derived.Test.YtaboeocgoocgfaaGreatDoorBee
import Derived.Test.YtaboeocgoocgfaaGreatDoorBet
namespace Go.Proofs.YtaboeocgoocgfaaGreatDoor
open Go.RowKit Go.ChangeMaps

set_option maxRecDepth 100000 in
set_option maxHeartbeats 4000000 in
theorem CFind_any (cb : Nat) (s : ByteArray) (w : World) (P : Nat → World → Prop)
    (hask : Calls Tryz.prog 31 #[.pointer (some ⟨cb, 0, none⟩), .agg #[.int .i64 0, .string ⟨#[65]⟩, .bool false, .string s]] (w.alloc (.cells #[.int .i64 0, .slice none 0 0, .string ⟨#[]⟩, .bool false, .int .i64 0] 50)) fun e w' => ∃ eb o n, e = .returned (.pointer (some ⟨eb, 0, none⟩)) ∧ w'.heap[eb]? = some (.cells (entC s o n) 72) ∧ w'.heap[w.heap.size]? = some (.cells #[.int .i64 0, .slice none 0 0, .string ⟨#[]⟩, .bool false, .int .i64 0] 50) ∧ P eb w') :
    Calls Tryz.prog 15 #[.pointer (some ⟨cb, 0, none⟩), .string ⟨#[65]⟩, .bool false, .string s] w fun e w' => ∃ eb V, e = .returned fnd0 ∧ P eb V ∧ Kp (· = w.heap.size) V w' := by
  go_enter Tryz.func15, Tryz.ntmps15
  go_wp2_with fail
  refine Calls.mono hask ?_
  rintro _ V1 ⟨eb, o, n, rfl, e1, r1, hP⟩
  have ec1 : ∀ j, V1.cell? ⟨eb, j, none⟩ = (#[.int .i64 0, .string ⟨#[65]⟩, .bool false, .string s, .int .i64 0, .slice none 0 0, .string ⟨#[]⟩, .bool false, .int .i64 0, .bool false, o, n] : Array Value)[j]? := (cells_of e1).1
  have z1 := heap_lt r1
  go_wp2_with fail
  refine Calls.mono (copied_0 _) ?_
  rintro _ V2 ⟨rfl, k2⟩
  have z2 := k2.size
  have r2 : V2.heap[w.heap.size]? = some (.cells #[.int .i64 0, .slice none 0 0, .string ⟨#[]⟩, .bool false, .int .i64 0] 50) := (k2.block _ (by omega)).trans r1
  obtain ⟨rc2, rf2⟩ := cells_of r2
  go_wp2_with fail
  obtain ⟨V3, hV3⟩ : ∃ W, W = ((((V2.setCell ⟨w.heap.size, 0, none⟩ (.int .i64 0)).setCell ⟨w.heap.size, 1, none⟩ (.slice none 0 0)).setCell ⟨w.heap.size, 2, none⟩ (.string ⟨#[]⟩)).setCell ⟨w.heap.size, 3, none⟩ (.bool false)).setCell ⟨w.heap.size, 4, none⟩ (.int .i64 0) := ⟨_, rfl⟩
  rw [← hV3]
  have k3 : Kp (· = w.heap.size) V2 V3 := by rw [hV3]; exact kp_set5 _ _ _ _ _ _ _
  have r3 : V3.heap[w.heap.size]? = some (.cells #[.int .i64 0, .slice none 0 0, .string ⟨#[]⟩, .bool false, .int .i64 0] 50) := by rw [hV3]; exact kp_five r2
  clear hV3
  have rc3 := (cells_of r3).1
  exact bodyPost_ret (v := fnd0) (by simp [results, Tryz.results15, go_sem, rc3]) rfl ⟨eb, V1, rfl, hP, (Kp.of k2).trans k3 fun _ _ h => h⟩

/-- The blocks of a cache. -/
def own (mb cb : Nat) (L : List (ByteArray × Nat)) (i : Nat) : Prop := i = cb ∨ i = mb ∨ ∃ x ∈ L, i = x.2
/-- A cache in memory: its ring, its map. -/
structure St (w : World) (tb mb cb : Nat) (rm h m : Int) (L : List (ByteArray × Nat)) (D : List (ByteArray × Nat × Nat)) (k : Nat) : Prop where
  ring : Ring w tb mb cb rm h m L
  map : w.heap[mb]? = some (.map (ents D).toArray k)
  mc : mb ≠ cb
  mL : ∀ x ∈ L, x.2 ≠ mb
theorem St.lt {w : World} {tb mb cb k : Nat} {rm h m : Int} {L : List (ByteArray × Nat)} {D : List (ByteArray × Nat × Nat)} (s : St w tb mb cb rm h m L D k) {i : Nat} (hi : own mb cb L i) : i < w.heap.size := by
  rcases hi with rfl | rfl | ⟨x, hx, rfl⟩
  · exact heap_lt s.ring.cache
  · exact heap_lt s.map
  · exact Row.lt s.ring.row x hx
theorem St.kp {w w' : World} {S : Nat → Prop} {tb mb cb k : Nat} {rm h m : Int} {L : List (ByteArray × Nat)} {D : List (ByteArray × Nat × Nat)} (s : St w tb mb cb rm h m L D k) (kk : Kp S w w') (hS : ∀ i, own mb cb L i → ¬ S i) : St w' tb mb cb rm h m L D k :=
  ⟨⟨(kk.block _ (heap_lt s.ring.cache) (hS _ (Or.inl rfl))).trans s.ring.cache, Row.kp kk s.ring.row fun x hx => hS _ (Or.inr (Or.inr ⟨x, hx, rfl⟩)), s.ring.apart, s.ring.once⟩, (kk.block _ (heap_lt s.map) (hS _ (Or.inr (Or.inl rfl)))).trans s.map, s.mc, s.mL⟩

section
variable {tb M g cap pb pe clk mb cb k : Nat} {es : Array MapEntry} {rm h m : Int} {L : List (ByteArray × Nat)} {D : List (ByteArray × Nat × Nat)} {s : ByteArray}

theorem find_miss (w : World) (st : St w tb mb cb rm h m L D k) (tB : Nat) (ht : TabAt w tb M g cap pb pe es clk) (hB : tb < tB ∧ M < tB ∧ g < tB ∧ pb < tB ∧ pe < tB) (hBc : tB ≤ cb) (hs : s.size ≤ 60000) (hnx : Instr.findNow .string (.string s) (#[⟨.string ⟨#[120]⟩, .agg #[.bool true, .int .i64 0, .bool false, .int .i64 0], 0⟩] : Array MapEntry).toList 0 = some none) (hno : at? s D 0 = none) (hlr : (D.length : Int) + 1 ≤ rm) (hl100 : D.length ≤ 90) (hh : 0 ≤ m ∧ m < 1000) :
    Calls Tryz.prog 15 #[.pointer (some ⟨cb, 0, none⟩), .string ⟨#[65]⟩, .bool false, .string s] w fun e w' => ∃ eb, e = .returned fnd0 ∧ w.heap.size ≤ eb ∧ St w' tb mb cb rm h (m + 1) (L ++ [(s, eb)]) (D ++ [(s, eb, k)]) (k + 1) ∧ Kp (own mb cb L) w w' := by
  have ka := Kp.alloc (fun _ => False) w (.cells #[.int .i64 0, .slice none 0 0, .string ⟨#[]⟩, .bool false, .int .i64 0] 50)
  have st' := st.kp ka fun _ _ h => h
  refine Calls.mono (CFind_any cb s w (fun eb V => w.heap.size < eb ∧ St V tb mb cb rm h (m + 1) (L ++ [(s, eb)]) (D ++ [(s, eb, k)]) (k + 1) ∧ Kp (own mb cb L) (w.alloc (.cells #[.int .i64 0, .slice none 0 0, .string ⟨#[]⟩, .bool false, .int .i64 0] 50)) V) ?_) ?_
  · refine Calls.mono (ring_miss _ st'.ring st'.map st.mc st.mL tB (ht.below (below1 w _)) hB hBc hs hnx hno hlr hl100 hh) ?_
    rintro _ V ⟨eb, rfl, h1, h2, r, mm, kk⟩
    simp only [World.size_alloc] at h1
    have hmb := st.lt (Or.inr (Or.inl rfl))
    refine ⟨eb, _, _, rfl, Row.split _ _ r.row, (kk.block _ (by simp) fun h => ?_).trans (heap_new _ _ _ rfl), by omega, ⟨r, mm, st.mc, fun x hx => ?_⟩, kk⟩
    · exact absurd (st.lt h) (Nat.lt_irrefl _)
    · rcases List.mem_append.1 hx with hx | hx
      · exact st.mL x hx
      · simp at hx; subst hx; show eb ≠ mb; omega
  · rintro _ w' ⟨eb, V, rfl, ⟨h1, sv, kv⟩, k3⟩
    refine ⟨eb, rfl, by omega, sv.kp k3 fun i hi (e : i = w.heap.size) => ?_, ((Kp.alloc (own mb cb L) w _).trans kv fun _ _ h => h).trans k3 fun i hi e => by omega⟩
    subst e
    rcases hi with h | h | ⟨x, hx, h⟩
    · exact absurd (st.lt (Or.inl h)) (Nat.lt_irrefl _)
    · exact absurd (st.lt (Or.inr (Or.inl h))) (Nat.lt_irrefl _)
    · rcases List.mem_append.1 hx with hx | hx
      · exact absurd (st.lt (Or.inr (Or.inr ⟨x, hx, h⟩))) (Nat.lt_irrefl _)
      · simp at hx; subst hx; simp at h; omega

theorem find_evict {s0 : ByteArray} {e0 t0 : Nat} (w : World) (st : St w tb mb cb rm h m ((s0, e0) :: L) ((s0, e0, t0) :: D) k) (tB : Nat) (ht : TabAt w tb M g cap pb pe es clk) (hB : tb < tB ∧ M < tB ∧ g < tB ∧ pb < tB ∧ pe < tB) (hBc : tB ≤ cb) (hs : s.size ≤ 60000) (hnx : Instr.findNow .string (.string s) (#[⟨.string ⟨#[120]⟩, .agg #[.bool true, .int .i64 0, .bool false, .int .i64 0], 0⟩] : Array MapEntry).toList 0 = some none) (hno : at? s ((s0, e0, t0) :: D) 0 = none) (hlr : (D.length : Int) + 1 = rm) (hl100 : D.length ≤ 90) (hh : 0 ≤ m ∧ m < 1000) :
    Calls Tryz.prog 15 #[.pointer (some ⟨cb, 0, none⟩), .string ⟨#[65]⟩, .bool false, .string s] w fun e w' => ∃ eb, e = .returned fnd0 ∧ w.heap.size ≤ eb ∧ St w' tb mb cb rm h (m + 1) (L ++ [(s, eb)]) (D ++ [(s, eb, k)]) (k + 1) ∧ Kp (own mb cb ((s0, e0) :: L)) w w' := by
  have ka := Kp.alloc (fun _ => False) w (.cells #[.int .i64 0, .slice none 0 0, .string ⟨#[]⟩, .bool false, .int .i64 0] 50)
  have st' := st.kp ka fun _ _ h => h
  refine Calls.mono (CFind_any cb s w (fun eb V => w.heap.size < eb ∧ St V tb mb cb rm h (m + 1) (L ++ [(s, eb)]) (D ++ [(s, eb, k)]) (k + 1) ∧ Kp (own mb cb ((s0, e0) :: L)) (w.alloc (.cells #[.int .i64 0, .slice none 0 0, .string ⟨#[]⟩, .bool false, .int .i64 0] 50)) V) ?_) ?_
  · refine Calls.mono (ring_evict _ st'.ring st'.map st.mc st.mL tB (ht.below (below1 w _)) hB hBc hs hnx hno hlr hl100 hh) ?_
    rintro _ V ⟨eb, rfl, h1, h2, r, mm, kk⟩
    simp only [World.size_alloc] at h1
    have hmb := st.lt (Or.inr (Or.inl rfl))
    refine ⟨eb, _, _, rfl, Row.split _ _ r.row, (kk.block _ (by simp) fun h => ?_).trans (heap_new _ _ _ rfl), by omega, ⟨r, mm, st.mc, fun x hx => ?_⟩, kk⟩
    · exact absurd (st.lt h) (Nat.lt_irrefl _)
    · rcases List.mem_append.1 hx with hx | hx
      · exact st.mL x (by simp [hx])
      · simp at hx; subst hx; show eb ≠ mb; omega
  · rintro _ w' ⟨eb, V, rfl, ⟨h1, sv, kv⟩, k3⟩
    refine ⟨eb, rfl, by omega, sv.kp k3 fun i hi (e : i = w.heap.size) => ?_, ((Kp.alloc (own mb cb ((s0, e0) :: L)) w _).trans kv fun _ _ h => h).trans k3 fun i hi e => by omega⟩
    subst e
    rcases hi with h | h | ⟨x, hx, h⟩
    · exact absurd (st.lt (Or.inl h)) (Nat.lt_irrefl _)
    · exact absurd (st.lt (Or.inr (Or.inl h))) (Nat.lt_irrefl _)
    · rcases List.mem_append.1 hx with hx | hx
      · exact absurd (st.lt (Or.inr (Or.inr ⟨x, by simp [hx], h⟩))) (Nat.lt_irrefl _)
      · simp at hx; subst hx; simp at h; omega

theorem find_turn {eb ix : Nat} (w : World) (st : St w tb mb cb rm h m ((s, eb) :: L) D k) (hno : at? s D 0 = some (ix, eb)) (hlr : (D.length : Int) ≤ rm) (hl100 : D.length ≤ 90) (hh : 0 ≤ h ∧ h < 1000) :
    Calls Tryz.prog 15 #[.pointer (some ⟨cb, 0, none⟩), .string ⟨#[65]⟩, .bool false, .string s] w fun e w' => e = .returned fnd0 ∧ St w' tb mb cb rm (h + 1) m (L ++ [(s, eb)]) D k ∧ Kp (own mb cb ((s, eb) :: L)) w w' := by
  have ka := Kp.alloc (fun _ => False) w (.cells #[.int .i64 0, .slice none 0 0, .string ⟨#[]⟩, .bool false, .int .i64 0] 50)
  have st' := st.kp ka fun _ _ h => h
  have hsub : ∀ i, own mb cb (L ++ [(s, eb)]) i → own mb cb ((s, eb) :: L) i := fun i hi => by
    rcases hi with h | h | ⟨x, hx, h⟩
    · exact Or.inl h
    · exact Or.inr (Or.inl h)
    · exact Or.inr (Or.inr ⟨x, by simp at hx ⊢; exact hx.symm, h⟩)
  refine Calls.mono (CFind_any cb s w (fun _ V => St V tb mb cb rm (h + 1) m (L ++ [(s, eb)]) D k ∧ Kp (own mb cb ((s, eb) :: L)) (w.alloc (.cells #[.int .i64 0, .slice none 0 0, .string ⟨#[]⟩, .bool false, .int .i64 0] 50)) V) ?_) ?_
  · refine Calls.mono (ring_turn _ st'.ring st'.map st.mc st.mL hno (fun x hx h => ?_) hlr hl100 hh) ?_
    · have := st.ring.once
      rw [List.map_cons, List.nodup_cons] at this
      exact this.1 (List.mem_map.2 ⟨x, hx, h⟩)
    rintro _ V ⟨rfl, r, mm, kk⟩
    have kk' : Kp (own mb cb ((s, eb) :: L)) (w.alloc (.cells #[.int .i64 0, .slice none 0 0, .string ⟨#[]⟩, .bool false, .int .i64 0] 50)) V := (Kp.refl _ _).trans kk fun _ _ h => h.elim Or.inl fun h => Or.inr (Or.inr h)
    refine ⟨eb, _, _, rfl, Row.split _ _ r.row, (kk'.block _ (by simp) fun h => ?_).trans (heap_new _ _ _ rfl), ⟨r, mm, st.mc, fun x hx => ?_⟩, kk'⟩
    · exact absurd (st.lt h) (Nat.lt_irrefl _)
    · exact st.mL x (by simp at hx ⊢; exact hx.symm)
  · rintro _ w' ⟨_, V, rfl, ⟨sv, kv⟩, k3⟩
    refine ⟨rfl, sv.kp k3 fun i hi (e : i = w.heap.size) => ?_, ((Kp.alloc (own mb cb ((s, eb) :: L)) w _).trans kv fun _ _ h => h).trans k3 fun i hi e => by omega⟩
    subst e
    exact absurd (st.lt (hsub _ hi)) (Nat.lt_irrefl _)
end
end Go.Proofs.YtaboeocgoocgfaaGreatDoor
