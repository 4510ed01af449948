/-
  types.Make at the least program with a type.
-/
import Derived.Test.YtaboeocgoocgfaaGreatDoorO
import Derived.Test.YtaboeocgoocgfaaGreatDoorI
namespace Go.Proofs.YtaboeocgoocgfaaGreatDoor
open Go.RowKit Go.ChangeMaps

/-- What is there from the beginning. -/
def es0 (B : Nat) : Array MapEntry := #[⟨.string ⟨#[102, 97, 117, 108, 116]⟩, .agg #[.int .i64 8, .bool true, .slice (some ⟨B + 1, 0, none⟩) 2 2, .map (some (B + 1 + 1))], 0⟩, ⟨.string ⟨#[101, 114, 114, 111, 114]⟩, .agg #[.int .i64 0, .bool true, .slice none 0 0, .map (some (B + 1 + 1 + 1))], 1⟩, ⟨.string ⟨#[97, 110, 121]⟩, .agg #[.int .i64 0, .bool true, .slice none 0 0, .map none], 2⟩, ⟨.string ⟨#[98, 111, 111, 108]⟩, .agg #[.int .i64 1, .bool true, .slice none 0 0, .map none], 3⟩, ⟨.string ⟨#[105, 110, 116]⟩, .agg #[.int .i64 2, .bool true, .slice none 0 0, .map none], 4⟩, ⟨.string ⟨#[102, 108, 111, 97, 116]⟩, .agg #[.int .i64 3, .bool true, .slice none 0 0, .map none], 5⟩, ⟨.string ⟨#[116, 101, 120, 116]⟩, .agg #[.int .i64 4, .bool true, .slice none 0 0, .map none], 6⟩, ⟨.string ⟨#[108, 105, 115, 116]⟩, .agg #[.int .i64 5, .bool true, .slice none 0 0, .map none], 7⟩, ⟨.string ⟨#[109, 97, 112]⟩, .agg #[.int .i64 6, .bool true, .slice none 0 0, .map none], 8⟩, ⟨.string ⟨#[102, 117, 110, 99]⟩, .agg #[.int .i64 7, .bool true, .slice none 0 0, .map none], 9⟩]
abbrev shE (pe : Nat) : Value := .agg #[.int .i64 0, .bool true, .slice none 0 0, .map (some pe)]
theorem es0_A (B : Nat) : Instr.findNow .string (.string ⟨#[65]⟩) (es0 B).toList 0 = some none := rfl
theorem es1_A (B g cap pb : Nat) : Instr.findNow .string (.string ⟨#[65]⟩) ((es0 B).push ⟨.string ⟨#[65]⟩, shA g cap pb, 10⟩).toList 0 = some (some (10, shA g cap pb)) := rfl
theorem es1_X (B g cap pb : Nat) : Instr.findNow .string (.string ⟨#[120]⟩) ((es0 B).push ⟨.string ⟨#[65]⟩, shA g cap pb, 10⟩).toList 0 = some none := rfl
theorem es1_E (B g cap pb : Nat) : Instr.findNow .string (.string ⟨#[101, 114, 114, 111, 114]⟩) ((es0 B).push ⟨.string ⟨#[65]⟩, shA g cap pb, 10⟩).toList 0 = some (some (1, shE (B + 1 + 1 + 1))) := rfl

/-- The table of a program with the type A, of one field x, and nothing else. -/
structure TabAt (w : World) (tb M g cap pb pe : Nat) (es : Array MapEntry) (clk : Nat) : Prop where
  tab : w.heap[tb]? = some (.cells #[.map (some M)] 65)
  map : w.heap[M]? = some (.map es clk)
  fA : Instr.findNow .string (.string ⟨#[65]⟩) es.toList 0 = some (some (10, shA g cap pb))
  fE : Instr.findNow .string (.string ⟨#[101, 114, 114, 111, 114]⟩) es.toList 0 = some (some (1, shE pe))
  a0 : w.cell? ⟨g, 0, none⟩ = some (.string ⟨#[120]⟩)
  a1 : w.cell? ⟨g, 1, none⟩ = some (.int .i64 0)
  gl : g < w.heap.size
  pa : w.heap[pb]? = some (.map #[⟨.string ⟨#[120]⟩, .agg #[.bool true, .int .i64 0, .bool false, .int .i64 0], 0⟩] 1)
  pe : w.heap[pe]? = some (.map #[⟨.string ⟨#[69, 114, 114, 111, 114]⟩, .agg #[.bool false, .int .i64 0, .bool false, .int .i64 0], 0⟩] 1)
theorem TabAt.below {w w' : World} {tb M g cap pb pe : Nat} {es : Array MapEntry} {clk : Nat} (h : TabAt w tb M g cap pb pe es clk) (hb : Below w.heap.size w w') : TabAt w' tb M g cap pb pe es clk :=
  ⟨(hb.block _ (heap_lt h.tab)).trans h.tab, (hb.block _ (heap_lt h.map)).trans h.map, h.fA, h.fE, (hb.cell (p := ⟨g, 0, none⟩) h.gl).trans h.a0, (hb.cell (p := ⟨g, 1, none⟩) h.gl).trans h.a1, Nat.lt_of_lt_of_le h.gl hb.size, (hb.block _ (heap_lt h.pa)).trans h.pa, (hb.block _ (heap_lt h.pe)).trans h.pe⟩
/-- The same while only blocks of S, that are not the table's, change. -/
theorem TabAt.kp {S : Nat → Prop} {w w' : World} {tb M g cap pb pe : Nat} {es : Array MapEntry} {clk : Nat} (h : TabAt w tb M g cap pb pe es clk) (hb : Kp S w w') {B : Nat} (hB : tb < B ∧ M < B ∧ g < B ∧ pb < B ∧ pe < B) (hS : ∀ i, i < B → ¬ S i) : TabAt w' tb M g cap pb pe es clk :=
  ⟨(hb.block _ (heap_lt h.tab) (hS _ hB.1)).trans h.tab, (hb.block _ (heap_lt h.map) (hS _ hB.2.1)).trans h.map, h.fA, h.fE, (hb.cell h.gl (hS _ hB.2.2.1)).trans h.a0, (hb.cell h.gl (hS _ hB.2.2.1)).trans h.a1, Nat.lt_of_lt_of_le h.gl hb.size, (hb.block _ (heap_lt h.pa) (hS _ hB.2.2.2.1)).trans h.pa, (hb.block _ (heap_lt h.pe) (hS _ hB.2.2.2.2)).trans h.pe⟩
theorem TabAt.lts {w : World} {tb M g cap pb pe : Nat} {es : Array MapEntry} {clk : Nat} (h : TabAt w tb M g cap pb pe es clk) : tb < w.heap.size ∧ M < w.heap.size ∧ g < w.heap.size ∧ pb < w.heap.size ∧ pe < w.heap.size :=
  ⟨heap_lt h.tab, heap_lt h.map, h.gl, heap_lt h.pa, heap_lt h.pe⟩
def MakeP (w : World) (e : Ending) (w' : World) : Prop :=
  ∃ tb M g cap pb pe es clk, e = .returned (.tuple #[.pointer (some ⟨tb, 0, none⟩), .nilIface]) ∧ TabAt w' tb M g cap pb pe es clk ∧ Below w.heap.size w w'

set_option maxRecDepth 100000 in
set_option maxHeartbeats 4000000 in
theorem make_small {gw ow gs os : Nat} (KA KX : Nat) (w : World) (ht : TabsAt gw ow gs os w) (hA : KA < w.heap.size) (hX : KX < w.heap.size) (a0 : w.cell? ⟨KA, 0, none⟩ = some (.int .i64 3)) (a1 : w.cell? ⟨KA, 1, none⟩ = some (.string ⟨#[65]⟩)) (a2 : w.cell? ⟨KA, 2, none⟩ = some (.int .i64 0)) (a3 : w.cell? ⟨KA, 3, none⟩ = some (.int .i64 0)) (a4 : w.cell? ⟨KA, 4, none⟩ = some (.slice (some ⟨KX, 0, none⟩) 1 1)) (x0 : w.cell? ⟨KX, 0, none⟩ = some (.int .i64 8)) (x1 : w.cell? ⟨KX, 1, none⟩ = some (.string ⟨#[120]⟩)) (x2 : w.cell? ⟨KX, 2, none⟩ = some (.int .i64 0)) (x3 : w.cell? ⟨KX, 3, none⟩ = some (.int .i64 0)) (x4 : w.cell? ⟨KX, 4, none⟩ = some (.slice none 0 0)) :
    Calls Tryz.prog 6 #[.agg #[.int .i64 1, .string ⟨#[]⟩, .int .i64 0, .int .i64 0, .slice (some ⟨KA, 0, none⟩) 1 1]] w (MakeP w) := by
  have hmm := @run_makeMap Tryz.prog
  go_enter Tryz.func6, Tryz.ntmps6
  go_wp2_with fail
  refine Calls.mono (right_small KA KX _ (ht.below (Nat.le_refl _) (below1 w _)) (by simp; omega) (by simp; omega) (((below1 w _).cell (p := ⟨KA, 0, none⟩) hA).trans a0) (((below1 w _).cell (p := ⟨KA, 1, none⟩) hA).trans a1) (((below1 w _).cell (p := ⟨KA, 2, none⟩) hA).trans a2) (((below1 w _).cell (p := ⟨KA, 3, none⟩) hA).trans a3) (((below1 w _).cell (p := ⟨KA, 4, none⟩) hA).trans a4) (((below1 w _).cell (p := ⟨KX, 0, none⟩) hX).trans x0) (((below1 w _).cell (p := ⟨KX, 1, none⟩) hX).trans x1) (((below1 w _).cell (p := ⟨KX, 2, none⟩) hX).trans x2) (((below1 w _).cell (p := ⟨KX, 3, none⟩) hX).trans x3) (((below1 w _).cell (p := ⟨KX, 4, none⟩) hX).trans x4)) ?_
  rintro _ W1 ⟨rfl, hb1⟩
  have q1 : Below w.heap.size w W1 := (below1 w _).trans (hb1.mono (by simp))
  have z1 : w.heap.size < W1.heap.size := by have := hb1.size; simp at this; omega
  have p1 : W1.heap[w.heap.size]? = some (.cells #[.int .i64 1, .string ⟨#[]⟩, .int .i64 0, .int .i64 0, .slice (some ⟨KA, 0, none⟩) 1 1] 30) := (hb1.block _ (by simp)).trans (heap_new _ _ _ rfl)
  have pc1 := (cells_of p1).1
  go_wp2_with fail
  refine Calls.mono (beginning_any _) ?_
  rintro _ _ ⟨rfl, rfl⟩
  go_wp2_with fail
  obtain ⟨V0, hV0⟩ : ∃ W, W = (((((((((W1.alloc (.map #[⟨.string ⟨#[102, 97, 117, 108, 116]⟩, .agg #[.int .i64 8, .bool true, .slice (some ⟨W1.heap.size + 1, 0, none⟩) 2 2, .map (some (W1.heap.size + 1 + 1))], 0⟩, ⟨.string ⟨#[101, 114, 114, 111, 114]⟩, .agg #[.int .i64 0, .bool true, .slice none 0 0, .map (some (W1.heap.size + 1 + 1 + 1))], 1⟩, ⟨.string ⟨#[97, 110, 121]⟩, .agg #[.int .i64 0, .bool true, .slice none 0 0, .map none], 2⟩, ⟨.string ⟨#[98, 111, 111, 108]⟩, .agg #[.int .i64 1, .bool true, .slice none 0 0, .map none], 3⟩, ⟨.string ⟨#[105, 110, 116]⟩, .agg #[.int .i64 2, .bool true, .slice none 0 0, .map none], 4⟩, ⟨.string ⟨#[102, 108, 111, 97, 116]⟩, .agg #[.int .i64 3, .bool true, .slice none 0 0, .map none], 5⟩, ⟨.string ⟨#[116, 101, 120, 116]⟩, .agg #[.int .i64 4, .bool true, .slice none 0 0, .map none], 6⟩, ⟨.string ⟨#[108, 105, 115, 116]⟩, .agg #[.int .i64 5, .bool true, .slice none 0 0, .map none], 7⟩, ⟨.string ⟨#[109, 97, 112]⟩, .agg #[.int .i64 6, .bool true, .slice none 0 0, .map none], 8⟩, ⟨.string ⟨#[102, 117, 110, 99]⟩, .agg #[.int .i64 7, .bool true, .slice none 0 0, .map none], 9⟩] 10)).alloc (.cells #[.string ⟨#[119, 111, 114, 100]⟩, .int .i64 0, .string ⟨#[109, 111, 114, 101]⟩, .int .i64 0] 100)).alloc (.map #[⟨.string ⟨#[119, 111, 114, 100]⟩, .agg #[.bool true, .int .i64 0, .bool false, .int .i64 0], 0⟩, ⟨.string ⟨#[109, 111, 114, 101]⟩, .agg #[.bool true, .int .i64 1, .bool false, .int .i64 0], 1⟩, ⟨.string ⟨#[69, 114, 114, 111, 114]⟩, .agg #[.bool false, .int .i64 0, .bool true, .int .i64 0], 2⟩] 3)).alloc (.map #[⟨.string ⟨#[69, 114, 114, 111, 114]⟩, .agg #[.bool false, .int .i64 0, .bool false, .int .i64 0], 0⟩] 1)).alloc (.cells #[.string ⟨#[98, 111, 111, 108]⟩, .string ⟨#[105, 110, 116]⟩, .string ⟨#[102, 108, 111, 97, 116]⟩, .string ⟨#[116, 101, 120, 116]⟩, .string ⟨#[108, 105, 115, 116]⟩, .string ⟨#[109, 97, 112]⟩, .string ⟨#[102, 117, 110, 99]⟩] 9)).alloc (.map #[] 0)).alloc (.map #[] 0)).alloc (.cells #[.map (some W1.heap.size), .int .i64 0, .map (some (W1.heap.size + 1 + 1 + 1 + 1 + 1)), .map (some (W1.heap.size + 1 + 1 + 1 + 1 + 1 + 1))] 62)).alloc (.cells #[.func (.func 20) #[.pointer (some ⟨W1.heap.size + 1 + 1 + 1 + 1 + 1 + 1 + 1, 0, none⟩)] #[], .func (.func 21) #[.pointer (some ⟨W1.heap.size + 1 + 1 + 1 + 1 + 1 + 1 + 1, 0, none⟩)] #[], .func (.func 22) #[.pointer (some ⟨W1.heap.size + 1 + 1 + 1 + 1 + 1 + 1 + 1, 0, none⟩)] #[], .func (.func 23) #[.pointer (some ⟨W1.heap.size + 1 + 1 + 1 + 1 + 1 + 1 + 1, 0, none⟩)] #[]] 54)) := ⟨_, rfl⟩
  rw [← hV0]
  have bV : Below W1.heap.size W1 V0 := by rw [hV0]; repeat (first | exact Below.refl _ _ | refine Below.alloc ?_ (by simp <;> omega) _)
  have zV : W1.heap.size + 1 + 1 + 1 + 1 + 1 + 1 + 1 + 1 + 1 ≤ V0.heap.size := by rw [hV0]; simp
  have M0 : V0.heap[W1.heap.size]? = some (.map (es0 W1.heap.size) 10) := by rw [hV0, heap_old _ _ _ (by simp <;> omega), heap_old _ _ _ (by simp <;> omega), heap_old _ _ _ (by simp <;> omega), heap_old _ _ _ (by simp <;> omega), heap_old _ _ _ (by simp <;> omega), heap_old _ _ _ (by simp <;> omega), heap_old _ _ _ (by simp <;> omega), heap_old _ _ _ (by simp <;> omega)]; exact heap_new _ _ _ (by simp)
  have e0 : V0.heap[W1.heap.size + 1 + 1 + 1]? = some (.map #[⟨.string ⟨#[69, 114, 114, 111, 114]⟩, .agg #[.bool false, .int .i64 0, .bool false, .int .i64 0], 0⟩] 1) := by rw [hV0, heap_old _ _ _ (by simp <;> omega), heap_old _ _ _ (by simp <;> omega), heap_old _ _ _ (by simp <;> omega), heap_old _ _ _ (by simp <;> omega), heap_old _ _ _ (by simp <;> omega)]; exact heap_new _ _ _ (by simp)
  have E0 : V0.heap[W1.heap.size + 1 + 1 + 1 + 1 + 1]? = some (.map #[] 0) := by rw [hV0, heap_old _ _ _ (by simp <;> omega), heap_old _ _ _ (by simp <;> omega), heap_old _ _ _ (by simp <;> omega)]; exact heap_new _ _ _ (by simp)
  have m0 : V0.heap[W1.heap.size + 1 + 1 + 1 + 1 + 1 + 1 + 1]? = some (.cells #[.map (some W1.heap.size), .int .i64 0, .map (some (W1.heap.size + 1 + 1 + 1 + 1 + 1)), .map (some (W1.heap.size + 1 + 1 + 1 + 1 + 1 + 1))] 62) := by rw [hV0, heap_old _ _ _ (by simp <;> omega)]; exact heap_new _ _ _ (by simp)
  have f0 : V0.heap[W1.heap.size + 1 + 1 + 1 + 1 + 1 + 1 + 1 + 1]? = some (.cells #[.func (.func 20) #[.pointer (some ⟨W1.heap.size + 1 + 1 + 1 + 1 + 1 + 1 + 1, 0, none⟩)] #[], .func (.func 21) #[.pointer (some ⟨W1.heap.size + 1 + 1 + 1 + 1 + 1 + 1 + 1, 0, none⟩)] #[], .func (.func 22) #[.pointer (some ⟨W1.heap.size + 1 + 1 + 1 + 1 + 1 + 1 + 1, 0, none⟩)] #[], .func (.func 23) #[.pointer (some ⟨W1.heap.size + 1 + 1 + 1 + 1 + 1 + 1 + 1, 0, none⟩)] #[]] 54) := by rw [hV0]; exact heap_new _ _ _ (by simp)
  clear hV0
  have p0 : V0.heap[w.heap.size]? = _ := (bV.block _ (by omega)).trans p1
  have w0 : Below w.heap.size w V0 := q1.trans (bV.mono (by omega))
  refine wp_loop_rounds 5 ?_
  rw [rounds_succ]
  have fc0 := (cells_of f0).1
  have pc0 := (cells_of p0).1
  have hA0 : KA < V0.heap.size := by have := w0.size; omega
  have A00 : V0.cell? ⟨KA, 0, none⟩ = some (.int .i64 3) := (w0.cell (p := ⟨KA, 0, none⟩) hA).trans a0
  have A01 : V0.cell? ⟨KA, 1, none⟩ = some (.string ⟨#[65]⟩) := (w0.cell (p := ⟨KA, 1, none⟩) hA).trans a1
  have A02 : V0.cell? ⟨KA, 2, none⟩ = some (.int .i64 0) := (w0.cell (p := ⟨KA, 2, none⟩) hA).trans a2
  have A03 : V0.cell? ⟨KA, 3, none⟩ = some (.int .i64 0) := (w0.cell (p := ⟨KA, 3, none⟩) hA).trans a3
  have A04 : V0.cell? ⟨KA, 4, none⟩ = some (.slice (some ⟨KX, 0, none⟩) 1 1) := (w0.cell (p := ⟨KA, 4, none⟩) hA).trans a4
  go_wp2_with fail
  refine wp_loop_rounds 2 ?_
  rw [rounds_succ]
  go_wp2_with fail
  obtain ⟨X0, hX0⟩ : ∃ W, W = V0.alloc (.cells #[.int .i64 3, .string ⟨#[65]⟩, .int .i64 0, .int .i64 0, .slice (some ⟨KX, 0, none⟩) 1 1] 30) := ⟨_, rfl⟩
  rw [← hX0]
  have bX0 : Below V0.heap.size V0 X0 := by rw [hX0]; exact below1 _ _
  have zX0 : V0.heap.size < X0.heap.size := by rw [hX0]; simp
  clear hX0
  have MX0 : X0.heap[W1.heap.size]? = _ := (bX0.block _ (by omega)).trans M0
  have eX0 : X0.heap[W1.heap.size + 1 + 1 + 1]? = _ := (bX0.block _ (by omega)).trans e0
  have EX0 : X0.heap[W1.heap.size + 1 + 1 + 1 + 1 + 1]? = _ := (bX0.block _ (by omega)).trans E0
  have mX0 : X0.heap[W1.heap.size + 1 + 1 + 1 + 1 + 1 + 1 + 1]? = _ := (bX0.block _ (by omega)).trans m0
  have fX0 : X0.heap[W1.heap.size + 1 + 1 + 1 + 1 + 1 + 1 + 1 + 1]? = _ := (bX0.block _ (by omega)).trans f0
  have pX0 : X0.heap[w.heap.size]? = _ := (bX0.block _ (by omega)).trans p0
  have wX0 : Below w.heap.size w X0 := w0.trans (bX0.mono (by omega))
  clear fc0 pc0 hA0 A00 A01 A02 A03 A04
  refine Calls.mono (name_A (W1.heap.size) (W1.heap.size + 1 + 1 + 1 + 1 + 1 + 1 + 1) (W1.heap.size + 1 + 1 + 1 + 1 + 1) (W1.heap.size + 1 + 1 + 1 + 1 + 1 + 1) KX (es0 W1.heap.size) 10 _ MX0 (es0_A _) mX0 (by omega) (by have := wX0.size; omega) ((wX0.cell (p := ⟨KX, 0, none⟩) hX).trans x0) ((wX0.cell (p := ⟨KX, 1, none⟩) hX).trans x1) ((wX0.cell (p := ⟨KX, 2, none⟩) hX).trans x2) ((wX0.cell (p := ⟨KX, 3, none⟩) hX).trans x3) ((wX0.cell (p := ⟨KX, 4, none⟩) hX).trans x4)) ?_
  rintro _ V1 ⟨rfl, g, cap, pb, M1, m1, hcap, sh1, k1⟩
  have z1' := k1.size
  have hk1 : ∀ i, i < X0.heap.size → i ≠ W1.heap.size → i ≠ W1.heap.size + 1 + 1 + 1 + 1 + 1 + 1 + 1 → V1.heap[i]? = X0.heap[i]? := fun i h1 h2 h3 => k1.block i h1 (fun h => by omega)
  have e1 : V1.heap[W1.heap.size + 1 + 1 + 1]? = _ := (hk1 _ (by omega) (by omega) (by omega)).trans eX0
  have E1 : V1.heap[W1.heap.size + 1 + 1 + 1 + 1 + 1]? = _ := (hk1 _ (by omega) (by omega) (by omega)).trans EX0
  have f1 : V1.heap[W1.heap.size + 1 + 1 + 1 + 1 + 1 + 1 + 1 + 1]? = _ := (hk1 _ (by omega) (by omega) (by omega)).trans fX0
  have p1' : V1.heap[w.heap.size]? = _ := (hk1 _ (by omega) (by omega) (by omega)).trans pX0
  have w1 : Below w.heap.size w V1 := wX0.trans (k1.below (by omega) fun i hi h => by omega)
  clear p1 pc1 hk1
  have p1 := p1'
  clear p1'
  have glo := sh1.glo
  have plo := sh1.plo
  have gpn := sh1.ne
  have fcL0 := (cells_of f1).1
  have pcL0 := (cells_of p1).1
  go_wp2_with fail
  rw [rounds_succ]
  go_wp2_with fail
  clear fcL0 pcL0
  have fc1 := (cells_of f1).1
  have pc1 := (cells_of p1).1
  have hA1 : KA < V1.heap.size := by have := w1.size; omega
  have A10 : V1.cell? ⟨KA, 0, none⟩ = some (.int .i64 3) := (w1.cell (p := ⟨KA, 0, none⟩) hA).trans a0
  have A11 : V1.cell? ⟨KA, 1, none⟩ = some (.string ⟨#[65]⟩) := (w1.cell (p := ⟨KA, 1, none⟩) hA).trans a1
  have A12 : V1.cell? ⟨KA, 2, none⟩ = some (.int .i64 0) := (w1.cell (p := ⟨KA, 2, none⟩) hA).trans a2
  have A13 : V1.cell? ⟨KA, 3, none⟩ = some (.int .i64 0) := (w1.cell (p := ⟨KA, 3, none⟩) hA).trans a3
  have A14 : V1.cell? ⟨KA, 4, none⟩ = some (.slice (some ⟨KX, 0, none⟩) 1 1) := (w1.cell (p := ⟨KA, 4, none⟩) hA).trans a4
  rw [rounds_succ]
  go_wp2_with fail
  refine wp_loop_rounds 2 ?_
  rw [rounds_succ]
  go_wp2_with fail
  obtain ⟨X1, hX1⟩ : ∃ W, W = V1.alloc (.cells #[.int .i64 3, .string ⟨#[65]⟩, .int .i64 0, .int .i64 0, .slice (some ⟨KX, 0, none⟩) 1 1] 30) := ⟨_, rfl⟩
  rw [← hX1]
  have bX1 : Below V1.heap.size V1 X1 := by rw [hX1]; exact below1 _ _
  have zX1 : V1.heap.size < X1.heap.size := by rw [hX1]; simp
  clear hX1
  have MX1 : X1.heap[W1.heap.size]? = _ := (bX1.block _ (by omega)).trans M1
  have eX1 : X1.heap[W1.heap.size + 1 + 1 + 1]? = _ := (bX1.block _ (by omega)).trans e1
  have EX1 : X1.heap[W1.heap.size + 1 + 1 + 1 + 1 + 1]? = _ := (bX1.block _ (by omega)).trans E1
  have mX1 : X1.heap[W1.heap.size + 1 + 1 + 1 + 1 + 1 + 1 + 1]? = _ := (bX1.block _ (by omega)).trans m1
  have fX1 : X1.heap[W1.heap.size + 1 + 1 + 1 + 1 + 1 + 1 + 1 + 1]? = _ := (bX1.block _ (by omega)).trans f1
  have pX1 : X1.heap[w.heap.size]? = _ := (bX1.block _ (by omega)).trans p1
  have wX1 : Below w.heap.size w X1 := w1.trans (bX1.mono (by omega))
  clear fc1 pc1 hA1 A10 A11 A12 A13 A14
  have shX1 := sh1.below bX1
  refine Calls.mono (parts_A (W1.heap.size) (W1.heap.size + 1 + 1 + 1 + 1 + 1 + 1 + 1) (W1.heap.size + 1 + 1 + 1 + 1 + 1) (W1.heap.size + 1 + 1 + 1 + 1 + 1 + 1) ((es0 W1.heap.size).push ⟨.string ⟨#[65]⟩, shA g cap pb, 10⟩) 11 _ MX1 mX1 (es1_X _ _ _ _) g cap pb 10 _ KX (es1_A _ _ _ _) shX1 hcap (by have := wX1.size; omega) ((wX1.cell (p := ⟨KX, 0, none⟩) hX).trans x0) ((wX1.cell (p := ⟨KX, 1, none⟩) hX).trans x1) ((wX1.cell (p := ⟨KX, 2, none⟩) hX).trans x2) ((wX1.cell (p := ⟨KX, 3, none⟩) hX).trans x3) ((wX1.cell (p := ⟨KX, 4, none⟩) hX).trans x4)) ?_
  rintro _ V2 ⟨rfl, k2, g20, g21, g22⟩
  have z2' := k2.size
  have hgX := shX1.ghi
  have hpX := shX1.phi
  have hk2 : ∀ i, i < X1.heap.size → i ≠ g → V2.heap[i]? = X1.heap[i]? := fun i h1 h2 => k2.block i h1 h2
  have e2 : V2.heap[W1.heap.size + 1 + 1 + 1]? = _ := (hk2 _ (by omega) (by omega)).trans eX1
  have E2 : V2.heap[W1.heap.size + 1 + 1 + 1 + 1 + 1]? = _ := (hk2 _ (by omega) (by omega)).trans EX1
  have f2 : V2.heap[W1.heap.size + 1 + 1 + 1 + 1 + 1 + 1 + 1 + 1]? = _ := (hk2 _ (by omega) (by omega)).trans fX1
  have p2 : V2.heap[w.heap.size]? = _ := (hk2 _ (by omega) (by omega)).trans pX1
  have M2 : V2.heap[W1.heap.size]? = _ := (hk2 _ (by omega) (by omega)).trans MX1
  have m2 : V2.heap[W1.heap.size + 1 + 1 + 1 + 1 + 1 + 1 + 1]? = _ := (hk2 _ (by omega) (by omega)).trans mX1
  have w2 : Below w.heap.size w V2 := wX1.trans (k2.below (by omega) fun i hi h => by omega)
  have sh2 : ShA X0.heap.size V2 g cap pb := ⟨glo, by omega, plo, by omega, gpn, g20, g21, g22, (hk2 _ hpX (Ne.symm gpn)).trans shX1.parts⟩
  have fcL1 := (cells_of f2).1
  have pcL1 := (cells_of p2).1
  go_wp2_with fail
  rw [rounds_succ]
  go_wp2_with fail
  clear fcL1 pcL1
  have fc2 := (cells_of f2).1
  have pc2 := (cells_of p2).1
  have hA2 : KA < V2.heap.size := by have := w2.size; omega
  have A20 : V2.cell? ⟨KA, 0, none⟩ = some (.int .i64 3) := (w2.cell (p := ⟨KA, 0, none⟩) hA).trans a0
  have A21 : V2.cell? ⟨KA, 1, none⟩ = some (.string ⟨#[65]⟩) := (w2.cell (p := ⟨KA, 1, none⟩) hA).trans a1
  have A22 : V2.cell? ⟨KA, 2, none⟩ = some (.int .i64 0) := (w2.cell (p := ⟨KA, 2, none⟩) hA).trans a2
  have A23 : V2.cell? ⟨KA, 3, none⟩ = some (.int .i64 0) := (w2.cell (p := ⟨KA, 3, none⟩) hA).trans a3
  have A24 : V2.cell? ⟨KA, 4, none⟩ = some (.slice (some ⟨KX, 0, none⟩) 1 1) := (w2.cell (p := ⟨KA, 4, none⟩) hA).trans a4
  rw [rounds_succ]
  go_wp2_with fail
  refine wp_loop_rounds 2 ?_
  rw [rounds_succ]
  go_wp2_with fail
  obtain ⟨X2, hX2⟩ : ∃ W, W = V2.alloc (.cells #[.int .i64 3, .string ⟨#[65]⟩, .int .i64 0, .int .i64 0, .slice (some ⟨KX, 0, none⟩) 1 1] 30) := ⟨_, rfl⟩
  rw [← hX2]
  have bX2 : Below V2.heap.size V2 X2 := by rw [hX2]; exact below1 _ _
  have zX2 : V2.heap.size < X2.heap.size := by rw [hX2]; simp
  clear hX2
  have MX2 : X2.heap[W1.heap.size]? = _ := (bX2.block _ (by omega)).trans M2
  have eX2 : X2.heap[W1.heap.size + 1 + 1 + 1]? = _ := (bX2.block _ (by omega)).trans e2
  have EX2 : X2.heap[W1.heap.size + 1 + 1 + 1 + 1 + 1]? = _ := (bX2.block _ (by omega)).trans E2
  have mX2 : X2.heap[W1.heap.size + 1 + 1 + 1 + 1 + 1 + 1 + 1]? = _ := (bX2.block _ (by omega)).trans m2
  have fX2 : X2.heap[W1.heap.size + 1 + 1 + 1 + 1 + 1 + 1 + 1 + 1]? = _ := (bX2.block _ (by omega)).trans f2
  have pX2 : X2.heap[w.heap.size]? = _ := (bX2.block _ (by omega)).trans p2
  have wX2 : Below w.heap.size w X2 := w2.trans (bX2.mono (by omega))
  clear fc2 pc2 hA2 A20 A21 A22 A23 A24
  have shX2 := sh2.below bX2
  refine Calls.mono (cycle_A (W1.heap.size) (W1.heap.size + 1 + 1 + 1 + 1 + 1 + 1 + 1) (W1.heap.size + 1 + 1 + 1 + 1 + 1) (W1.heap.size + 1 + 1 + 1 + 1 + 1 + 1) ((es0 W1.heap.size).push ⟨.string ⟨#[65]⟩, shA g cap pb, 10⟩) 11 _ MX2 mX2 KX EX2) ?_
  rintro _ V3 ⟨rfl, b3⟩
  have z3' := b3.size
  have e3 : V3.heap[W1.heap.size + 1 + 1 + 1]? = _ := (b3.block _ (by omega)).trans eX2
  have E3 : V3.heap[W1.heap.size + 1 + 1 + 1 + 1 + 1]? = _ := (b3.block _ (by omega)).trans EX2
  have f3 : V3.heap[W1.heap.size + 1 + 1 + 1 + 1 + 1 + 1 + 1 + 1]? = _ := (b3.block _ (by omega)).trans fX2
  have p3 : V3.heap[w.heap.size]? = _ := (b3.block _ (by omega)).trans pX2
  have M3 : V3.heap[W1.heap.size]? = _ := (b3.block _ (by omega)).trans MX2
  have m3 : V3.heap[W1.heap.size + 1 + 1 + 1 + 1 + 1 + 1 + 1]? = _ := (b3.block _ (by omega)).trans mX2
  have w3 : Below w.heap.size w V3 := wX2.trans (b3.mono (by omega))
  have sh3 := shX2.below b3
  have fcL2 := (cells_of f3).1
  have pcL2 := (cells_of p3).1
  go_wp2_with fail
  rw [rounds_succ]
  go_wp2_with fail
  clear fcL2 pcL2
  have fc3 := (cells_of f3).1
  have pc3 := (cells_of p3).1
  have hA3 : KA < V3.heap.size := by have := w3.size; omega
  have A30 : V3.cell? ⟨KA, 0, none⟩ = some (.int .i64 3) := (w3.cell (p := ⟨KA, 0, none⟩) hA).trans a0
  have A31 : V3.cell? ⟨KA, 1, none⟩ = some (.string ⟨#[65]⟩) := (w3.cell (p := ⟨KA, 1, none⟩) hA).trans a1
  have A32 : V3.cell? ⟨KA, 2, none⟩ = some (.int .i64 0) := (w3.cell (p := ⟨KA, 2, none⟩) hA).trans a2
  have A33 : V3.cell? ⟨KA, 3, none⟩ = some (.int .i64 0) := (w3.cell (p := ⟨KA, 3, none⟩) hA).trans a3
  have A34 : V3.cell? ⟨KA, 4, none⟩ = some (.slice (some ⟨KX, 0, none⟩) 1 1) := (w3.cell (p := ⟨KA, 4, none⟩) hA).trans a4
  rw [rounds_succ]
  go_wp2_with fail
  refine wp_loop_rounds 2 ?_
  rw [rounds_succ]
  go_wp2_with fail
  obtain ⟨X3, hX3⟩ : ∃ W, W = V3.alloc (.cells #[.int .i64 3, .string ⟨#[65]⟩, .int .i64 0, .int .i64 0, .slice (some ⟨KX, 0, none⟩) 1 1] 30) := ⟨_, rfl⟩
  rw [← hX3]
  have bX3 : Below V3.heap.size V3 X3 := by rw [hX3]; exact below1 _ _
  have zX3 : V3.heap.size < X3.heap.size := by rw [hX3]; simp
  clear hX3
  have MX3 : X3.heap[W1.heap.size]? = _ := (bX3.block _ (by omega)).trans M3
  have eX3 : X3.heap[W1.heap.size + 1 + 1 + 1]? = _ := (bX3.block _ (by omega)).trans e3
  have EX3 : X3.heap[W1.heap.size + 1 + 1 + 1 + 1 + 1]? = _ := (bX3.block _ (by omega)).trans E3
  have mX3 : X3.heap[W1.heap.size + 1 + 1 + 1 + 1 + 1 + 1 + 1]? = _ := (bX3.block _ (by omega)).trans m3
  have fX3 : X3.heap[W1.heap.size + 1 + 1 + 1 + 1 + 1 + 1 + 1 + 1]? = _ := (bX3.block _ (by omega)).trans f3
  have pX3 : X3.heap[w.heap.size]? = _ := (bX3.block _ (by omega)).trans p3
  have wX3 : Below w.heap.size w X3 := w3.trans (bX3.mono (by omega))
  clear fc3 pc3 hA3 A30 A31 A32 A33 A34
  have shX3 := sh3.below bX3
  refine Calls.mono (sum_A (W1.heap.size) (W1.heap.size + 1 + 1 + 1 + 1 + 1 + 1 + 1) (W1.heap.size + 1 + 1 + 1 + 1 + 1) (W1.heap.size + 1 + 1 + 1 + 1 + 1 + 1) ((es0 W1.heap.size).push ⟨.string ⟨#[65]⟩, shA g cap pb, 10⟩) 11 _ MX3 mX3 g cap pb 10 _ (es1_A _ _ _ _) shX3 KX) ?_
  rintro _ V4 ⟨rfl, b4⟩
  have z4' := b4.size
  have e4 : V4.heap[W1.heap.size + 1 + 1 + 1]? = _ := (b4.block _ (by omega)).trans eX3
  have E4 : V4.heap[W1.heap.size + 1 + 1 + 1 + 1 + 1]? = _ := (b4.block _ (by omega)).trans EX3
  have f4 : V4.heap[W1.heap.size + 1 + 1 + 1 + 1 + 1 + 1 + 1 + 1]? = _ := (b4.block _ (by omega)).trans fX3
  have p4 : V4.heap[w.heap.size]? = _ := (b4.block _ (by omega)).trans pX3
  have M4 : V4.heap[W1.heap.size]? = _ := (b4.block _ (by omega)).trans MX3
  have m4 : V4.heap[W1.heap.size + 1 + 1 + 1 + 1 + 1 + 1 + 1]? = _ := (b4.block _ (by omega)).trans mX3
  have w4 : Below w.heap.size w V4 := wX3.trans (b4.mono (by omega))
  have sh4 := shX3.below b4
  have fcL3 := (cells_of f4).1
  have pcL3 := (cells_of p4).1
  go_wp2_with fail
  rw [rounds_succ]
  go_wp2_with fail
  clear fcL3 pcL3
  have mcF := (cells_of m4).1
  rw [rounds_succ]
  go_wp2_with fail
  go_ret2
  refine ⟨V4.heap.size, W1.heap.size, g, cap, pb, W1.heap.size + 1 + 1 + 1, ((es0 W1.heap.size).push ⟨.string ⟨#[65]⟩, shA g cap pb, 10⟩), 11, rfl, ?_, w4.trans ((below1 V4 _).mono (by omega))⟩
  have sh5 := sh4.below (below1 V4 (.cells #[.map (some W1.heap.size)] 65))
  exact ⟨heap_new _ _ _ rfl, (heap_old _ _ _ (by omega)).trans M4, es1_A _ _ _ _, es1_E _ _ _ _, sh5.name, sh5.embed, sh5.ghi, sh5.parts, (heap_old _ _ _ (by omega)).trans e4⟩

end Go.Proofs.YtaboeocgoocgfaaGreatDoor
