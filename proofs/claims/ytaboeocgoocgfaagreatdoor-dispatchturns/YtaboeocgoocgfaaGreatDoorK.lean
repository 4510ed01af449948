/-
  A struct type with one field: its shape, as far as its declaration tells it.
-/
import Derived.Test.YtaboeocgoocgfaaGreatDoorJ
import Derived.Laws.AppendOwn
import Derived.OwnWalk
namespace Go.Proofs.YtaboeocgoocgfaaGreatDoor
open Go.RowKit Go.ChangeMaps

theorem Kp.setB {S : Nat → Prop} (w : World) (b : Nat) (o : Obj) (hb : S b) : Kp S w (setBlock w b o) :=
  ⟨rfl, rfl, rfl, by rw [setBlock_size]; exact Nat.le_refl _, fun k _ hn => setBlock_other w b k o fun e => hn (e ▸ hb)⟩
theorem add_at (b j : Nat) : (⟨b, 0, none⟩ : Addr).add j = ⟨b, j, none⟩ := by
  unfold Addr.add
  by_cases h : j = 0
  · subst h; rfl
  · simp [h]
theorem info100 : (Tryz.prog.info? 100).map (fun i => (i.zero, i.size, i.bytes)) = some (some (.agg #[.string ⟨#[]⟩, .int .i64 0]), 2, 24) := by kernel_rfl

/-- The shape of the type A, with rows of its own. -/
structure ShA (lo : Nat) (w : World) (g cap pb : Nat) : Prop where
  glo : lo ≤ g
  ghi : g < w.heap.size
  plo : lo ≤ pb
  phi : pb < w.heap.size
  ne : g ≠ pb
  name : w.cell? ⟨g, 0, none⟩ = some (.string ⟨#[120]⟩)
  embed : w.cell? ⟨g, 1, none⟩ = some (.int .i64 0)
  fro : w.frozen? ⟨g, 1, none⟩ = false
  parts : w.heap[pb]? = some (.map #[⟨.string ⟨#[120]⟩, .agg #[.bool true, .int .i64 0, .bool false, .int .i64 0], 0⟩] 1)
abbrev shA (g cap pb : Nat) : Value := .agg #[.int .i64 8, .bool false, .slice (some ⟨g, 0, none⟩) 1 cap, .map (some pb)]
def BegP (w : World) (e : Ending) (w' : World) : Prop := ∃ g cap pb, e = .returned (shA g cap pb) ∧ 1 ≤ cap ∧ ShA w.heap.size w' g cap pb ∧ Below w.heap.size w w'

set_option maxRecDepth 100000 in
set_option maxHeartbeats 4000000 in
theorem begun_A (mb KX : Nat) (w : World) (hK : KX < w.heap.size) (x0 : w.cell? ⟨KX, 0, none⟩ = some (.int .i64 8)) (x1 : w.cell? ⟨KX, 1, none⟩ = some (.string ⟨#[120]⟩)) (x2 : w.cell? ⟨KX, 2, none⟩ = some (.int .i64 0)) (x3 : w.cell? ⟨KX, 3, none⟩ = some (.int .i64 0)) (x4 : w.cell? ⟨KX, 4, none⟩ = some (.slice none 0 0)) :
    Calls Tryz.prog 36 #[.pointer (some ⟨mb, 0, none⟩), .agg #[.int .i64 3, .string ⟨#[65]⟩, .int .i64 0, .int .i64 0, .slice (some ⟨KX, 0, none⟩) 1 1]] w (BegP w) := by
  have hmm := @run_makeMap Tryz.prog
  have hK1 : KX < w.heap.size + 1 := by omega
  have hK2 : KX < w.heap.size + 1 + 1 := by omega
  have hK3 : KX < w.heap.size + 1 + 1 + 1 := by omega
  have hK4 : KX < w.heap.size + 1 + 1 + 1 + 1 := by omega
  have hK5 : KX < w.heap.size + 1 + 1 + 1 + 1 + 1 := by omega
  go_enter Tryz.func36, Tryz.ntmps36
  go_wp2_with fail
  refine wp_loop_rounds 2 ?_
  rw [rounds_succ]
  go_wp2_with fail
  obtain ⟨W1, hW1⟩ : ∃ W, W = (((((w.alloc (.cells #[.int .i64 3, .string ⟨#[65]⟩, .int .i64 0, .int .i64 0, .slice (some ⟨KX, 0, none⟩) 1 1] 30)).alloc (.cells #[.int .i64 0, .bool false, .slice none 0 0, .map none] 106)).alloc (.map #[] 0)).alloc (.cells #[.int .i64 8, .bool false, .slice none 0 0, .map (some (w.heap.size + 1 + 1))] 106)).alloc (.cells #[.int .i64 8, .string ⟨#[120]⟩, .int .i64 0, .int .i64 0, .slice none 0 0] 30)) := ⟨_, rfl⟩
  rw [← hW1]
  have z1 : W1.heap.size = w.heap.size + 1 + 1 + 1 + 1 + 1 := by rw [hW1]; simp
  have b1 : Below w.heap.size w W1 := by rw [hW1]; repeat (first | exact Below.refl _ _ | refine Below.alloc ?_ (by simp <;> omega) _)
  have r1 : W1.heap[w.heap.size + 1]? = some (.cells #[.int .i64 0, .bool false, .slice none 0 0, .map none] 106) := by rw [hW1, heap_old _ _ _ (by simp <;> omega), heap_old _ _ _ (by simp <;> omega), heap_old _ _ _ (by simp <;> omega)]; exact heap_new _ _ _ (by simp)
  have m1 : W1.heap[w.heap.size + 1 + 1]? = some (.map #[] 0) := by rw [hW1, heap_old _ _ _ (by simp <;> omega), heap_old _ _ _ (by simp <;> omega)]; exact heap_new _ _ _ (by simp)
  have c1 : W1.heap[w.heap.size + 1 + 1 + 1]? = some (.cells #[.int .i64 8, .bool false, .slice none 0 0, .map (some (w.heap.size + 1 + 1))] 106) := by rw [hW1, heap_old _ _ _ (by simp <;> omega)]; exact heap_new _ _ _ (by simp)
  have k1 : W1.heap[w.heap.size + 1 + 1 + 1 + 1]? = some (.cells #[.int .i64 8, .string ⟨#[120]⟩, .int .i64 0, .int .i64 0, .slice none 0 0] 30) := by rw [hW1]; exact heap_new _ _ _ (by simp)
  clear hW1
  refine Calls.mono (clone_any _ _ (by decide)) ?_
  rintro _ W2 ⟨rfl, b2⟩
  have z2 := b2.size
  have r2 : W2.heap[w.heap.size + 1]? = some (.cells #[.int .i64 0, .bool false, .slice none 0 0, .map none] 106) := (b2.block _ (by omega)).trans r1
  have m2 : W2.heap[w.heap.size + 1 + 1]? = some (.map #[] 0) := (b2.block _ (by omega)).trans m1
  have c2 : W2.heap[w.heap.size + 1 + 1 + 1]? = some (.cells #[.int .i64 8, .bool false, .slice none 0 0, .map (some (w.heap.size + 1 + 1))] 106) := (b2.block _ (by omega)).trans c1
  obtain ⟨cc2, cf2⟩ := cells_of c2
  have hs3 : w.heap.size + 1 + 1 + 1 < W2.heap.size := by omega
  obtain ⟨i0, hi, hz0, hz1, hz2⟩ := info_parts info100
  obtain ⟨W3, hW3⟩ : ∃ W, W = W2.alloc (.cells #[.string ⟨#[120]⟩, .int .i64 0] 100) := ⟨_, rfl⟩
  have b3 : Below W2.heap.size W2 W3 := by rw [hW3]; exact below1 _ _
  have z3 : W2.heap.size + 1 ≤ W3.heap.size := by rw [hW3]; simp
  have n3 : W3.heap[W2.heap.size]? = some (.cells #[.string ⟨#[120]⟩, .int .i64 0] 100) := by rw [hW3]; exact heap_new _ _ _ rfl
  have r3 : W3.heap[w.heap.size + 1]? = some (.cells #[.int .i64 0, .bool false, .slice none 0 0, .map none] 106) := (b3.block _ (by omega)).trans r2
  have m3 : W3.heap[w.heap.size + 1 + 1]? = some (.map #[] 0) := (b3.block _ (by omega)).trans m2
  have c3 : W3.heap[w.heap.size + 1 + 1 + 1]? = some (.cells #[.int .i64 8, .bool false, .slice none 0 0, .map (some (w.heap.size + 1 + 1))] 106) := (b3.block _ (by omega)).trans c2
  go_wp2_with (at_builtin; rw [← hW3]; clear hW3; refine wpList_append_own _ rfl _ _ 101 rfl W3.heap.size 100 i0 (.agg #[.string ⟨#[]⟩, .int .i64 0]) 2 24 Tryz.underlying101 hi hz0 hz1 hz2 rfl (by decide) _ 0 [] rfl (World.ownsRow_nil _ _ _ _) ⟨W2.heap.size, 0, none⟩ 1 1 [.string ⟨#[120]⟩, .int .i64 0] rfl rfl ?hn ?h1 (by decide) (by decide) (Nat.le_refl _) ?hc)
  case hn => exact fun j u hj => by rw [add_at, (cells_of n3).1 j, ← hj]; simp
  case h1 => intro u hu; simp at hu; rcases hu with rfl | rfl <;> rfl
  intro v' W4 hown hgr hnil
  obtain ⟨g, cap, rfl, hglo, hghi, b4, hrow⟩ := new_row hown hgr (fun e => by simpa using hnil e)
  have hcap : 1 ≤ cap := by
    rcases hown.2 with ⟨h0, _⟩ | ⟨g', cap', cur, h1, h2, h3, h4, h5, h6, h7⟩
    · cases h0
    · cases h1; exact h4
  clear hown hgr hnil i0 hi hz0 hz1 hz2
  have z4 := b4.size
  have r4 : W4.heap[w.heap.size + 1]? = some (.cells #[.int .i64 0, .bool false, .slice none 0 0, .map none] 106) := (b4.block _ (by omega)).trans r3
  have m4 : W4.heap[w.heap.size + 1 + 1]? = some (.map #[] 0) := (b4.block _ (by omega)).trans m3
  have c4 : W4.heap[w.heap.size + 1 + 1 + 1]? = some (.cells #[.int .i64 8, .bool false, .slice none 0 0, .map (some (w.heap.size + 1 + 1))] 106) := (b4.block _ (by omega)).trans c3
  have g40 := (hrow 0 _ rfl).1
  have g41 := hrow 1 _ rfl
  obtain ⟨cc4, cf4⟩ := cells_of c4
  obtain ⟨W5, hW5⟩ : ∃ W, W = W4.setCell ⟨w.heap.size + 1 + 1 + 1, 2, none⟩ (.slice (some ⟨g, 0, none⟩) 1 cap) := ⟨_, rfl⟩
  have q5 : Kp (· = w.heap.size + 1 + 1 + 1) W4 W5 := by rw [hW5]; exact Kp.set _ _ _ _ rfl
  have z5 := q5.size
  have r5 : W5.heap[w.heap.size + 1]? = some (.cells #[.int .i64 0, .bool false, .slice none 0 0, .map none] 106) := (q5.block _ (by omega) (by omega)).trans r4
  have m5 : W5.heap[w.heap.size + 1 + 1]? = some (.map #[] 0) := (q5.block _ (by omega) (by omega)).trans m4
  have c5 : W5.heap[w.heap.size + 1 + 1 + 1]? = some (.cells #[.int .i64 8, .bool false, .slice (some ⟨g, 0, none⟩) 1 cap, .map (some (w.heap.size + 1 + 1))] 106) := by rw [hW5]; exact heap_set c4 2 _
  obtain ⟨cc5, cf5⟩ := cells_of c5
  have g50 := (q5.cell (o := 0) hghi (by omega)).trans g40
  have g51 := (q5.cell (o := 1) hghi (by omega)).trans g41.1
  have g52 := (q5.frozen (o := 1) hghi (by omega)).trans g41.2
  obtain ⟨W6, hW6⟩ : ∃ W, W = setBlock W5 (w.heap.size + 1 + 1) (.map (#[].push ⟨.string ⟨#[120]⟩, .agg #[.bool true, .int .i64 0, .bool false, .int .i64 0], 0⟩) (0 + 1)) := ⟨_, rfl⟩
  have q6 : Kp (· = w.heap.size + 1 + 1) W5 W6 := by rw [hW6]; exact Kp.setB _ _ _ rfl
  have z6 := q6.size
  have r6 : W6.heap[w.heap.size + 1]? = some (.cells #[.int .i64 0, .bool false, .slice none 0 0, .map none] 106) := (q6.block _ (by omega) (by omega)).trans r5
  have m6 : W6.heap[w.heap.size + 1 + 1]? = some (.map #[⟨.string ⟨#[120]⟩, .agg #[.bool true, .int .i64 0, .bool false, .int .i64 0], 0⟩] 1) := by rw [hW6]; exact setBlock_same _ _ _ (by omega)
  have c6 := (q6.block (w.heap.size + 1 + 1 + 1) (by omega) (by omega)).trans c5
  have g60 := (q6.cell (o := 0) (by omega : g < W5.heap.size) (by omega)).trans g50
  have g61 := (q6.cell (o := 1) (by omega : g < W5.heap.size) (by omega)).trans g51
  have g62 := (q6.frozen (o := 1) (by omega : g < W5.heap.size) (by omega)).trans g52
  obtain ⟨cc6, cf6⟩ := cells_of c6
  obtain ⟨rc6, rf6⟩ := cells_of r6
  go_wp2_with (first | (rw [← hW5]; refine wpList_upd _ rfl 104 _ _ _ (Or.inl rfl) 9 103 Tryz.underlying104 Tryz.underlying9 (w.heap.size + 1 + 1) #[] 0 ⟨#[120]⟩ (.agg #[.bool true, .int .i64 0, .bool false, .int .i64 0]) rfl rfl rfl m5 rfl ?_; rw [← hW6]; clear hW6 hW5))
  rw [rounds_succ]
  go_wp2_with fail
  obtain ⟨W7, hW7⟩ : ∃ W, W = (((W6.setCell ⟨w.heap.size + 1, 0, none⟩ (.int .i64 8)).setCell ⟨w.heap.size + 1, 1, none⟩ (.bool false)).setCell ⟨w.heap.size + 1, 2, none⟩ (.slice (some ⟨g, 0, none⟩) 1 cap)).setCell ⟨w.heap.size + 1, 3, none⟩ (.map (some (w.heap.size + 1 + 1))) := ⟨_, rfl⟩
  rw [← hW7]
  have r7 : W7.heap[w.heap.size + 1]? = some (.cells #[.int .i64 8, .bool false, .slice (some ⟨g, 0, none⟩) 1 cap, .map (some (w.heap.size + 1 + 1))] 106) := by rw [hW7]; exact heap_set (heap_set (heap_set (heap_set r6 0 _) 1 _) 2 _) 3 _
  have q7 : Kp (· = w.heap.size + 1) W6 W7 := by
    rw [hW7]
    exact (((Kp.set (S := (· = w.heap.size + 1)) _ _ _ _ rfl).trans (Kp.set (S := (· = w.heap.size + 1)) _ _ _ _ rfl) fun _ _ h => h).trans (Kp.set (S := (· = w.heap.size + 1)) _ _ _ _ rfl) fun _ _ h => h).trans (Kp.set (S := (· = w.heap.size + 1)) _ _ _ _ rfl) fun _ _ h => h
  clear hW7
  have z7 := q7.size
  obtain ⟨rc7, rf7⟩ := cells_of r7
  refine bodyPost_ret (v := shA g cap (w.heap.size + 1 + 1)) (by simp [results, Tryz.results36, go_sem, rc7]) rfl ⟨g, cap, w.heap.size + 1 + 1, rfl, hcap, ?_, ?_⟩
  · exact ⟨by omega, by omega, by omega, by omega, by omega, (q7.cell (by omega) (by omega)).trans g60, (q7.cell (by omega) (by omega)).trans g61, (q7.frozen (by omega) (by omega)).trans g62, (q7.block _ (by omega) (by omega)).trans m6⟩
  · have h7 : Kp (fun i => w.heap.size ≤ i) w W7 := ((((((Kp.of b1).trans (Kp.of (S := fun _ => False) b2) fun _ _ h => h.elim).trans (Kp.of (S := fun _ => False) b3) fun _ _ h => h.elim).trans (Kp.of (S := fun _ => False) b4) fun _ _ h => h.elim).trans q5 fun i _ h => by omega).trans q6 fun i _ h => by omega).trans q7 fun i _ h => by omega
    exact h7.below (Nat.le_refl _) fun i hi h => by omega

end Go.Proofs.YtaboeocgoocgfaaGreatDoor
