/-
  .
  .
-/
import Derived.Test.YtdbijkgnddcneaaGreatDoorLxI2J
import Derived.Test.YtdbijkgnddcneaaGreatDoorLxI3
import Derived.Laws.AppendOwn
import Derived.OwnWalk
namespace Go.Proofs.YtdbijkgnddcneaaGreatDoor.Lx
open Go.RowKit Go.ChangeMaps
set_option maxRecDepth 100000
set_option maxHeartbeats 4000000
theorem Kp.setB {S : Nat → Prop} (w : World) (b : Nat) (o : Obj) (hb : S b) : Kp S w (setBlock w b o) :=
 ⟨rfl, rfl, rfl, by rw [setBlock_size]; exact Nat.le_refl _, fun k _ hn => setBlock_other w b k o fun e => hn (e ▸ hb)⟩
theorem kp_set4 (w : World) (b : Nat) (v0 v1 v2 v3 : Value) : Kp (· = b) w ((((w.setCell ⟨b, 0, none⟩ v0).setCell ⟨b, 1, none⟩ v1).setCell ⟨b, 2, none⟩ v2).setCell ⟨b, 3, none⟩ v3) :=
 (((Kp.set (S := (· = b)) _ _ _ _ rfl).trans (Kp.set (S := (· = b)) _ _ _ _ rfl) fun _ _ h => h).trans (Kp.set (S := (· = b)) _ _ _ _ rfl) fun _ _ h => h).trans (Kp.set (S := (· = b)) _ _ _ _ rfl) fun _ _ h => h
theorem add_at (b j : Nat) : (⟨b, 0, none⟩ : Addr).add j = ⟨b, j, none⟩ := by
 unfold Addr.add
 by_cases h : j = 0
 ·subst h; rfl
 ·simp [h]
theorem info193 : (Tryz.prog.info? 193).map (fun i => (i.zero, i.size, i.bytes)) = some (some (.agg #[.string ⟨#[]⟩, .int .i64 0]), 2, 24) := by kernel_rfl
theorem own_block {w w' : World} {lo : Nat} {e : TypeId} {s g m cap : Nat} {xs : List Value} (h : w.ownsRow lo e s (.slice (some ⟨g, 0, none⟩) m cap) m xs) (hb : w'.heap[g]? = w.heap[g]?) : w'.ownsRow lo e s (.slice (some ⟨g, 0, none⟩) m cap) m xs := by
 refine ⟨h.1, Or.inr ?_⟩
 rcases h.2 with ⟨h0, _⟩ | ⟨g', cap', cur, h1, h2, h3, h4⟩
 ·cases h0
 ·cases h1; exact ⟨g, cap, cur, rfl, h2, hb.trans h3, h4⟩
theorem row_of {w : World} {lo : Nat} {e : TypeId} {size m : Nat} {v : Value} {xs : List Value} (hown : w.ownsRow lo e size v m xs) (hv : v ≠ .slice none 0 0) :
  ∃ g cap, v = .slice (some ⟨g, 0, none⟩) m cap ∧ lo ≤ g ∧ g < w.heap.size ∧ m ≤ cap ∧ ∀ j u, xs[j]? = some u → w.cell? ⟨g, j, none⟩ = some u ∧ w.frozen? ⟨g, j, none⟩ = false := by
 rcases hown.2 with ⟨h0, _⟩ | ⟨g, cap, cur, h1, h2, h3, h4, h5, h6, h7⟩
 ·exact absurd h0 hv
 ·refine ⟨g, cap, h1, h2, (Array.getElem?_eq_some_iff.1 h3).1, h4, fun j u hj => ?_⟩
  have hjl : j < xs.length := (List.getElem?_eq_some_iff.1 hj).1
  have hc : cur[j]? = some u := by
   rw [← Array.getElem?_toList, ← hj, ← h7, List.getElem?_take, if_pos]
   rw [← h7, List.length_take] at hjl
   omega
  constructor
  ·simp [World.cell?, h3, hc]
  ·simp [World.frozen?, h3]
structure ShT (lo : Nat) (w : World) (g cap pb : Nat) : Prop where
 glo : lo ≤ g
 ghi : g < w.heap.size
 plo : lo ≤ pb
 phi : pb < w.heap.size
 ne : g ≠ pb
 n0 : w.cell? ⟨g, 0, none⟩ = some (.string ⟨#[97]⟩)
 e0 : w.cell? ⟨g, 1, none⟩ = some (.int .i64 0)
 f0 : w.frozen? ⟨g, 1, none⟩ = false
 parts : w.heap[pb]? = some (.map #[⟨.string ⟨#[97]⟩, .agg #[.bool true, .int .i64 0, .bool false, .int .i64 0], 0⟩] 1)
abbrev shT (g cap pb : Nat) : Value := .agg #[.int .i64 8, .bool false, .slice (some ⟨g, 0, none⟩) 1 cap, .map (some pb)]
def BegTP (w : World) (e : Ending) (w' : World) : Prop := ∃ g cap pb, e = .returned (shT g cap pb) ∧ 1 ≤ cap ∧ ShT w.heap.size w' g cap pb ∧ Below w.heap.size w w'
structure ShS (lo : Nat) (w : World) (g cap pb : Nat) : Prop where
 glo : lo ≤ g
 ghi : g < w.heap.size
 plo : lo ≤ pb
 phi : pb < w.heap.size
 ne : g ≠ pb
 n0 : w.cell? ⟨g, 0, none⟩ = some (.string ⟨#[102]⟩)
 e0 : w.cell? ⟨g, 1, none⟩ = some (.int .i64 0)
 f0 : w.frozen? ⟨g, 1, none⟩ = false
 n1 : w.cell? ⟨g, 2, none⟩ = some (.string ⟨#[103]⟩)
 e1 : w.cell? ⟨g, 3, none⟩ = some (.int .i64 0)
 f1 : w.frozen? ⟨g, 3, none⟩ = false
 parts : w.heap[pb]? = some (.map #[⟨.string ⟨#[102]⟩, .agg #[.bool true, .int .i64 0, .bool false, .int .i64 0], 0⟩, ⟨.string ⟨#[103]⟩, .agg #[.bool true, .int .i64 1, .bool false, .int .i64 0], 1⟩] 2)
abbrev shS (g cap pb : Nat) : Value := .agg #[.int .i64 8, .bool false, .slice (some ⟨g, 0, none⟩) 2 cap, .map (some pb)]
def BegSP (w : World) (e : Ending) (w' : World) : Prop := ∃ g cap pb, e = .returned (shS g cap pb) ∧ 2 ≤ cap ∧ ShS w.heap.size w' g cap pb ∧ Below w.heap.size w w'
theorem begun_T (mb KT : Nat) (w : World) (hk : w.heap[KT]? = some (.cells #[.int .i64 8, .string ⟨#[97]⟩, .int .i64 0, .int .i64 0, .slice none 0 0] 98)) :
  Calls Tryz.prog 106 #[.pointer (some ⟨mb, 0, none⟩), .agg #[.int .i64 3, .string ⟨#[84]⟩, .int .i64 0, .int .i64 0, .slice (some ⟨KT, 0, none⟩) 1 1]] w (BegTP w) := by
 have hmm := @run_makeMap Tryz.prog
 have hKl := heap_lt hk
 have hK1 : KT < w.heap.size + 1 := by omega
 have hK2 : KT < w.heap.size + 1 + 1 := by omega
 have hK3 : KT < w.heap.size + 1 + 1 + 1 := by omega
 have hK4 : KT < w.heap.size + 1 + 1 + 1 + 1 := by omega
 have hK5 : KT < w.heap.size + 1 + 1 + 1 + 1 + 1 := by omega
 go_enter Tryz.func106, Tryz.ntmps106
 have kc := (cells_of hk).1
 go_wp2_with fail
 refine wp_loop_rounds 2 ?_
 rw [rounds_succ]
 go_wp2_with fail
 clear kc
 obtain ⟨B0, hB0⟩ : ∃ W, W = (((((w.alloc (.cells #[.int .i64 3, .string ⟨#[84]⟩, .int .i64 0, .int .i64 0, .slice (some ⟨KT, 0, none⟩) 1 1] 98)).alloc (.cells #[.int .i64 0, .bool false, .slice none 0 0, .map none] 199)).alloc (.map #[] 0)).alloc (.cells #[.int .i64 8, .bool false, .slice none 0 0, .map (some (w.heap.size + 1 + 1))] 199)).alloc (.cells #[.int .i64 8, .string ⟨#[97]⟩, .int .i64 0, .int .i64 0, .slice none 0 0] 98)) := ⟨_, rfl⟩
 rw [← hB0]
 have zB0 : B0.heap.size = w.heap.size + 1 + 1 + 1 + 1 + 1 := by rw [hB0]; simp
 have bB0 : Below w.heap.size w B0 := by rw [hB0]; repeat (first | exact Below.refl _ _ | refine Below.alloc ?_ (by simp <;> omega) _)
 have rB0 : B0.heap[w.heap.size + 1]? = some (.cells #[.int .i64 0, .bool false, .slice none 0 0, .map none] 199) := by rw [hB0, heap_old _ _ _ (by simp <;> omega), heap_old _ _ _ (by simp <;> omega), heap_old _ _ _ (by simp <;> omega)]; exact heap_new _ _ _ (by simp)
 have mB0 : B0.heap[w.heap.size + 1 + 1]? = some (.map #[] 0) := by rw [hB0, heap_old _ _ _ (by simp <;> omega), heap_old _ _ _ (by simp <;> omega)]; exact heap_new _ _ _ (by simp)
 have cB0 : B0.heap[w.heap.size + 1 + 1 + 1]? = some (.cells #[.int .i64 8, .bool false, .slice none 0 0, .map (some (w.heap.size + 1 + 1))] 199) := by rw [hB0, heap_old _ _ _ (by simp <;> omega)]; exact heap_new _ _ _ (by simp)
 have kB0 : B0.heap[KT]? = some (.cells #[.int .i64 8, .string ⟨#[97]⟩, .int .i64 0, .int .i64 0, .slice none 0 0] 98) := (bB0.block _ hKl).trans hk
 clear hB0
 refine Calls.mono (clone_any _ _ (by decide)) ?_
 rintro _ C0 ⟨rfl, bC0⟩
 have zC0 := bC0.size
 have rC0 : C0.heap[w.heap.size + 1]? = _ := (bC0.block _ (by omega)).trans rB0
 have mC0 : C0.heap[w.heap.size + 1 + 1]? = _ := (bC0.block _ (by omega)).trans mB0
 have cC0 : C0.heap[w.heap.size + 1 + 1 + 1]? = _ := (bC0.block _ (by omega)).trans cB0
 have kC0 : C0.heap[KT]? = some (.cells #[.int .i64 8, .string ⟨#[97]⟩, .int .i64 0, .int .i64 0, .slice none 0 0] 98) := (bC0.block _ (by omega)).trans kB0
 obtain ⟨ccC0, cfC0⟩ := cells_of cC0
 have hsC0 : w.heap.size + 1 + 1 + 1 < C0.heap.size := by omega
 obtain ⟨i0, hi, hz0, hz1, hz2⟩ := info_parts info193
 obtain ⟨D0, hD0⟩ : ∃ W, W = C0.alloc (.cells #[.string ⟨#[97]⟩, .int .i64 0] 193) := ⟨_, rfl⟩
 have bD0 : Below C0.heap.size C0 D0 := by rw [hD0]; exact below1 _ _
 have zD0 : C0.heap.size + 1 ≤ D0.heap.size := by rw [hD0]; simp
 have nD0 : D0.heap[C0.heap.size]? = some (.cells #[.string ⟨#[97]⟩, .int .i64 0] 193) := by rw [hD0]; exact heap_new _ _ _ rfl
 have rD0 : D0.heap[w.heap.size + 1]? = _ := (bD0.block _ (by omega)).trans rC0
 have mD0 : D0.heap[w.heap.size + 1 + 1]? = _ := (bD0.block _ (by omega)).trans mC0
 have cD0 : D0.heap[w.heap.size + 1 + 1 + 1]? = _ := (bD0.block _ (by omega)).trans cC0
 have kD0 : D0.heap[KT]? = some (.cells #[.int .i64 8, .string ⟨#[97]⟩, .int .i64 0, .int .i64 0, .slice none 0 0] 98) := (bD0.block _ (by omega)).trans kC0
 go_wp2_with (at_builtin; rw [← hD0]; clear hD0; refine wpList_append_own _ rfl _ _ 194 rfl D0.heap.size 193 i0 (.agg #[.string ⟨#[]⟩, .int .i64 0]) 2 24 Tryz.underlying194 hi hz0 hz1 hz2 rfl (by decide) _ 0 [] rfl (World.ownsRow_nil _ _ _ _) ⟨C0.heap.size, 0, none⟩ 1 1 [.string ⟨#[97]⟩, .int .i64 0] rfl rfl ?hn0 ?ho0 (by decide) (by decide) (by omega) ?hc0)
 case hn0 => exact fun j u hj => by rw [add_at, (cells_of nD0).1 j, ← hj]; simp
 case ho0 => intro u hu; simp at hu; rcases hu with rfl | rfl <;> rfl
 intro v0 E0 oE0 hgr hnil
 obtain ⟨g0, cap0, rfl, hglo0, hghi0, hcap0, hrow0⟩ := row_of oE0 (fun e => by simpa using hnil e)
 have qE0 : Kp (fun k => False) D0 E0 := ⟨hgr.os, hgr.tape, hgr.output, hgr.size, fun k hk hn => hgr.block k hk (by simp [Value.ownBlock])⟩
 clear hgr hnil i0 hi hz0 hz1 hz2 ccC0 cfC0 hsC0
 have zE0 := qE0.size
 have rE0 : E0.heap[w.heap.size + 1]? = _ := (qE0.block _ (by omega) (by exact id)).trans rD0
 have mE0 : E0.heap[w.heap.size + 1 + 1]? = _ := (qE0.block _ (by omega) (by exact id)).trans mD0
 have cE0 : E0.heap[w.heap.size + 1 + 1 + 1]? = _ := (qE0.block _ (by omega) (by exact id)).trans cD0
 have kE0 : E0.heap[KT]? = some (.cells #[.int .i64 8, .string ⟨#[97]⟩, .int .i64 0, .int .i64 0, .slice none 0 0] 98) := (qE0.block _ (by omega) (by exact id)).trans kD0
 obtain ⟨ccE0, cfE0⟩ := cells_of cE0
 obtain ⟨G0, hG0⟩ : ∃ W, W = E0.setCell ⟨w.heap.size + 1 + 1 + 1, 2, none⟩ (.slice (some ⟨g0, 0, none⟩) 1 cap0) := ⟨_, rfl⟩
 have qG0 : Kp (· = w.heap.size + 1 + 1 + 1) E0 G0 := by rw [hG0]; exact Kp.set _ _ _ _ rfl
 have zG0 := qG0.size
 have rG0 : G0.heap[w.heap.size + 1]? = _ := (qG0.block _ (by omega) (by omega)).trans rE0
 have mG0 : G0.heap[w.heap.size + 1 + 1]? = _ := (qG0.block _ (by omega) (by omega)).trans mE0
 have kG0 : G0.heap[KT]? = some (.cells #[.int .i64 8, .string ⟨#[97]⟩, .int .i64 0, .int .i64 0, .slice none 0 0] 98) := (qG0.block _ (by omega) (by omega)).trans kE0
 have cG0 : G0.heap[w.heap.size + 1 + 1 + 1]? = some (.cells #[.int .i64 8, .bool false, .slice (some ⟨g0, 0, none⟩) 1 cap0, .map (some (w.heap.size + 1 + 1))] 199) := by rw [hG0]; exact heap_set cE0 2 _
 have oG0 := own_block oE0 (qG0.block _ (by omega) (by omega))
 obtain ⟨ccG0, cfG0⟩ := cells_of cG0
 obtain ⟨H0, hH0⟩ : ∃ W, W = setBlock G0 (w.heap.size + 1 + 1) (.map (#[].push ⟨.string ⟨#[97]⟩, .agg #[.bool true, .int .i64 0, .bool false, .int .i64 0], 0⟩) (0 + 1)) := ⟨_, rfl⟩
 have qH0 : Kp (· = w.heap.size + 1 + 1) G0 H0 := by rw [hH0]; exact Kp.setB _ _ _ rfl
 have zH0 := qH0.size
 have rH0 : H0.heap[w.heap.size + 1]? = _ := (qH0.block _ (by omega) (by omega)).trans rG0
 have mH0 : H0.heap[w.heap.size + 1 + 1]? = some (.map #[⟨.string ⟨#[97]⟩, .agg #[.bool true, .int .i64 0, .bool false, .int .i64 0], 0⟩] 1) := by rw [hH0]; exact setBlock_same _ _ _ (by omega)
 have kH0 : H0.heap[KT]? = some (.cells #[.int .i64 8, .string ⟨#[97]⟩, .int .i64 0, .int .i64 0, .slice none 0 0] 98) := (qH0.block _ (by omega) (by omega)).trans kG0
 have cH0 : H0.heap[w.heap.size + 1 + 1 + 1]? = _ := (qH0.block (w.heap.size + 1 + 1 + 1) (by omega) (by omega)).trans cG0
 have oH0 := own_block oG0 (qH0.block _ (by omega) (by omega))
 obtain ⟨ccH0, cfH0⟩ := cells_of cH0
 obtain ⟨rcH0, rfH0⟩ := cells_of rH0
 have kcH0 := (cells_of kH0).1
 have hKz0 : KT < H0.heap.size := by omega
 have hsz0 : w.heap.size + 1 + 1 + 1 < H0.heap.size := by omega
 go_wp2_with (first | (rw [← hG0]; refine wpList_upd _ rfl 197 _ _ _ (Or.inl rfl) 9 196 Tryz.underlying197 Tryz.underlying9 (w.heap.size + 1 + 1) #[] 0 ⟨#[97]⟩ (.agg #[.bool true, .int .i64 0, .bool false, .int .i64 0]) rfl rfl rfl mG0 rfl ?_; rw [← hH0]; clear hH0 hG0))
 rw [rounds_succ]
 go_wp2_with fail
 clear ccE0 cfE0 ccG0 cfG0 kcH0
 obtain ⟨Z, hZ⟩ : ∃ W, W = (((H0.setCell ⟨w.heap.size + 1, 0, none⟩ (.int .i64 8)).setCell ⟨w.heap.size + 1, 1, none⟩ (.bool false)).setCell ⟨w.heap.size + 1, 2, none⟩ (.slice (some ⟨g0, 0, none⟩) 1 cap0)).setCell ⟨w.heap.size + 1, 3, none⟩ (.map (some (w.heap.size + 1 + 1))) := ⟨_, rfl⟩
 rw [← hZ]
 have rZ : Z.heap[w.heap.size + 1]? = some (.cells #[.int .i64 8, .bool false, .slice (some ⟨g0, 0, none⟩) 1 cap0, .map (some (w.heap.size + 1 + 1))] 199) := by rw [hZ]; exact heap_set (heap_set (heap_set (heap_set rH0 0 _) 1 _) 2 _) 3 _
 have qZ : Kp (· = w.heap.size + 1) H0 Z := by
  rw [hZ]
  exact kp_set4 _ _ _ _ _ _
 clear hZ
 have zZ := qZ.size
 obtain ⟨rcZ, rfZ⟩ := cells_of rZ
 have oZ := own_block oH0 (qZ.block _ (by omega) (by omega))
 obtain ⟨_, _, he, _, _, _, hrow⟩ := row_of oZ (by simp)
 cases he
 refine bodyPost_ret (v := shT g0 cap0 (w.heap.size + 1 + 1)) (by simp [results, Tryz.results106, go_sem, rcZ]) rfl ⟨g0, cap0, w.heap.size + 1 + 1, rfl, hcap0, ?_, ?_⟩
 ·exact ⟨by omega, by omega, by omega, by omega, by omega, (hrow 0 _ rfl).1, (hrow 1 _ rfl).1, (hrow 1 _ rfl).2, (qZ.block _ (by omega) (by omega)).trans mH0⟩
 ·have h7 : Kp (fun i => w.heap.size ≤ i) w Z := (((((((Kp.of bB0 : Kp (fun i => w.heap.size ≤ i) w B0).trans (Kp.of (S := fun _ => False) bC0) (fun _ _ h => h.elim)).trans (Kp.of (S := fun _ => False) bD0) (fun _ _ h => h.elim)).trans (qE0) (fun i _ h => by exact h.elim)).trans (qG0) (fun i _ h => by omega)).trans (qH0) (fun i _ h => by omega)).trans (qZ) (fun i _ h => by omega))
  exact h7.below (Nat.le_refl _) fun i hi h => by omega
end Go.Proofs.YtdbijkgnddcneaaGreatDoor.Lx
namespace Go.Proofs.YtdbijkgnddcneaaGreatDoor.Lx
open Go.RowKit Go.ChangeMaps
set_option maxRecDepth 100000
set_option maxHeartbeats 4000000
theorem begun_S (mb KS : Nat) (w : World) (hk : w.heap[KS]? = some (.cells #[.int .i64 8, .string ⟨#[102]⟩, .int .i64 0, .int .i64 0, .slice none 0 0, .int .i64 8, .string ⟨#[103]⟩, .int .i64 0, .int .i64 0, .slice none 0 0] 98)) :
  Calls Tryz.prog 106 #[.pointer (some ⟨mb, 0, none⟩), .agg #[.int .i64 3, .string ⟨#[83]⟩, .int .i64 0, .int .i64 0, .slice (some ⟨KS, 0, none⟩) 2 2]] w (BegSP w) := by
 have hmm := @run_makeMap Tryz.prog
 have hKl := heap_lt hk
 have hK1 : KS < w.heap.size + 1 := by omega
 have hK2 : KS < w.heap.size + 1 + 1 := by omega
 have hK3 : KS < w.heap.size + 1 + 1 + 1 := by omega
 have hK4 : KS < w.heap.size + 1 + 1 + 1 + 1 := by omega
 have hK5 : KS < w.heap.size + 1 + 1 + 1 + 1 + 1 := by omega
 go_enter Tryz.func106, Tryz.ntmps106
 have kc := (cells_of hk).1
 go_wp2_with fail
 refine wp_loop_rounds 3 ?_
 rw [rounds_succ]
 go_wp2_with fail
 clear kc
 obtain ⟨B0, hB0⟩ : ∃ W, W = (((((w.alloc (.cells #[.int .i64 3, .string ⟨#[83]⟩, .int .i64 0, .int .i64 0, .slice (some ⟨KS, 0, none⟩) 2 2] 98)).alloc (.cells #[.int .i64 0, .bool false, .slice none 0 0, .map none] 199)).alloc (.map #[] 0)).alloc (.cells #[.int .i64 8, .bool false, .slice none 0 0, .map (some (w.heap.size + 1 + 1))] 199)).alloc (.cells #[.int .i64 8, .string ⟨#[102]⟩, .int .i64 0, .int .i64 0, .slice none 0 0] 98)) := ⟨_, rfl⟩
 rw [← hB0]
 have zB0 : B0.heap.size = w.heap.size + 1 + 1 + 1 + 1 + 1 := by rw [hB0]; simp
 have bB0 : Below w.heap.size w B0 := by rw [hB0]; repeat (first | exact Below.refl _ _ | refine Below.alloc ?_ (by simp <;> omega) _)
 have rB0 : B0.heap[w.heap.size + 1]? = some (.cells #[.int .i64 0, .bool false, .slice none 0 0, .map none] 199) := by rw [hB0, heap_old _ _ _ (by simp <;> omega), heap_old _ _ _ (by simp <;> omega), heap_old _ _ _ (by simp <;> omega)]; exact heap_new _ _ _ (by simp)
 have mB0 : B0.heap[w.heap.size + 1 + 1]? = some (.map #[] 0) := by rw [hB0, heap_old _ _ _ (by simp <;> omega), heap_old _ _ _ (by simp <;> omega)]; exact heap_new _ _ _ (by simp)
 have cB0 : B0.heap[w.heap.size + 1 + 1 + 1]? = some (.cells #[.int .i64 8, .bool false, .slice none 0 0, .map (some (w.heap.size + 1 + 1))] 199) := by rw [hB0, heap_old _ _ _ (by simp <;> omega)]; exact heap_new _ _ _ (by simp)
 have kB0 : B0.heap[KS]? = some (.cells #[.int .i64 8, .string ⟨#[102]⟩, .int .i64 0, .int .i64 0, .slice none 0 0, .int .i64 8, .string ⟨#[103]⟩, .int .i64 0, .int .i64 0, .slice none 0 0] 98) := (bB0.block _ hKl).trans hk
 clear hB0
 refine Calls.mono (clone_any _ _ (by decide)) ?_
 rintro _ C0 ⟨rfl, bC0⟩
 have zC0 := bC0.size
 have rC0 : C0.heap[w.heap.size + 1]? = _ := (bC0.block _ (by omega)).trans rB0
 have mC0 : C0.heap[w.heap.size + 1 + 1]? = _ := (bC0.block _ (by omega)).trans mB0
 have cC0 : C0.heap[w.heap.size + 1 + 1 + 1]? = _ := (bC0.block _ (by omega)).trans cB0
 have kC0 : C0.heap[KS]? = some (.cells #[.int .i64 8, .string ⟨#[102]⟩, .int .i64 0, .int .i64 0, .slice none 0 0, .int .i64 8, .string ⟨#[103]⟩, .int .i64 0, .int .i64 0, .slice none 0 0] 98) := (bC0.block _ (by omega)).trans kB0
 obtain ⟨ccC0, cfC0⟩ := cells_of cC0
 have hsC0 : w.heap.size + 1 + 1 + 1 < C0.heap.size := by omega
 obtain ⟨i0, hi, hz0, hz1, hz2⟩ := info_parts info193
 obtain ⟨D0, hD0⟩ : ∃ W, W = C0.alloc (.cells #[.string ⟨#[102]⟩, .int .i64 0] 193) := ⟨_, rfl⟩
 have bD0 : Below C0.heap.size C0 D0 := by rw [hD0]; exact below1 _ _
 have zD0 : C0.heap.size + 1 ≤ D0.heap.size := by rw [hD0]; simp
 have nD0 : D0.heap[C0.heap.size]? = some (.cells #[.string ⟨#[102]⟩, .int .i64 0] 193) := by rw [hD0]; exact heap_new _ _ _ rfl
 have rD0 : D0.heap[w.heap.size + 1]? = _ := (bD0.block _ (by omega)).trans rC0
 have mD0 : D0.heap[w.heap.size + 1 + 1]? = _ := (bD0.block _ (by omega)).trans mC0
 have cD0 : D0.heap[w.heap.size + 1 + 1 + 1]? = _ := (bD0.block _ (by omega)).trans cC0
 have kD0 : D0.heap[KS]? = some (.cells #[.int .i64 8, .string ⟨#[102]⟩, .int .i64 0, .int .i64 0, .slice none 0 0, .int .i64 8, .string ⟨#[103]⟩, .int .i64 0, .int .i64 0, .slice none 0 0] 98) := (bD0.block _ (by omega)).trans kC0
 go_wp2_with (at_builtin; rw [← hD0]; clear hD0; refine wpList_append_own _ rfl _ _ 194 rfl D0.heap.size 193 i0 (.agg #[.string ⟨#[]⟩, .int .i64 0]) 2 24 Tryz.underlying194 hi hz0 hz1 hz2 rfl (by decide) _ 0 [] rfl (World.ownsRow_nil _ _ _ _) ⟨C0.heap.size, 0, none⟩ 1 1 [.string ⟨#[102]⟩, .int .i64 0] rfl rfl ?hn0 ?ho0 (by decide) (by decide) (by omega) ?hc0)
 case hn0 => exact fun j u hj => by rw [add_at, (cells_of nD0).1 j, ← hj]; simp
 case ho0 => intro u hu; simp at hu; rcases hu with rfl | rfl <;> rfl
 intro v0 E0 oE0 hgr hnil
 obtain ⟨g0, cap0, rfl, hglo0, hghi0, hcap0, hrow0⟩ := row_of oE0 (fun e => by simpa using hnil e)
 have qE0 : Kp (fun k => False) D0 E0 := ⟨hgr.os, hgr.tape, hgr.output, hgr.size, fun k hk hn => hgr.block k hk (by simp [Value.ownBlock])⟩
 clear hgr hnil i0 hi hz0 hz1 hz2 ccC0 cfC0 hsC0
 have zE0 := qE0.size
 have rE0 : E0.heap[w.heap.size + 1]? = _ := (qE0.block _ (by omega) (by exact id)).trans rD0
 have mE0 : E0.heap[w.heap.size + 1 + 1]? = _ := (qE0.block _ (by omega) (by exact id)).trans mD0
 have cE0 : E0.heap[w.heap.size + 1 + 1 + 1]? = _ := (qE0.block _ (by omega) (by exact id)).trans cD0
 have kE0 : E0.heap[KS]? = some (.cells #[.int .i64 8, .string ⟨#[102]⟩, .int .i64 0, .int .i64 0, .slice none 0 0, .int .i64 8, .string ⟨#[103]⟩, .int .i64 0, .int .i64 0, .slice none 0 0] 98) := (qE0.block _ (by omega) (by exact id)).trans kD0
 obtain ⟨ccE0, cfE0⟩ := cells_of cE0
 obtain ⟨G0, hG0⟩ : ∃ W, W = E0.setCell ⟨w.heap.size + 1 + 1 + 1, 2, none⟩ (.slice (some ⟨g0, 0, none⟩) 1 cap0) := ⟨_, rfl⟩
 have qG0 : Kp (· = w.heap.size + 1 + 1 + 1) E0 G0 := by rw [hG0]; exact Kp.set _ _ _ _ rfl
 have zG0 := qG0.size
 have rG0 : G0.heap[w.heap.size + 1]? = _ := (qG0.block _ (by omega) (by omega)).trans rE0
 have mG0 : G0.heap[w.heap.size + 1 + 1]? = _ := (qG0.block _ (by omega) (by omega)).trans mE0
 have kG0 : G0.heap[KS]? = some (.cells #[.int .i64 8, .string ⟨#[102]⟩, .int .i64 0, .int .i64 0, .slice none 0 0, .int .i64 8, .string ⟨#[103]⟩, .int .i64 0, .int .i64 0, .slice none 0 0] 98) := (qG0.block _ (by omega) (by omega)).trans kE0
 have cG0 : G0.heap[w.heap.size + 1 + 1 + 1]? = some (.cells #[.int .i64 8, .bool false, .slice (some ⟨g0, 0, none⟩) 1 cap0, .map (some (w.heap.size + 1 + 1))] 199) := by rw [hG0]; exact heap_set cE0 2 _
 have oG0 := own_block oE0 (qG0.block _ (by omega) (by omega))
 obtain ⟨ccG0, cfG0⟩ := cells_of cG0
 obtain ⟨H0, hH0⟩ : ∃ W, W = setBlock G0 (w.heap.size + 1 + 1) (.map (#[].push ⟨.string ⟨#[102]⟩, .agg #[.bool true, .int .i64 0, .bool false, .int .i64 0], 0⟩) (0 + 1)) := ⟨_, rfl⟩
 have qH0 : Kp (· = w.heap.size + 1 + 1) G0 H0 := by rw [hH0]; exact Kp.setB _ _ _ rfl
 have zH0 := qH0.size
 have rH0 : H0.heap[w.heap.size + 1]? = _ := (qH0.block _ (by omega) (by omega)).trans rG0
 have mH0 : H0.heap[w.heap.size + 1 + 1]? = some (.map #[⟨.string ⟨#[102]⟩, .agg #[.bool true, .int .i64 0, .bool false, .int .i64 0], 0⟩] 1) := by rw [hH0]; exact setBlock_same _ _ _ (by omega)
 have kH0 : H0.heap[KS]? = some (.cells #[.int .i64 8, .string ⟨#[102]⟩, .int .i64 0, .int .i64 0, .slice none 0 0, .int .i64 8, .string ⟨#[103]⟩, .int .i64 0, .int .i64 0, .slice none 0 0] 98) := (qH0.block _ (by omega) (by omega)).trans kG0
 have cH0 : H0.heap[w.heap.size + 1 + 1 + 1]? = _ := (qH0.block (w.heap.size + 1 + 1 + 1) (by omega) (by omega)).trans cG0
 have oH0 := own_block oG0 (qH0.block _ (by omega) (by omega))
 obtain ⟨ccH0, cfH0⟩ := cells_of cH0
 obtain ⟨rcH0, rfH0⟩ := cells_of rH0
 have kcH0 := (cells_of kH0).1
 have hKz0 : KS < H0.heap.size := by omega
 have hsz0 : w.heap.size + 1 + 1 + 1 < H0.heap.size := by omega
 go_wp2_with (first | (rw [← hG0]; refine wpList_upd _ rfl 197 _ _ _ (Or.inl rfl) 9 196 Tryz.underlying197 Tryz.underlying9 (w.heap.size + 1 + 1) #[] 0 ⟨#[102]⟩ (.agg #[.bool true, .int .i64 0, .bool false, .int .i64 0]) rfl rfl rfl mG0 rfl ?_; rw [← hH0]; clear hH0 hG0))
 rw [rounds_succ]
 go_wp2_with fail
 clear ccE0 cfE0 ccG0 cfG0 kcH0 ccH0 cfH0 rcH0 rfH0
 obtain ⟨B1, hB1⟩ : ∃ W, W = H0.alloc (.cells #[.int .i64 8, .string ⟨#[103]⟩, .int .i64 0, .int .i64 0, .slice none 0 0] 98) := ⟨_, rfl⟩
 rw [← hB1]
 have bB1 : Below H0.heap.size H0 B1 := by rw [hB1]; exact below1 _ _
 clear hB1
 have zB1 := bB1.size
 have rB1 : B1.heap[w.heap.size + 1]? = _ := (bB1.block _ (by omega)).trans rH0
 have mB1 : B1.heap[w.heap.size + 1 + 1]? = _ := (bB1.block _ (by omega)).trans mH0
 have cB1 : B1.heap[w.heap.size + 1 + 1 + 1]? = _ := (bB1.block _ (by omega)).trans cH0
 have kB1 : B1.heap[KS]? = some (.cells #[.int .i64 8, .string ⟨#[102]⟩, .int .i64 0, .int .i64 0, .slice none 0 0, .int .i64 8, .string ⟨#[103]⟩, .int .i64 0, .int .i64 0, .slice none 0 0] 98) := (bB1.block _ (by omega)).trans kH0
 have oB1 := own_block oH0 (bB1.block _ (by omega))
 refine Calls.mono (clone_any _ _ (by decide)) ?_
 rintro _ C1 ⟨rfl, bC1⟩
 have zC1 := bC1.size
 have rC1 : C1.heap[w.heap.size + 1]? = _ := (bC1.block _ (by omega)).trans rB1
 have mC1 : C1.heap[w.heap.size + 1 + 1]? = _ := (bC1.block _ (by omega)).trans mB1
 have cC1 : C1.heap[w.heap.size + 1 + 1 + 1]? = _ := (bC1.block _ (by omega)).trans cB1
 have kC1 : C1.heap[KS]? = some (.cells #[.int .i64 8, .string ⟨#[102]⟩, .int .i64 0, .int .i64 0, .slice none 0 0, .int .i64 8, .string ⟨#[103]⟩, .int .i64 0, .int .i64 0, .slice none 0 0] 98) := (bC1.block _ (by omega)).trans kB1
 have oC1 := own_block oB1 (bC1.block _ (by omega))
 obtain ⟨ccC1, cfC1⟩ := cells_of cC1
 have hsC1 : w.heap.size + 1 + 1 + 1 < C1.heap.size := by omega
 obtain ⟨i0, hi, hz0, hz1, hz2⟩ := info_parts info193
 obtain ⟨D1, hD1⟩ : ∃ W, W = C1.alloc (.cells #[.string ⟨#[103]⟩, .int .i64 0] 193) := ⟨_, rfl⟩
 have bD1 : Below C1.heap.size C1 D1 := by rw [hD1]; exact below1 _ _
 have zD1 : C1.heap.size + 1 ≤ D1.heap.size := by rw [hD1]; simp
 have nD1 : D1.heap[C1.heap.size]? = some (.cells #[.string ⟨#[103]⟩, .int .i64 0] 193) := by rw [hD1]; exact heap_new _ _ _ rfl
 have rD1 : D1.heap[w.heap.size + 1]? = _ := (bD1.block _ (by omega)).trans rC1
 have mD1 : D1.heap[w.heap.size + 1 + 1]? = _ := (bD1.block _ (by omega)).trans mC1
 have cD1 : D1.heap[w.heap.size + 1 + 1 + 1]? = _ := (bD1.block _ (by omega)).trans cC1
 have kD1 : D1.heap[KS]? = some (.cells #[.int .i64 8, .string ⟨#[102]⟩, .int .i64 0, .int .i64 0, .slice none 0 0, .int .i64 8, .string ⟨#[103]⟩, .int .i64 0, .int .i64 0, .slice none 0 0] 98) := (bD1.block _ (by omega)).trans kC1
 have oD1 := own_block oC1 (bD1.block _ (by omega))
 go_wp2_with (at_builtin; rw [← hD1]; clear hD1; refine wpList_append_own _ rfl _ _ 194 rfl D0.heap.size 193 i0 (.agg #[.string ⟨#[]⟩, .int .i64 0]) 2 24 Tryz.underlying194 hi hz0 hz1 hz2 rfl (by decide) _ 1 [.string ⟨#[102]⟩, .int .i64 0] rfl oD1 ⟨C1.heap.size, 0, none⟩ 1 1 [.string ⟨#[103]⟩, .int .i64 0] rfl rfl ?hn1 ?ho1 (by decide) (by decide) (by omega) ?hc1)
 case hn1 => exact fun j u hj => by rw [add_at, (cells_of nD1).1 j, ← hj]; simp
 case ho1 => intro u hu; simp at hu; rcases hu with rfl | rfl <;> rfl
 intro v1 E1 oE1 hgr hnil
 obtain ⟨g1, cap1, rfl, hglo1, hghi1, hcap1, hrow1⟩ := row_of oE1 (fun e => by simpa using hnil e)
 have qE1 : Kp (fun k => k = g0) D1 E1 := ⟨hgr.os, hgr.tape, hgr.output, hgr.size, fun k hk hn => hgr.block k hk (by simp [Value.ownBlock]; intro e; exact hn e)⟩
 clear hgr hnil i0 hi hz0 hz1 hz2 ccC1 cfC1 hsC1
 have zE1 := qE1.size
 have rE1 : E1.heap[w.heap.size + 1]? = _ := (qE1.block _ (by omega) (by omega)).trans rD1
 have mE1 : E1.heap[w.heap.size + 1 + 1]? = _ := (qE1.block _ (by omega) (by omega)).trans mD1
 have cE1 : E1.heap[w.heap.size + 1 + 1 + 1]? = _ := (qE1.block _ (by omega) (by omega)).trans cD1
 have kE1 : E1.heap[KS]? = some (.cells #[.int .i64 8, .string ⟨#[102]⟩, .int .i64 0, .int .i64 0, .slice none 0 0, .int .i64 8, .string ⟨#[103]⟩, .int .i64 0, .int .i64 0, .slice none 0 0] 98) := (qE1.block _ (by omega) (by omega)).trans kD1
 obtain ⟨ccE1, cfE1⟩ := cells_of cE1
 obtain ⟨G1, hG1⟩ : ∃ W, W = E1.setCell ⟨w.heap.size + 1 + 1 + 1, 2, none⟩ (.slice (some ⟨g1, 0, none⟩) 2 cap1) := ⟨_, rfl⟩
 have qG1 : Kp (· = w.heap.size + 1 + 1 + 1) E1 G1 := by rw [hG1]; exact Kp.set _ _ _ _ rfl
 have zG1 := qG1.size
 have rG1 : G1.heap[w.heap.size + 1]? = _ := (qG1.block _ (by omega) (by omega)).trans rE1
 have mG1 : G1.heap[w.heap.size + 1 + 1]? = _ := (qG1.block _ (by omega) (by omega)).trans mE1
 have kG1 : G1.heap[KS]? = some (.cells #[.int .i64 8, .string ⟨#[102]⟩, .int .i64 0, .int .i64 0, .slice none 0 0, .int .i64 8, .string ⟨#[103]⟩, .int .i64 0, .int .i64 0, .slice none 0 0] 98) := (qG1.block _ (by omega) (by omega)).trans kE1
 have cG1 : G1.heap[w.heap.size + 1 + 1 + 1]? = some (.cells #[.int .i64 8, .bool false, .slice (some ⟨g1, 0, none⟩) 2 cap1, .map (some (w.heap.size + 1 + 1))] 199) := by rw [hG1]; exact heap_set cE1 2 _
 have oG1 := own_block oE1 (qG1.block _ (by omega) (by omega))
 obtain ⟨ccG1, cfG1⟩ := cells_of cG1
 obtain ⟨H1, hH1⟩ : ∃ W, W = setBlock G1 (w.heap.size + 1 + 1) (.map (#[⟨.string ⟨#[102]⟩, .agg #[.bool true, .int .i64 0, .bool false, .int .i64 0], 0⟩].push ⟨.string ⟨#[103]⟩, .agg #[.bool true, .int .i64 1, .bool false, .int .i64 0], 1⟩) (1 + 1)) := ⟨_, rfl⟩
 have qH1 : Kp (· = w.heap.size + 1 + 1) G1 H1 := by rw [hH1]; exact Kp.setB _ _ _ rfl
 have zH1 := qH1.size
 have rH1 : H1.heap[w.heap.size + 1]? = _ := (qH1.block _ (by omega) (by omega)).trans rG1
 have mH1 : H1.heap[w.heap.size + 1 + 1]? = some (.map #[⟨.string ⟨#[102]⟩, .agg #[.bool true, .int .i64 0, .bool false, .int .i64 0], 0⟩, ⟨.string ⟨#[103]⟩, .agg #[.bool true, .int .i64 1, .bool false, .int .i64 0], 1⟩] 2) := by rw [hH1]; exact setBlock_same _ _ _ (by omega)
 have kH1 : H1.heap[KS]? = some (.cells #[.int .i64 8, .string ⟨#[102]⟩, .int .i64 0, .int .i64 0, .slice none 0 0, .int .i64 8, .string ⟨#[103]⟩, .int .i64 0, .int .i64 0, .slice none 0 0] 98) := (qH1.block _ (by omega) (by omega)).trans kG1
 have cH1 : H1.heap[w.heap.size + 1 + 1 + 1]? = _ := (qH1.block (w.heap.size + 1 + 1 + 1) (by omega) (by omega)).trans cG1
 have oH1 := own_block oG1 (qH1.block _ (by omega) (by omega))
 obtain ⟨ccH1, cfH1⟩ := cells_of cH1
 obtain ⟨rcH1, rfH1⟩ := cells_of rH1
 have kcH1 := (cells_of kH1).1
 have hKz1 : KS < H1.heap.size := by omega
 have hsz1 : w.heap.size + 1 + 1 + 1 < H1.heap.size := by omega
 go_wp2_with (first | (rw [← hG1]; refine wpList_upd _ rfl 197 _ _ _ (Or.inl rfl) 9 196 Tryz.underlying197 Tryz.underlying9 (w.heap.size + 1 + 1) #[⟨.string ⟨#[102]⟩, .agg #[.bool true, .int .i64 0, .bool false, .int .i64 0], 0⟩] 1 ⟨#[103]⟩ (.agg #[.bool true, .int .i64 1, .bool false, .int .i64 0]) rfl rfl rfl mG1 rfl ?_; rw [← hH1]; clear hH1 hG1))
 rw [rounds_succ]
 go_wp2_with fail
 clear ccE1 cfE1 ccG1 cfG1 kcH1
 obtain ⟨Z, hZ⟩ : ∃ W, W = (((H1.setCell ⟨w.heap.size + 1, 0, none⟩ (.int .i64 8)).setCell ⟨w.heap.size + 1, 1, none⟩ (.bool false)).setCell ⟨w.heap.size + 1, 2, none⟩ (.slice (some ⟨g1, 0, none⟩) 2 cap1)).setCell ⟨w.heap.size + 1, 3, none⟩ (.map (some (w.heap.size + 1 + 1))) := ⟨_, rfl⟩
 rw [← hZ]
 have rZ : Z.heap[w.heap.size + 1]? = some (.cells #[.int .i64 8, .bool false, .slice (some ⟨g1, 0, none⟩) 2 cap1, .map (some (w.heap.size + 1 + 1))] 199) := by rw [hZ]; exact heap_set (heap_set (heap_set (heap_set rH1 0 _) 1 _) 2 _) 3 _
 have qZ : Kp (· = w.heap.size + 1) H1 Z := by
  rw [hZ]
  exact kp_set4 _ _ _ _ _ _
 clear hZ
 have zZ := qZ.size
 obtain ⟨rcZ, rfZ⟩ := cells_of rZ
 have oZ := own_block oH1 (qZ.block _ (by omega) (by omega))
 obtain ⟨_, _, he, _, _, _, hrow⟩ := row_of oZ (by simp)
 cases he
 refine bodyPost_ret (v := shS g1 cap1 (w.heap.size + 1 + 1)) (by simp [results, Tryz.results106, go_sem, rcZ]) rfl ⟨g1, cap1, w.heap.size + 1 + 1, rfl, hcap1, ?_, ?_⟩
 ·exact ⟨by omega, by omega, by omega, by omega, by omega, (hrow 0 _ rfl).1, (hrow 1 _ rfl).1, (hrow 1 _ rfl).2, (hrow 2 _ rfl).1, (hrow 3 _ rfl).1, (hrow 3 _ rfl).2, (qZ.block _ (by omega) (by omega)).trans mH1⟩
 ·have h7 : Kp (fun i => w.heap.size ≤ i) w Z := (((((((((((((Kp.of bB0 : Kp (fun i => w.heap.size ≤ i) w B0).trans (Kp.of (S := fun _ => False) bC0) (fun _ _ h => h.elim)).trans (Kp.of (S := fun _ => False) bD0) (fun _ _ h => h.elim)).trans (qE0) (fun i _ h => by exact h.elim)).trans (qG0) (fun i _ h => by omega)).trans (qH0) (fun i _ h => by omega)).trans (Kp.of (S := fun _ => False) bB1) (fun _ _ h => h.elim)).trans (Kp.of (S := fun _ => False) bC1) (fun _ _ h => h.elim)).trans (Kp.of (S := fun _ => False) bD1) (fun _ _ h => h.elim)).trans (qE1) (fun i _ h => by omega)).trans (qG1) (fun i _ h => by omega)).trans (qH1) (fun i _ h => by omega)).trans (qZ) (fun i _ h => by omega))
  exact h7.below (Nat.le_refl _) fun i hi h => by omega
end Go.Proofs.YtdbijkgnddcneaaGreatDoor.Lx
