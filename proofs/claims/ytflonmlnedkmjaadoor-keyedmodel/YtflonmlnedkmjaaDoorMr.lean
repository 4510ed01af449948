/-
  take: an entry is taken out.
-/
import Derived.Test.YtflonmlnedkmjaaDoorMq
import Derived.Deep.LoopGhost
namespace Go.Proofs.YtflonmlnedkmjaaDoor
open Go.RowKit
variable {n : Nat} {w w' : World} {m : Nat} {A B : List Ent} {e : Ent} {G : KG}
attribute [local go_sem] neq_same neq_other
theorem ownTaken {i : Nat} {xo : Option Nat} {b : Nat} (hb : KM.own m (A ++ B) (G.taken e.b i xo) b) : KM.own m (A ++ e :: B) G b := by
  rcases hb with hb | hb | hb | hb
  · exact .inl hb
  · exact .inr (.inl hb)
  · exact .inr (.inr (.inl hb))
  · refine .inr (.inr (.inr ?_))
    rw [List.map_append] at hb
    rw [List.map_append, List.map_cons]
    rcases List.mem_append.1 hb with q | q
    · exact List.mem_append.2 (.inl q)
    · exact List.mem_append.2 (.inr (List.mem_cons_of_mem _ q))
/-- The blocks that the map writes are those of before, but for the entry that was taken out. -/
def OwnT (m : Nat) (A B : List Ent) (e : Ent) (G' G : KG) : Prop := (∀ b, KM.own m (A ++ B) G' b → KM.own m (A ++ e :: B) G b) ∧ ∀ b, KM.own m (A ++ e :: B) G b → KM.own m (A ++ B) G' b ∨ b = e.b
theorem ownT {i : Nat} {xo : Option Nat} : OwnT m A B e (G.taken e.b i xo) G := by
  refine ⟨fun b hb => ownTaken hb, fun b hb => ?_⟩
  rcases hb with hb | hb | hb | hb
  · exact .inl (.inl hb)
  · exact .inl (.inr (.inl hb))
  · exact .inl (.inr (.inr (.inl hb)))
  · rw [List.map_append, List.map_cons, List.mem_append, List.mem_cons] at hb
    rcases hb with q | q | q
    · exact .inl (.inr (.inr (.inr (by rw [List.map_append]; exact List.mem_append.2 (.inl q)))))
    · exact .inr q
    · exact .inl (.inr (.inr (.inr (by rw [List.map_append]; exact List.mem_append.2 (.inr q)))))
/-- What take leaves. -/
def TakeP (n : Nat) (w : World) (m : Nat) (A B : List Ent) (e : Ent) (G : KG) (r : Ending) (w' : World) : Prop :=
  r = .returned (.tuple #[]) ∧ ∃ G', KM n w' m (A ++ B) G' ∧ OwnT m A B e G' G ∧ KeepS (KM.own m (A ++ e :: B) G) w w' ∧ ∃ nx bf bh, EntAt w' e.b (.pointer (some ⟨e.kb, 0, none⟩)) (.pointer (some ⟨e.vb, 0, none⟩)) e.h nx bf bh true
set_option maxRecDepth 100000 in
set_option maxHeartbeats 4000000 in
theorem take_any (h : KM n w m (A ++ e :: B) G) : Calls Tryd.prog 23 #[.pointer (some ⟨m, 0, none⟩), .pointer (some ⟨e.b, 0, none⟩)] w (TakeP n w m A B e G) := by
  have he : e ∈ A ++ e :: B := by simp
  have hee := h.ent e he
  have hL := h.L1
  have hk := (h.key e he).2.2.2.1
  have z0 : 0 ≤ e.h % ((8 * G.L : Nat) : Int) := Int.emod_nonneg _ (by omega)
  have z1 : e.h % ((8 * G.L : Nat) : Int) < ((8 * G.L : Nat) : Int) := Int.emod_lt_of_pos _ (by omega)
  obtain ⟨i, hi⟩ : ∃ i : Nat, e.h % ((8 * G.L : Nat) : Int) = i := ⟨(e.h % ((8 * G.L : Nat) : Int)).toNat, by omega⟩
  have hiL : i < 8 * G.L := by omega
  have HH : Hid (Calls Tryd.prog 36 #[.pointer (some ⟨m, 0, none⟩), .int .u64 e.h] w fun r w' => r = .returned (.pointer (some ⟨G.hb, i, none⟩)) ∧ w' = w) := by
    have := head_any w m G.hb G.L G.cap e.h hk.1 hk.2 h.L1 h.Lm (h.cell 0)
    rw [hi] at this
    exact this
  have hce := hee.cell
  have ze := row_ltT hee
  have zm := row_ltT h.map
  obtain ⟨a1, a2, a3⟩ := h.chain i hiL
  have HC : Hid (e.b ∈ G.ch i) := (a3 e.b).2 ⟨e, he, rfl, hi⟩
  have HE : Hid (∀ b ∈ G.ch i, ∃ x ∈ A ++ e :: B, x.b = b ∧ w.cell? ⟨b, 3, none⟩ = some (pv (G.nx b)) ∧ b < w.heap.size ∧ IsC w b) := fun b hb => by
    obtain ⟨x, x1, rfl, _⟩ := (a3 b).1 hb
    exact ⟨x, x1, rfl, (h.ent x x1).cell 3, row_ltT (h.ent x x1), _, _, h.ent x x1⟩
  have HA1 : Hid (Lk G.nx (G.hd i) (G.ch i)) := a1
  have ice : IsC w e.b := ⟨_, _, hee⟩
  have hc0 := h.head i hiL
  have hz0 : G.hb < w.heap.size := by
    obtain ⟨cur, c1, _⟩ := h.heads
    exact row_ltT c1
  have H : Hid (KM n w m (A ++ e :: B) G) := h
  have HI : Hid (i < 8 * G.L ∧ e.h % ((8 * G.L : Nat) : Int) = (i : Int)) := ⟨hiL, hi⟩
  clear h hee he a1 a2 a3 z0 z1 hi hiL
  go_enter Tryd.func23, Tryd.ntmps23
  go_wp2_with (go_at_call 36; refine HH.out.mono ?_; rintro r w1 ⟨rfl, rfl⟩)
  have hmn := H.out.nearb
  obtain ⟨pn, hpn⟩ : ∃ pn, pv (G.nx e.b) = .pointer pn := ⟨_, rfl⟩
  rw [hpn] at hce
  have HPN : Hid (pv (G.nx e.b) = .pointer pn) := hpn
  clear hpn
  have HMX : Hid (m ≠ G.bf e.b ∧ m ≠ G.bh e.b ∧ m ≠ e.b) := by
    obtain ⟨_, _, _, _, _, _, q1⟩ := H.out.tagE hmn.1
    obtain ⟨_, _, _, _, _, _, q2⟩ := H.out.tagE hmn.2.1
    exact ⟨tag_ne H.out.map q1 (by decide), tag_ne H.out.map q2 (by decide), tag_ne H.out.map (H.out.ent e (by simp)) (by decide)⟩
  go_loopg [4] (G.ch i).length (fun gk q wr => ∃ (xo : Option Nat) (l1 l2 : List Nat) (c : Option Nat), wr = w1 ∧ q = .pointer (some (atOf G i xo)) ∧ Hid (G.ch i = l1 ++ l2 ∧ e.b ∈ l2 ∧ ((xo = none ∧ l1 = []) ∨ ∃ l0 x, xo = some x ∧ l1 = l0 ++ [x]) ∧ Lk G.nx c l2 ∧ gk = l2.length) ∧ w1.cell? (atOf G i xo) = some (pv c) ∧ (atOf G i xo).block < w1.heap.size)
  case atStart => exact ⟨none, [], G.ch i, G.hd i, rfl, rfl, ⟨rfl, HC.out, .inl ⟨rfl, rfl⟩, HA1.out, rfl⟩, hc0, hz0⟩
  case round =>
    obtain ⟨xo, l1, l2, c, rfl, rfl, HR, hca, hza⟩ := hrel
    clear hc0 hz0
    cases l2 with
    | nil => exact absurd HR.out.2.1 (by simp)
    | cons b r =>
      obtain rfl : c = some b := HR.out.2.2.2.1.1
      obtain ⟨x, x1, x2, hnb, hzb, icb⟩ := HE.out b (by rw [HR.out.1]; simp)
      simp only [pv_some] at hca
      by_cases hbe : b = e.b
      · subst hbe
        have HG : Hid (Hangs G e.b i xo l1 r) := ⟨HR.out.1, HR.out.2.2.1⟩
        have HT : Hid _ := H.out.take HI.out.1 HI.out.2 HG.out
        clear HR hnb hzb icb x1 x2
        cases xo with
        | none =>
          simp only [atOf] at hca hza
          simp only [atOf]
          have hfa : wr.frozen? ⟨G.hb, i, none⟩ = false := by
            obtain ⟨cur, c1, _⟩ := H.out.heads
            exact fz _ _ _ _ i c1
          have hea : e.b ≠ G.hb := by
            obtain ⟨cur, c1, _⟩ := H.out.heads
            exact (H.out.ent e (by simp)).ne c1 (by decide)
          have hx5 : ∃ u, (wr.setCell ⟨G.hb, i, none⟩ (.pointer pn)).cell? ⟨G.bf e.b, 5, none⟩ = some u := by
            obtain ⟨cur, c1, _⟩ := H.out.heads
            obtain ⟨_, _, _, _, _, _, q⟩ := H.out.tagE hmn.1
            exact ⟨_, (World.cell?_of_block (a := ⟨G.bf e.b, 5, none⟩) (heap_setCell_other _ _ _ _ _ (q.ne c1 (by decide)))).trans (q.cell 5)⟩
          have hy4 : ∃ u, (wr.setCell ⟨G.hb, i, none⟩ (.pointer pn)).cell? ⟨G.bh e.b, 4, none⟩ = some u := by
            obtain ⟨cur, c1, _⟩ := H.out.heads
            obtain ⟨_, _, _, _, _, _, q⟩ := H.out.tagE hmn.2.1
            exact ⟨_, (World.cell?_of_block (a := ⟨G.bh e.b, 4, none⟩) (heap_setCell_other _ _ _ _ _ (q.ne c1 (by decide)))).trans (q.cell 4)⟩
          obtain ⟨ux, hx5⟩ := hx5
          obtain ⟨uy, hy4⟩ := hy4
          obtain ⟨V1, hV1⟩ : ∃ V1, V1 = wr.setCell ⟨G.hb, i, none⟩ (.pointer pn) := ⟨_, rfl⟩
          have hVe : V1.heap[e.b]? = wr.heap[e.b]? := by rw [hV1]; exact heap_setCell_other _ _ _ _ _ hea
          have hVm : V1.heap[m]? = wr.heap[m]? := by rw [hV1]; exact heap_setCell_other _ _ _ _ _ (by
            obtain ⟨cur, c1, _⟩ := H.out.heads
            exact tag_ne H.out.map c1 (by decide))
          have hfx : V1.frozen? ⟨G.bf e.b, 5, none⟩ = false := by
            rw [hV1, World.frozen?_setCell]
            obtain ⟨_, _, _, _, _, _, q⟩ := H.out.tagE hmn.1
            exact fz _ _ _ _ 5 q
          have hfy : V1.frozen? ⟨G.bh e.b, 4, none⟩ = false := by
            rw [hV1, World.frozen?_setCell]
            obtain ⟨_, _, _, _, _, _, q⟩ := H.out.tagE hmn.2.1
            exact fz _ _ _ _ 4 q
          have zx1 : G.bf e.b < V1.heap.size := by
            obtain ⟨_, _, _, _, _, _, q⟩ := H.out.tagE hmn.1
            rw [hV1]; simpa using row_ltT q
          have zy1 : G.bh e.b < V1.heap.size := by
            obtain ⟨_, _, _, _, _, _, q⟩ := H.out.tagE hmn.2.1
            rw [hV1]; simpa using row_ltT q
          rw [← hV1] at hx5 hy4
          go_wp2_with fail
          rw [← hV1]
          have HV1 : Hid (V1 = wr.setCell ⟨G.hb, i, none⟩ (.pointer pn)) := hV1
          clear hV1 hca hza hfa
          have ce : ∀ j, V1.cell? ⟨e.b, j, none⟩ = _ := fun j => (World.cell?_of_block (a := ⟨e.b, j, none⟩) hVe).trans (hce j)
          have ze1 : e.b < V1.heap.size := by rw [HV1.out]; simpa using ze
          refine wp_region_noPanic ?_
          refine wp_region_held (S := fun W => W.cell? ⟨e.b, 4, none⟩ = some (.pointer (some ⟨G.bf e.b, 0, none⟩)) ∧ W.cell? ⟨e.b, 5, none⟩ = some (.pointer (some ⟨G.bh e.b, 0, none⟩))) (by kernel_rfl) ?_
          obtain ⟨V3, hV3⟩ : ∃ W4, W4 = (V1).drew := ⟨_, rfl⟩
          have e4 : ({ V1 with drawn := (V1).drawn + 1 } : World) = V3 := hV3.symm
          rw [e4]
          have hB4 : Below (V1).heap.size (V1) V3 := by rw [hV3]; exact (Below.refl _ _).drew
          have hS : V3.cell? ⟨e.b, 4, none⟩ = some (.pointer (some ⟨G.bf e.b, 0, none⟩)) ∧ V3.cell? ⟨e.b, 5, none⟩ = some (.pointer (some ⟨G.bh e.b, 0, none⟩)) := ⟨(hB4.cell (p := ⟨e.b, 4, none⟩) ze1).trans (ce 4), (hB4.cell (p := ⟨e.b, 5, none⟩) ze1).trans (ce 5)⟩
          have HV3 : Hid (V3 = (V1).drew) := hV3
          clear e4 hV3
          refine wpAnyH_take (i := 0) (v := .pointer (some ⟨e.b, 0, none⟩)) rfl (by kernel_rfl) (by kernel_rfl) (by kernel_rfl) (fun _ _ _ h => h) (Or.inl ⟨by rfl, ?r⟩) hS ?_
          case r => intro W hW; simp [go_sem, execOp, Act.eval]
          simp only [List.getElem_toArray, List.getElem_cons_zero, Act.put, List.setIfInBounds_toArray, List.set_cons_succ, List.set_cons_zero]
          refine wpAnyH_take (i := 1) (v := .pointer (some ⟨e.b, 0, none⟩)) rfl (by kernel_rfl) (by kernel_rfl) (by kernel_rfl) (fun _ _ _ h => h) (Or.inl ⟨by rfl, ?r⟩) hS ?_
          case r => intro W hW; simp [go_sem, execOp, Act.eval]
          simp only [List.getElem_toArray, List.getElem_cons_zero, List.getElem_cons_succ, Act.put, List.setIfInBounds_toArray, List.set_cons_succ, List.set_cons_zero]
          refine wpAnyH_take (i := 2) (v := .pointer (some ⟨e.b, 4, none⟩)) rfl (by kernel_rfl) (by kernel_rfl) (by kernel_rfl) (fun _ _ _ h => h) (Or.inl ⟨by rfl, ?r⟩) hS ?_
          case r => intro W hW; simp [go_sem, execOp, Act.eval]
          simp only [List.getElem_toArray, List.getElem_cons_zero, List.getElem_cons_succ, Act.put, List.setIfInBounds_toArray, List.set_cons_succ, List.set_cons_zero]
          refine wpAnyH_take (i := 3) (v := .pointer (some ⟨G.bf e.b, 0, none⟩)) rfl (by kernel_rfl) (by kernel_rfl) (by kernel_rfl) (fun _ _ _ h => h) (Or.inl ⟨by rfl, ?r⟩) hS ?_
          case r => intro W hW; simp [go_sem, execOp, Act.eval, hW.1]
          simp only [List.getElem_toArray, List.getElem_cons_zero, List.getElem_cons_succ, Act.put, List.setIfInBounds_toArray, List.set_cons_succ, List.set_cons_zero]
          refine wpAnyH_take (i := 4) (v := .pointer (some ⟨e.b, 0, none⟩)) rfl (by kernel_rfl) (by kernel_rfl) (by kernel_rfl) (fun _ _ _ h => h) (Or.inl ⟨by rfl, ?r⟩) hS ?_
          case r => intro W hW; simp [go_sem, execOp, Act.eval]
          simp only [List.getElem_toArray, List.getElem_cons_zero, List.getElem_cons_succ, Act.put, List.setIfInBounds_toArray, List.set_cons_succ, List.set_cons_zero]
          refine wpAnyH_take (i := 5) (v := .pointer (some ⟨e.b, 0, none⟩)) rfl (by kernel_rfl) (by kernel_rfl) (by kernel_rfl) (fun _ _ _ h => h) (Or.inl ⟨by rfl, ?r⟩) hS ?_
          case r => intro W hW; simp [go_sem, execOp, Act.eval]
          simp only [List.getElem_toArray, List.getElem_cons_zero, List.getElem_cons_succ, Act.put, List.setIfInBounds_toArray, List.set_cons_succ, List.set_cons_zero]
          refine wpAnyH_take (i := 6) (v := .pointer (some ⟨e.b, 5, none⟩)) rfl (by kernel_rfl) (by kernel_rfl) (by kernel_rfl) (fun _ _ _ h => h) (Or.inl ⟨by rfl, ?r⟩) hS ?_
          case r => intro W hW; simp [go_sem, execOp, Act.eval]
          simp only [List.getElem_toArray, List.getElem_cons_zero, List.getElem_cons_succ, Act.put, List.setIfInBounds_toArray, List.set_cons_succ, List.set_cons_zero]
          refine wpAnyH_take (i := 7) (v := .pointer (some ⟨G.bh e.b, 0, none⟩)) rfl (by kernel_rfl) (by kernel_rfl) (by kernel_rfl) (fun _ _ _ h => h) (Or.inl ⟨by rfl, ?r⟩) hS ?_
          case r => intro W hW; simp [go_sem, execOp, Act.eval, hW.2]
          simp only [List.getElem_toArray, List.getElem_cons_zero, List.getElem_cons_succ, Act.put, List.setIfInBounds_toArray, List.set_cons_succ, List.set_cons_zero]
          refine wpAnyH_take (i := 8) (v := .pointer (some ⟨e.b, 0, none⟩)) rfl (by kernel_rfl) (by kernel_rfl) (by kernel_rfl) (fun _ _ _ h => h) (Or.inl ⟨by rfl, ?r⟩) hS ?_
          case r => intro W hW; simp [go_sem, execOp, Act.eval]
          simp only [List.getElem_toArray, List.getElem_cons_zero, List.getElem_cons_succ, Act.put, List.setIfInBounds_toArray, List.set_cons_succ, List.set_cons_zero]
          refine wpAnyH_take (i := 9) (v := .pointer (some ⟨e.b, 0, none⟩)) rfl (by kernel_rfl) (by kernel_rfl) (by kernel_rfl) (fun _ _ _ h => h) (Or.inl ⟨by rfl, ?r⟩) hS ?_
          case r => intro W hW; simp [go_sem, execOp, Act.eval]
          simp only [List.getElem_toArray, List.getElem_cons_zero, List.getElem_cons_succ, Act.put, List.setIfInBounds_toArray, List.set_cons_succ, List.set_cons_zero]
          refine wpAnyH_take (i := 10) (v := .pointer (some ⟨e.b, 5, none⟩)) rfl (by kernel_rfl) (by kernel_rfl) (by kernel_rfl) (fun _ _ _ h => h) (Or.inl ⟨by rfl, ?r⟩) hS ?_
          case r => intro W hW; simp [go_sem, execOp, Act.eval]
          simp only [List.getElem_toArray, List.getElem_cons_zero, List.getElem_cons_succ, Act.put, List.setIfInBounds_toArray, List.set_cons_succ, List.set_cons_zero]
          refine wpAnyH_take (i := 11) (v := .pointer (some ⟨G.bh e.b, 0, none⟩)) rfl (by kernel_rfl) (by kernel_rfl) (by kernel_rfl) (fun _ _ _ h => h) (Or.inl ⟨by rfl, ?r⟩) hS ?_
          case r => intro W hW; simp [go_sem, execOp, Act.eval, hW.2]
          simp only [List.getElem_toArray, List.getElem_cons_zero, List.getElem_cons_succ, Act.put, List.setIfInBounds_toArray, List.set_cons_succ, List.set_cons_zero]
          refine wpAnyH_take (i := 12) (v := .pointer (some ⟨e.b, 0, none⟩)) rfl (by kernel_rfl) (by kernel_rfl) (by kernel_rfl) (fun _ _ _ h => h) (Or.inl ⟨by rfl, ?r⟩) hS ?_
          case r => intro W hW; simp [go_sem, execOp, Act.eval]
          simp only [List.getElem_toArray, List.getElem_cons_zero, List.getElem_cons_succ, Act.put, List.setIfInBounds_toArray, List.set_cons_succ, List.set_cons_zero]
          refine wpAnyH_take (i := 13) (v := .pointer (some ⟨e.b, 0, none⟩)) rfl (by kernel_rfl) (by kernel_rfl) (by kernel_rfl) (fun _ _ _ h => h) (Or.inl ⟨by rfl, ?r⟩) hS ?_
          case r => intro W hW; simp [go_sem, execOp, Act.eval]
          simp only [List.getElem_toArray, List.getElem_cons_zero, List.getElem_cons_succ, Act.put, List.setIfInBounds_toArray, List.set_cons_succ, List.set_cons_zero]
          refine wpAnyH_take (i := 14) (v := .pointer (some ⟨e.b, 4, none⟩)) rfl (by kernel_rfl) (by kernel_rfl) (by kernel_rfl) (fun _ _ _ h => h) (Or.inl ⟨by rfl, ?r⟩) hS ?_
          case r => intro W hW; simp [go_sem, execOp, Act.eval]
          simp only [List.getElem_toArray, List.getElem_cons_zero, List.getElem_cons_succ, Act.put, List.setIfInBounds_toArray, List.set_cons_succ, List.set_cons_zero]
          refine wpAnyH_take (i := 15) (v := .pointer (some ⟨G.bf e.b, 0, none⟩)) rfl (by kernel_rfl) (by kernel_rfl) (by kernel_rfl) (fun _ _ _ h => h) (Or.inl ⟨by rfl, ?r⟩) hS ?_
          case r => intro W hW; simp [go_sem, execOp, Act.eval, hW.1]
          simp only [List.getElem_toArray, List.getElem_cons_zero, List.getElem_cons_succ, Act.put, List.setIfInBounds_toArray, List.set_cons_succ, List.set_cons_zero]
          refine wpAnyH_take (i := 16) (v := .pointer (some ⟨G.bf e.b, 0, none⟩)) rfl (by kernel_rfl) (by kernel_rfl) (by kernel_rfl) (fun _ _ _ h => h) (Or.inl ⟨by rfl, ?r⟩) hS ?_
          case r => intro W hW; simp [go_sem, execOp, Act.eval]
          simp only [List.getElem_toArray, List.getElem_cons_zero, List.getElem_cons_succ, Act.put, List.setIfInBounds_toArray, List.set_cons_succ, List.set_cons_zero]
          refine wpAnyH_take (i := 17) (v := .pointer (some ⟨G.bf e.b, 5, none⟩)) rfl (by kernel_rfl) (by kernel_rfl) (by kernel_rfl) (fun _ _ _ h => h) (Or.inl ⟨by rfl, ?r⟩) hS ?_
          case r => intro W hW; simp [go_sem, execOp, Act.eval]
          simp only [List.getElem_toArray, List.getElem_cons_zero, List.getElem_cons_succ, Act.put, List.setIfInBounds_toArray, List.set_cons_succ, List.set_cons_zero]
          refine wpAnyH_all (rs := [18]) (by kernel_rfl) (by simp) (fun i2 hi2 => ?_)
          obtain rfl : i2 = 18 := by simpa using hi2
          clear hi2
          refine wpOp_step rfl (fun K hK => ite_yes rfl ?_)
          simp only [List.getElem_toArray, List.getElem_cons_zero, List.getElem_cons_succ]
          have y5 : V3.cell? ⟨G.bf e.b, 5, none⟩ = some ux := (hB4.cell (p := ⟨G.bf e.b, 5, none⟩) zx1).trans hx5
          have y5f : V3.frozen? ⟨G.bf e.b, 5, none⟩ = false := by rw [HV3.out]; exact hfx
          have s4 : V3.cell? ⟨G.bh e.b, 4, none⟩ = some uy := (hB4.cell (p := ⟨G.bh e.b, 4, none⟩) zy1).trans hy4
          have s4f : V3.frozen? ⟨G.bh e.b, 4, none⟩ = false := by rw [HV3.out]; exact hfy
          have zx3 : G.bf e.b < V3.heap.size := by rw [HV3.out]; exact zx1
          have zy3 : G.bh e.b < V3.heap.size := by rw [HV3.out]; exact zy1
          go_simp
          have hS' : (V3.setCell ⟨G.bf e.b, 5, none⟩ (.pointer (some ⟨G.bh e.b, 0, none⟩))).cell? ⟨e.b, 4, none⟩ = some (.pointer (some ⟨G.bf e.b, 0, none⟩)) ∧ (V3.setCell ⟨G.bf e.b, 5, none⟩ (.pointer (some ⟨G.bh e.b, 0, none⟩))).cell? ⟨e.b, 5, none⟩ = some (.pointer (some ⟨G.bh e.b, 0, none⟩)) := ⟨(World.cell?_of_block (a := ⟨e.b, 4, none⟩) (heap_setCell_other _ _ _ _ _ hmn.2.2.1.symm)).trans hS.1, (World.cell?_of_block (a := ⟨e.b, 5, none⟩) (heap_setCell_other _ _ _ _ _ hmn.2.2.1.symm)).trans hS.2⟩
          refine hK _ _ ⟨hS', ?_⟩
          clear hK K hS
          have hS := hS'
          clear hS'
          try simp only [Act.put, List.setIfInBounds_toArray, List.set_cons_succ, List.set_cons_zero]
          refine wpAnyH_take (i := 19) (v := .pointer (some ⟨G.bh e.b, 0, none⟩)) rfl (by kernel_rfl) (by kernel_rfl) (by kernel_rfl) (fun _ _ _ h => h) (Or.inl ⟨by rfl, ?r⟩) hS ?_
          case r => intro W hW; simp [go_sem, execOp, Act.eval]
          simp only [List.getElem_toArray, List.getElem_cons_zero, List.getElem_cons_succ, Act.put, List.setIfInBounds_toArray, List.set_cons_succ, List.set_cons_zero]
          refine wpAnyH_take (i := 20) (v := .pointer (some ⟨G.bh e.b, 4, none⟩)) rfl (by kernel_rfl) (by kernel_rfl) (by kernel_rfl) (fun _ _ _ h => h) (Or.inl ⟨by rfl, ?r⟩) hS ?_
          case r => intro W hW; simp [go_sem, execOp, Act.eval]
          simp only [List.getElem_toArray, List.getElem_cons_zero, List.getElem_cons_succ, Act.put, List.setIfInBounds_toArray, List.set_cons_succ, List.set_cons_zero]
          refine wpAnyH_all (rs := [21]) (by kernel_rfl) (by simp) (fun i2 hi2 => ?_)
          obtain rfl : i2 = 21 := by simpa using hi2
          clear hi2
          refine wpOp_step rfl (fun K hK => ite_yes rfl ?_)
          simp only [List.getElem_toArray, List.getElem_cons_zero, List.getElem_cons_succ]
          go_simp
          have hS' : ((V3.setCell ⟨G.bf e.b, 5, none⟩ (.pointer (some ⟨G.bh e.b, 0, none⟩))).setCell ⟨G.bh e.b, 4, none⟩ (.pointer (some ⟨G.bf e.b, 0, none⟩))).cell? ⟨e.b, 4, none⟩ = some (.pointer (some ⟨G.bf e.b, 0, none⟩)) ∧ ((V3.setCell ⟨G.bf e.b, 5, none⟩ (.pointer (some ⟨G.bh e.b, 0, none⟩))).setCell ⟨G.bh e.b, 4, none⟩ (.pointer (some ⟨G.bf e.b, 0, none⟩))).cell? ⟨e.b, 5, none⟩ = some (.pointer (some ⟨G.bh e.b, 0, none⟩)) := ⟨(World.cell?_of_block (a := ⟨e.b, 4, none⟩) (heap_setCell_other _ _ _ _ _ hmn.2.2.2.symm)).trans hS.1, (World.cell?_of_block (a := ⟨e.b, 5, none⟩) (heap_setCell_other _ _ _ _ _ hmn.2.2.2.symm)).trans hS.2⟩
          refine hK _ _ ⟨hS', ?_⟩
          clear hK K hS
          refine wpAnyH_done (by kernel_rfl) ?_ _
          refine NoPanic.normal ?_
          try simp only [Act.put]
          clear hS' y5 y5f s4 s4f zx3 zy3 hB4 hx5 hy4 hfx hfy zx1 zy1
          obtain ⟨V4, hV4⟩ : ∃ V4, V4 = (V3.setCell ⟨G.bf e.b, 5, none⟩ (.pointer (some ⟨G.bh e.b, 0, none⟩))).setCell ⟨G.bh e.b, 4, none⟩ (.pointer (some ⟨G.bf e.b, 0, none⟩)) := ⟨_, rfl⟩
          have hV4o : ∀ k, k ≠ G.bf e.b → k ≠ G.bh e.b → V4.heap[k]? = V1.heap[k]? := fun k k1 k2 => by
            rw [hV4, HV3.out]
            exact (heap_setCell_other _ _ _ _ _ k2).trans (heap_setCell_other _ _ _ _ _ k1)
          have he4 : V4.heap[e.b]? = _ := ((hV4o e.b hmn.2.2.1.symm hmn.2.2.2.symm).trans hVe).trans (H.out.ent e (by simp))
          have hm4 : V4.heap[m]? = _ := ((hV4o m HMX.out.1 HMX.out.2.1).trans hVm).trans H.out.map
          have ce4 := fun j => row_at he4 j
          have fe4 := fun j => fz _ _ _ _ j he4
          have cm4 := fun j => row_at hm4 j
          have fm4 := fun j => fz _ _ _ _ j hm4
          have zm4 := row_ltT hm4
          have ze4 := row_ltT he4
          have hme : m ≠ e.b := HMX.out.2.2
          rw [← hV4]
          have HV4 : Hid (V4 = (V3.setCell ⟨G.bf e.b, 5, none⟩ (.pointer (some ⟨G.bh e.b, 0, none⟩))).setCell ⟨G.bh e.b, 4, none⟩ (.pointer (some ⟨G.bf e.b, 0, none⟩))) := hV4
          clear hV4 hV4o he4 hm4 hVe hVm ce ze1
          go_wp2_with fail
          refine bodyPost_end (v := .tuple #[]) (results_none rfl _ _ _) rfl ⟨rfl, G.taken e.b i none, ?_⟩
          have hb : Below (takenW wr m (A ++ e :: B) G e.b i none).heap.size (takenW wr m (A ++ e :: B) G e.b i none) (takenW wr m (A ++ e :: B) G e.b i none).drew := (Below.refl _ _).drew
          have e1 : (V4.setCell ⟨e.b, 6, none⟩ (.bool true)).setCell ⟨m, 2, none⟩ (.int .i64 (((A ++ e :: B).length : Int) - 1)) = (takenW wr m (A ++ e :: B) G e.b i none).drew := by
            rw [HV4.out, HV3.out, HV1.out, ← HPN.out]
            rfl
          have h1 := HT.out
          have hfin : KM n (takenW wr m (A ++ e :: B) G e.b i none).drew m (A ++ B) (G.taken e.b i none) ∧ OwnT m A B e (G.taken e.b i none) G ∧ KeepS (KM.own m (A ++ e :: B) G) wr (takenW wr m (A ++ e :: B) G e.b i none).drew ∧ ∃ nx bf bh, EntAt (takenW wr m (A ++ e :: B) G e.b i none).drew e.b (.pointer (some ⟨e.kb, 0, none⟩)) (.pointer (some ⟨e.vb, 0, none⟩)) e.h nx bf bh true := ⟨h1.1.keep hb, ownT, h1.2.1.below hb, _, _, _, h1.2.2⟩
          rw [← e1] at hfin
          have ew : wrap64 ((A.length : Int) + ((B.length : Int) + 1) - 1) = (((A ++ e :: B).length : Int) - 1) := by
            have q1 := H.out.fit
            have q2 := H.out.Lm
            have q3 : (A ++ e :: B).length = A.length + (B.length + 1) := by simp
            rw [q3] at q1 ⊢
            unfold wrap64
            omega
          rw [ew]
          exact hfin
        | some x0 =>
          have hxE : ∃ kp vp hh nx bf bh, EntAt wr x0 kp vp hh nx bf bh false := by
            obtain ⟨l0, x', q1, q2⟩ : ∃ l0 x, some x0 = some x ∧ l1 = l0 ++ [x] := by
              rcases HG.out.at_ with ⟨q, _⟩ | q
              · cases q
              · exact q
            cases q1
            obtain ⟨y, y1, y2, _⟩ := HE.out x0 (by rw [HG.out.eq, q2]; simp)
            rw [← y2]
            exact ⟨_, _, _, _, _, _, H.out.ent y y1⟩
          simp only [atOf] at hca hza
          simp only [atOf]
          have hfa : wr.frozen? ⟨x0, 3, none⟩ = false := by
            obtain ⟨_, _, _, _, _, _, q⟩ := hxE
            exact fz _ _ _ _ 3 q
          have hea : e.b ≠ x0 := by
            intro q
            obtain ⟨l0, x', q1, q2⟩ : ∃ l0 x, some x0 = some x ∧ l1 = l0 ++ [x] := by
              rcases HG.out.at_ with ⟨q, _⟩ | q
              · cases q
              · exact q
            cases q1
            have hnd := (H.out.chain i HI.out.1).2.1
            rw [HG.out.eq, q2, q, List.nodup_append] at hnd
            exact hnd.2.2 x0 (by simp) x0 (by simp) rfl
          have hx5 : ∃ u, (wr.setCell ⟨x0, 3, none⟩ (.pointer pn)).cell? ⟨G.bf e.b, 5, none⟩ = some u := by
            obtain ⟨_, _, _, _, _, _, q⟩ := H.out.tagE hmn.1
            exact ⟨_, (World.cell?_setCell_other _ _ _ _ (by simp)).trans (q.cell 5)⟩
          have hy4 : ∃ u, (wr.setCell ⟨x0, 3, none⟩ (.pointer pn)).cell? ⟨G.bh e.b, 4, none⟩ = some u := by
            obtain ⟨_, _, _, _, _, _, q⟩ := H.out.tagE hmn.2.1
            exact ⟨_, (World.cell?_setCell_other _ _ _ _ (by simp)).trans (q.cell 4)⟩
          obtain ⟨ux, hx5⟩ := hx5
          obtain ⟨uy, hy4⟩ := hy4
          obtain ⟨V1, hV1⟩ : ∃ V1, V1 = wr.setCell ⟨x0, 3, none⟩ (.pointer pn) := ⟨_, rfl⟩
          have hVe : V1.heap[e.b]? = wr.heap[e.b]? := by rw [hV1]; exact heap_setCell_other _ _ _ _ _ hea
          have hVm : V1.heap[m]? = wr.heap[m]? := by rw [hV1]; exact heap_setCell_other _ _ _ _ _ (by
            obtain ⟨_, _, _, _, _, _, q⟩ := hxE
            exact tag_ne H.out.map q (by decide))
          have hfx : V1.frozen? ⟨G.bf e.b, 5, none⟩ = false := by
            rw [hV1, World.frozen?_setCell]
            obtain ⟨_, _, _, _, _, _, q⟩ := H.out.tagE hmn.1
            exact fz _ _ _ _ 5 q
          have hfy : V1.frozen? ⟨G.bh e.b, 4, none⟩ = false := by
            rw [hV1, World.frozen?_setCell]
            obtain ⟨_, _, _, _, _, _, q⟩ := H.out.tagE hmn.2.1
            exact fz _ _ _ _ 4 q
          have zx1 : G.bf e.b < V1.heap.size := by
            obtain ⟨_, _, _, _, _, _, q⟩ := H.out.tagE hmn.1
            rw [hV1]; simpa using row_ltT q
          have zy1 : G.bh e.b < V1.heap.size := by
            obtain ⟨_, _, _, _, _, _, q⟩ := H.out.tagE hmn.2.1
            rw [hV1]; simpa using row_ltT q
          rw [← hV1] at hx5 hy4
          go_wp2_with fail
          rw [← hV1]
          have HV1 : Hid (V1 = wr.setCell ⟨x0, 3, none⟩ (.pointer pn)) := hV1
          clear hV1 hca hza hfa
          have ce : ∀ j, V1.cell? ⟨e.b, j, none⟩ = _ := fun j => (World.cell?_of_block (a := ⟨e.b, j, none⟩) hVe).trans (hce j)
          have ze1 : e.b < V1.heap.size := by rw [HV1.out]; simpa using ze
          refine wp_region_noPanic ?_
          refine wp_region_held (S := fun W => W.cell? ⟨e.b, 4, none⟩ = some (.pointer (some ⟨G.bf e.b, 0, none⟩)) ∧ W.cell? ⟨e.b, 5, none⟩ = some (.pointer (some ⟨G.bh e.b, 0, none⟩))) (by kernel_rfl) ?_
          obtain ⟨V3, hV3⟩ : ∃ W4, W4 = (V1).drew := ⟨_, rfl⟩
          have e4 : ({ V1 with drawn := (V1).drawn + 1 } : World) = V3 := hV3.symm
          rw [e4]
          have hB4 : Below (V1).heap.size (V1) V3 := by rw [hV3]; exact (Below.refl _ _).drew
          have hS : V3.cell? ⟨e.b, 4, none⟩ = some (.pointer (some ⟨G.bf e.b, 0, none⟩)) ∧ V3.cell? ⟨e.b, 5, none⟩ = some (.pointer (some ⟨G.bh e.b, 0, none⟩)) := ⟨(hB4.cell (p := ⟨e.b, 4, none⟩) ze1).trans (ce 4), (hB4.cell (p := ⟨e.b, 5, none⟩) ze1).trans (ce 5)⟩
          have HV3 : Hid (V3 = (V1).drew) := hV3
          clear e4 hV3
          refine wpAnyH_take (i := 0) (v := .pointer (some ⟨e.b, 0, none⟩)) rfl (by kernel_rfl) (by kernel_rfl) (by kernel_rfl) (fun _ _ _ h => h) (Or.inl ⟨by rfl, ?r⟩) hS ?_
          case r => intro W hW; simp [go_sem, execOp, Act.eval]
          simp only [List.getElem_toArray, List.getElem_cons_zero, Act.put, List.setIfInBounds_toArray, List.set_cons_succ, List.set_cons_zero]
          refine wpAnyH_take (i := 1) (v := .pointer (some ⟨e.b, 0, none⟩)) rfl (by kernel_rfl) (by kernel_rfl) (by kernel_rfl) (fun _ _ _ h => h) (Or.inl ⟨by rfl, ?r⟩) hS ?_
          case r => intro W hW; simp [go_sem, execOp, Act.eval]
          simp only [List.getElem_toArray, List.getElem_cons_zero, List.getElem_cons_succ, Act.put, List.setIfInBounds_toArray, List.set_cons_succ, List.set_cons_zero]
          refine wpAnyH_take (i := 2) (v := .pointer (some ⟨e.b, 4, none⟩)) rfl (by kernel_rfl) (by kernel_rfl) (by kernel_rfl) (fun _ _ _ h => h) (Or.inl ⟨by rfl, ?r⟩) hS ?_
          case r => intro W hW; simp [go_sem, execOp, Act.eval]
          simp only [List.getElem_toArray, List.getElem_cons_zero, List.getElem_cons_succ, Act.put, List.setIfInBounds_toArray, List.set_cons_succ, List.set_cons_zero]
          refine wpAnyH_take (i := 3) (v := .pointer (some ⟨G.bf e.b, 0, none⟩)) rfl (by kernel_rfl) (by kernel_rfl) (by kernel_rfl) (fun _ _ _ h => h) (Or.inl ⟨by rfl, ?r⟩) hS ?_
          case r => intro W hW; simp [go_sem, execOp, Act.eval, hW.1]
          simp only [List.getElem_toArray, List.getElem_cons_zero, List.getElem_cons_succ, Act.put, List.setIfInBounds_toArray, List.set_cons_succ, List.set_cons_zero]
          refine wpAnyH_take (i := 4) (v := .pointer (some ⟨e.b, 0, none⟩)) rfl (by kernel_rfl) (by kernel_rfl) (by kernel_rfl) (fun _ _ _ h => h) (Or.inl ⟨by rfl, ?r⟩) hS ?_
          case r => intro W hW; simp [go_sem, execOp, Act.eval]
          simp only [List.getElem_toArray, List.getElem_cons_zero, List.getElem_cons_succ, Act.put, List.setIfInBounds_toArray, List.set_cons_succ, List.set_cons_zero]
          refine wpAnyH_take (i := 5) (v := .pointer (some ⟨e.b, 0, none⟩)) rfl (by kernel_rfl) (by kernel_rfl) (by kernel_rfl) (fun _ _ _ h => h) (Or.inl ⟨by rfl, ?r⟩) hS ?_
          case r => intro W hW; simp [go_sem, execOp, Act.eval]
          simp only [List.getElem_toArray, List.getElem_cons_zero, List.getElem_cons_succ, Act.put, List.setIfInBounds_toArray, List.set_cons_succ, List.set_cons_zero]
          refine wpAnyH_take (i := 6) (v := .pointer (some ⟨e.b, 5, none⟩)) rfl (by kernel_rfl) (by kernel_rfl) (by kernel_rfl) (fun _ _ _ h => h) (Or.inl ⟨by rfl, ?r⟩) hS ?_
          case r => intro W hW; simp [go_sem, execOp, Act.eval]
          simp only [List.getElem_toArray, List.getElem_cons_zero, List.getElem_cons_succ, Act.put, List.setIfInBounds_toArray, List.set_cons_succ, List.set_cons_zero]
          refine wpAnyH_take (i := 7) (v := .pointer (some ⟨G.bh e.b, 0, none⟩)) rfl (by kernel_rfl) (by kernel_rfl) (by kernel_rfl) (fun _ _ _ h => h) (Or.inl ⟨by rfl, ?r⟩) hS ?_
          case r => intro W hW; simp [go_sem, execOp, Act.eval, hW.2]
          simp only [List.getElem_toArray, List.getElem_cons_zero, List.getElem_cons_succ, Act.put, List.setIfInBounds_toArray, List.set_cons_succ, List.set_cons_zero]
          refine wpAnyH_take (i := 8) (v := .pointer (some ⟨e.b, 0, none⟩)) rfl (by kernel_rfl) (by kernel_rfl) (by kernel_rfl) (fun _ _ _ h => h) (Or.inl ⟨by rfl, ?r⟩) hS ?_
          case r => intro W hW; simp [go_sem, execOp, Act.eval]
          simp only [List.getElem_toArray, List.getElem_cons_zero, List.getElem_cons_succ, Act.put, List.setIfInBounds_toArray, List.set_cons_succ, List.set_cons_zero]
          refine wpAnyH_take (i := 9) (v := .pointer (some ⟨e.b, 0, none⟩)) rfl (by kernel_rfl) (by kernel_rfl) (by kernel_rfl) (fun _ _ _ h => h) (Or.inl ⟨by rfl, ?r⟩) hS ?_
          case r => intro W hW; simp [go_sem, execOp, Act.eval]
          simp only [List.getElem_toArray, List.getElem_cons_zero, List.getElem_cons_succ, Act.put, List.setIfInBounds_toArray, List.set_cons_succ, List.set_cons_zero]
          refine wpAnyH_take (i := 10) (v := .pointer (some ⟨e.b, 5, none⟩)) rfl (by kernel_rfl) (by kernel_rfl) (by kernel_rfl) (fun _ _ _ h => h) (Or.inl ⟨by rfl, ?r⟩) hS ?_
          case r => intro W hW; simp [go_sem, execOp, Act.eval]
          simp only [List.getElem_toArray, List.getElem_cons_zero, List.getElem_cons_succ, Act.put, List.setIfInBounds_toArray, List.set_cons_succ, List.set_cons_zero]
          refine wpAnyH_take (i := 11) (v := .pointer (some ⟨G.bh e.b, 0, none⟩)) rfl (by kernel_rfl) (by kernel_rfl) (by kernel_rfl) (fun _ _ _ h => h) (Or.inl ⟨by rfl, ?r⟩) hS ?_
          case r => intro W hW; simp [go_sem, execOp, Act.eval, hW.2]
          simp only [List.getElem_toArray, List.getElem_cons_zero, List.getElem_cons_succ, Act.put, List.setIfInBounds_toArray, List.set_cons_succ, List.set_cons_zero]
          refine wpAnyH_take (i := 12) (v := .pointer (some ⟨e.b, 0, none⟩)) rfl (by kernel_rfl) (by kernel_rfl) (by kernel_rfl) (fun _ _ _ h => h) (Or.inl ⟨by rfl, ?r⟩) hS ?_
          case r => intro W hW; simp [go_sem, execOp, Act.eval]
          simp only [List.getElem_toArray, List.getElem_cons_zero, List.getElem_cons_succ, Act.put, List.setIfInBounds_toArray, List.set_cons_succ, List.set_cons_zero]
          refine wpAnyH_take (i := 13) (v := .pointer (some ⟨e.b, 0, none⟩)) rfl (by kernel_rfl) (by kernel_rfl) (by kernel_rfl) (fun _ _ _ h => h) (Or.inl ⟨by rfl, ?r⟩) hS ?_
          case r => intro W hW; simp [go_sem, execOp, Act.eval]
          simp only [List.getElem_toArray, List.getElem_cons_zero, List.getElem_cons_succ, Act.put, List.setIfInBounds_toArray, List.set_cons_succ, List.set_cons_zero]
          refine wpAnyH_take (i := 14) (v := .pointer (some ⟨e.b, 4, none⟩)) rfl (by kernel_rfl) (by kernel_rfl) (by kernel_rfl) (fun _ _ _ h => h) (Or.inl ⟨by rfl, ?r⟩) hS ?_
          case r => intro W hW; simp [go_sem, execOp, Act.eval]
          simp only [List.getElem_toArray, List.getElem_cons_zero, List.getElem_cons_succ, Act.put, List.setIfInBounds_toArray, List.set_cons_succ, List.set_cons_zero]
          refine wpAnyH_take (i := 15) (v := .pointer (some ⟨G.bf e.b, 0, none⟩)) rfl (by kernel_rfl) (by kernel_rfl) (by kernel_rfl) (fun _ _ _ h => h) (Or.inl ⟨by rfl, ?r⟩) hS ?_
          case r => intro W hW; simp [go_sem, execOp, Act.eval, hW.1]
          simp only [List.getElem_toArray, List.getElem_cons_zero, List.getElem_cons_succ, Act.put, List.setIfInBounds_toArray, List.set_cons_succ, List.set_cons_zero]
          refine wpAnyH_take (i := 16) (v := .pointer (some ⟨G.bf e.b, 0, none⟩)) rfl (by kernel_rfl) (by kernel_rfl) (by kernel_rfl) (fun _ _ _ h => h) (Or.inl ⟨by rfl, ?r⟩) hS ?_
          case r => intro W hW; simp [go_sem, execOp, Act.eval]
          simp only [List.getElem_toArray, List.getElem_cons_zero, List.getElem_cons_succ, Act.put, List.setIfInBounds_toArray, List.set_cons_succ, List.set_cons_zero]
          refine wpAnyH_take (i := 17) (v := .pointer (some ⟨G.bf e.b, 5, none⟩)) rfl (by kernel_rfl) (by kernel_rfl) (by kernel_rfl) (fun _ _ _ h => h) (Or.inl ⟨by rfl, ?r⟩) hS ?_
          case r => intro W hW; simp [go_sem, execOp, Act.eval]
          simp only [List.getElem_toArray, List.getElem_cons_zero, List.getElem_cons_succ, Act.put, List.setIfInBounds_toArray, List.set_cons_succ, List.set_cons_zero]
          refine wpAnyH_all (rs := [18]) (by kernel_rfl) (by simp) (fun i2 hi2 => ?_)
          obtain rfl : i2 = 18 := by simpa using hi2
          clear hi2
          refine wpOp_step rfl (fun K hK => ite_yes rfl ?_)
          simp only [List.getElem_toArray, List.getElem_cons_zero, List.getElem_cons_succ]
          have y5 : V3.cell? ⟨G.bf e.b, 5, none⟩ = some ux := (hB4.cell (p := ⟨G.bf e.b, 5, none⟩) zx1).trans hx5
          have y5f : V3.frozen? ⟨G.bf e.b, 5, none⟩ = false := by rw [HV3.out]; exact hfx
          have s4 : V3.cell? ⟨G.bh e.b, 4, none⟩ = some uy := (hB4.cell (p := ⟨G.bh e.b, 4, none⟩) zy1).trans hy4
          have s4f : V3.frozen? ⟨G.bh e.b, 4, none⟩ = false := by rw [HV3.out]; exact hfy
          have zx3 : G.bf e.b < V3.heap.size := by rw [HV3.out]; exact zx1
          have zy3 : G.bh e.b < V3.heap.size := by rw [HV3.out]; exact zy1
          go_simp
          have hS' : (V3.setCell ⟨G.bf e.b, 5, none⟩ (.pointer (some ⟨G.bh e.b, 0, none⟩))).cell? ⟨e.b, 4, none⟩ = some (.pointer (some ⟨G.bf e.b, 0, none⟩)) ∧ (V3.setCell ⟨G.bf e.b, 5, none⟩ (.pointer (some ⟨G.bh e.b, 0, none⟩))).cell? ⟨e.b, 5, none⟩ = some (.pointer (some ⟨G.bh e.b, 0, none⟩)) := ⟨(World.cell?_of_block (a := ⟨e.b, 4, none⟩) (heap_setCell_other _ _ _ _ _ hmn.2.2.1.symm)).trans hS.1, (World.cell?_of_block (a := ⟨e.b, 5, none⟩) (heap_setCell_other _ _ _ _ _ hmn.2.2.1.symm)).trans hS.2⟩
          refine hK _ _ ⟨hS', ?_⟩
          clear hK K hS
          have hS := hS'
          clear hS'
          try simp only [Act.put, List.setIfInBounds_toArray, List.set_cons_succ, List.set_cons_zero]
          refine wpAnyH_take (i := 19) (v := .pointer (some ⟨G.bh e.b, 0, none⟩)) rfl (by kernel_rfl) (by kernel_rfl) (by kernel_rfl) (fun _ _ _ h => h) (Or.inl ⟨by rfl, ?r⟩) hS ?_
          case r => intro W hW; simp [go_sem, execOp, Act.eval]
          simp only [List.getElem_toArray, List.getElem_cons_zero, List.getElem_cons_succ, Act.put, List.setIfInBounds_toArray, List.set_cons_succ, List.set_cons_zero]
          refine wpAnyH_take (i := 20) (v := .pointer (some ⟨G.bh e.b, 4, none⟩)) rfl (by kernel_rfl) (by kernel_rfl) (by kernel_rfl) (fun _ _ _ h => h) (Or.inl ⟨by rfl, ?r⟩) hS ?_
          case r => intro W hW; simp [go_sem, execOp, Act.eval]
          simp only [List.getElem_toArray, List.getElem_cons_zero, List.getElem_cons_succ, Act.put, List.setIfInBounds_toArray, List.set_cons_succ, List.set_cons_zero]
          refine wpAnyH_all (rs := [21]) (by kernel_rfl) (by simp) (fun i2 hi2 => ?_)
          obtain rfl : i2 = 21 := by simpa using hi2
          clear hi2
          refine wpOp_step rfl (fun K hK => ite_yes rfl ?_)
          simp only [List.getElem_toArray, List.getElem_cons_zero, List.getElem_cons_succ]
          go_simp
          have hS' : ((V3.setCell ⟨G.bf e.b, 5, none⟩ (.pointer (some ⟨G.bh e.b, 0, none⟩))).setCell ⟨G.bh e.b, 4, none⟩ (.pointer (some ⟨G.bf e.b, 0, none⟩))).cell? ⟨e.b, 4, none⟩ = some (.pointer (some ⟨G.bf e.b, 0, none⟩)) ∧ ((V3.setCell ⟨G.bf e.b, 5, none⟩ (.pointer (some ⟨G.bh e.b, 0, none⟩))).setCell ⟨G.bh e.b, 4, none⟩ (.pointer (some ⟨G.bf e.b, 0, none⟩))).cell? ⟨e.b, 5, none⟩ = some (.pointer (some ⟨G.bh e.b, 0, none⟩)) := ⟨(World.cell?_of_block (a := ⟨e.b, 4, none⟩) (heap_setCell_other _ _ _ _ _ hmn.2.2.2.symm)).trans hS.1, (World.cell?_of_block (a := ⟨e.b, 5, none⟩) (heap_setCell_other _ _ _ _ _ hmn.2.2.2.symm)).trans hS.2⟩
          refine hK _ _ ⟨hS', ?_⟩
          clear hK K hS
          refine wpAnyH_done (by kernel_rfl) ?_ _
          refine NoPanic.normal ?_
          try simp only [Act.put]
          clear hS' y5 y5f s4 s4f zx3 zy3 hB4 hx5 hy4 hfx hfy zx1 zy1
          obtain ⟨V4, hV4⟩ : ∃ V4, V4 = (V3.setCell ⟨G.bf e.b, 5, none⟩ (.pointer (some ⟨G.bh e.b, 0, none⟩))).setCell ⟨G.bh e.b, 4, none⟩ (.pointer (some ⟨G.bf e.b, 0, none⟩)) := ⟨_, rfl⟩
          have hV4o : ∀ k, k ≠ G.bf e.b → k ≠ G.bh e.b → V4.heap[k]? = V1.heap[k]? := fun k k1 k2 => by
            rw [hV4, HV3.out]
            exact (heap_setCell_other _ _ _ _ _ k2).trans (heap_setCell_other _ _ _ _ _ k1)
          have he4 : V4.heap[e.b]? = _ := ((hV4o e.b hmn.2.2.1.symm hmn.2.2.2.symm).trans hVe).trans (H.out.ent e (by simp))
          have hm4 : V4.heap[m]? = _ := ((hV4o m HMX.out.1 HMX.out.2.1).trans hVm).trans H.out.map
          have ce4 := fun j => row_at he4 j
          have fe4 := fun j => fz _ _ _ _ j he4
          have cm4 := fun j => row_at hm4 j
          have fm4 := fun j => fz _ _ _ _ j hm4
          have zm4 := row_ltT hm4
          have ze4 := row_ltT he4
          have hme : m ≠ e.b := HMX.out.2.2
          rw [← hV4]
          have HV4 : Hid (V4 = (V3.setCell ⟨G.bf e.b, 5, none⟩ (.pointer (some ⟨G.bh e.b, 0, none⟩))).setCell ⟨G.bh e.b, 4, none⟩ (.pointer (some ⟨G.bf e.b, 0, none⟩))) := hV4
          clear hV4 hV4o he4 hm4 hVe hVm ce ze1
          go_wp2_with fail
          refine bodyPost_end (v := .tuple #[]) (results_none rfl _ _ _) rfl ⟨rfl, G.taken e.b i (some x0), ?_⟩
          have hb : Below (takenW wr m (A ++ e :: B) G e.b i (some x0)).heap.size (takenW wr m (A ++ e :: B) G e.b i (some x0)) (takenW wr m (A ++ e :: B) G e.b i (some x0)).drew := (Below.refl _ _).drew
          have e1 : (V4.setCell ⟨e.b, 6, none⟩ (.bool true)).setCell ⟨m, 2, none⟩ (.int .i64 (((A ++ e :: B).length : Int) - 1)) = (takenW wr m (A ++ e :: B) G e.b i (some x0)).drew := by
            rw [HV4.out, HV3.out, HV1.out, ← HPN.out]
            rfl
          have h1 := HT.out
          have hfin : KM n (takenW wr m (A ++ e :: B) G e.b i (some x0)).drew m (A ++ B) (G.taken e.b i (some x0)) ∧ OwnT m A B e (G.taken e.b i (some x0)) G ∧ KeepS (KM.own m (A ++ e :: B) G) wr (takenW wr m (A ++ e :: B) G e.b i (some x0)).drew ∧ ∃ nx bf bh, EntAt (takenW wr m (A ++ e :: B) G e.b i (some x0)).drew e.b (.pointer (some ⟨e.kb, 0, none⟩)) (.pointer (some ⟨e.vb, 0, none⟩)) e.h nx bf bh true := ⟨h1.1.keep hb, ownT, h1.2.1.below hb, _, _, _, h1.2.2⟩
          rw [← e1] at hfin
          have ew : wrap64 ((A.length : Int) + ((B.length : Int) + 1) - 1) = (((A ++ e :: B).length : Int) - 1) := by
            have q1 := H.out.fit
            have q2 := H.out.Lm
            have q3 : (A ++ e :: B).length = A.length + (B.length + 1) := by simp
            rw [q3] at q1 ⊢
            unfold wrap64
            omega
          rw [ew]
          exact hfin
      · have HN : Hid (G.ch i = (l1 ++ [b]) ++ r ∧ e.b ∈ r ∧ ((some b = none ∧ l1 ++ [b] = []) ∨ ∃ l0 x, some b = some x ∧ l1 ++ [b] = l0 ++ [x]) ∧ Lk G.nx (G.nx b) r ∧ True) := by
          have h := HR.out
          refine ⟨by rw [h.1]; simp, ?_, .inr ⟨l1, b, rfl, rfl⟩, h.2.2.2.1.2, trivial⟩
          rcases List.mem_cons.1 h.2.1 with q | q
          · exact absurd q.symm hbe
          · exact q
        have HM : Hid (r.length < gk) := by have := HR.out.2.2.2.2; show _ < _; rw [this]; simp
        clear HR x1 x2
        cases xo with
        | none =>
          simp only [atOf] at hca hza ⊢
          go_wp2_with fail
          go_roundg r.length
          case measure => exact HM.out
          case rel => exact ⟨some b, l1 ++ [b], r, G.nx b, rfl, rfl, ⟨HN.out.1, HN.out.2.1, HN.out.2.2.1, HN.out.2.2.2.1, rfl⟩, hnb, hzb⟩
        | some x0 =>
          simp only [atOf] at hca hza ⊢
          go_wp2_with fail
          go_roundg r.length
          case measure => exact HM.out
          case rel => exact ⟨some b, l1 ++ [b], r, G.nx b, rfl, rfl, ⟨HN.out.1, HN.out.2.1, HN.out.2.2.1, HN.out.2.2.2.1, rfl⟩, hnb, hzb⟩
end Go.Proofs.YtflonmlnedkmjaaDoor
