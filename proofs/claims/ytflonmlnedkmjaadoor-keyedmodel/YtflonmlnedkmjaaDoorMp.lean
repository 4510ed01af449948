/-
  lay: an entry comes behind all others.
-/
import Derived.Test.YtflonmlnedkmjaaDoorMo
namespace Go.Proofs.YtflonmlnedkmjaaDoor
open Go.RowKit
variable {n : Nat} {w w' : World} {m : Nat} {es : List Ent} {G : KG} {S : Nat → Prop}
theorem KMp.count (h : KMp n w m es G S) (ct : Int) : KMp n (w.setCell ⟨m, 2, none⟩ (.int .i64 ct)) m es G S ∧ (w.setCell ⟨m, 2, none⟩ (.int .i64 ct)).heap[m]? = some (.cells #[.slice (some ⟨G.hb, 0, none⟩) G.L G.cap, .pointer (some ⟨G.rb, 0, none⟩), .int .i64 ct] 65 (0, 0)) := by
  obtain ⟨c0, hm⟩ := h.map
  obtain ⟨cur, c1, c2, c3⟩ := h.heads
  have hk : KeepS (KM.own m es G) w (w.setCell ⟨m, 2, none⟩ (.int .i64 ct)) := (KeepS.refl _ w).set _ (fun _ => .inl rfl)
  have he : ∀ {b kp vp hh nx bf bh g'}, EntAt w b kp vp hh nx bf bh g' → EntAt (w.setCell ⟨m, 2, none⟩ (.int .i64 ct)) b kp vp hh nx bf bh g' := fun hb => hb.other _ (hb.ne hm (by decide))
  have hm2 : (w.setCell ⟨m, 2, none⟩ (.int .i64 ct)).heap[m]? = some (.cells #[.slice (some ⟨G.hb, 0, none⟩) G.L G.cap, .pointer (some ⟨G.rb, 0, none⟩), .int .i64 ct] 65 (0, 0)) := row_set hm 2 _
  exact ⟨⟨⟨ct, hm2⟩, h.L1, h.Lc, h.Lm, h.capm, ⟨cur, (heap_setCell_other _ _ _ _ _ (tag_ne c1 hm (by decide))).trans c1, c2, c3⟩, he h.ring, fun e hee => he (h.ent e hee), fun e hee => ⟨(h.box e hee).1.keep hk h.data, (h.box e hee).2.keep hk h.data⟩, h.adj, h.nod, h.chain, h.key, h.apart⟩, hm2⟩
theorem KMp.congr' (h : KMp n w m es G S) (hS : ∀ e ∈ es, S e.b) : KMp n w m es G (fun _ => True) :=
  ⟨h.map, h.L1, h.Lc, h.Lm, h.capm, h.heads, h.ring, h.ent, h.box, h.adj, h.nod, fun i hi => ⟨(h.chain i hi).1, (h.chain i hi).2.1, fun b => by
    rw [(h.chain i hi).2.2 b]
    exact ⟨fun ⟨x, x1, x2, _, x4⟩ => ⟨x, x1, x2, trivial, x4⟩, fun ⟨x, x1, x2, _, x4⟩ => ⟨x, x1, x2, x2 ▸ hS x x1, x4⟩⟩⟩, h.key, h.apart⟩
/-- What lay leaves. -/
def LayP (n : Nat) (w : World) (m : Nat) (es : List Ent) (G : KG) (e : Ent) (r : Ending) (w' : World) : Prop :=
  r = .returned (.tuple #[]) ∧ ∃ G', KM n w' m (es ++ [e]) G' ∧ (∀ b, KM.own m (es ++ [e]) G' b → KM.own m es G b ∨ b = e.b ∨ w.heap.size ≤ b) ∧ KeepS (fun b => KM.own m es G b ∨ b = e.b) w w'
set_option maxRecDepth 100000 in
set_option maxHeartbeats 4000000 in
theorem lay_any {e : Ent} (h : KM n w m es G) (f : Fresh n w es G e) (hlen : es.length < 1099511627776) :
    Calls Tryd.prog 22 #[.pointer (some ⟨m, 0, none⟩), .pointer (some ⟨e.b, 0, none⟩)] w (LayP n w m es G e) := by
  obtain ⟨cur, c1, c2, c3⟩ := h.heads
  have hx : G.bf G.rb ∈ G.rb :: es.map Ent.b := h.last
  have hxt : ∃ kp vp hh nx bf bh, EntAt w (G.bf G.rb) kp vp hh nx bf bh false := by
    rcases List.mem_cons.1 hx with q | q
    · rw [q]; exact ⟨_, _, _, _, _, _, h.ring⟩
    · obtain ⟨y, hy, hyb⟩ := List.mem_map.1 q
      rw [← hyb]; exact ⟨_, _, _, _, _, _, h.ent y hy⟩
  obtain ⟨xk, xv, xh, xn, xf, xb, hxc⟩ := hxt
  have hmx : m ≠ G.bf G.rb := tag_ne h.map hxc (by decide)
  have hmr : m ≠ G.rb := tag_ne h.map h.ring (by decide)
  have hme : m ≠ e.b := tag_ne h.map f.cells (by decide)
  have hrx : e.b ≠ G.rb := f.ring
  have hex : e.b ≠ G.bf G.rb := fun q => by
    rw [← q] at hx
    rcases List.mem_cons.1 hx with hx | hx
    · exact f.ring hx
    · exact f.out hx
  have hcm := h.cell
  have hcr := h.ring.cell
  have hce : ∀ j, w.cell? ⟨e.b, j, none⟩ = (#[.pointer (some ⟨e.kb, 0, none⟩), .pointer (some ⟨e.vb, 0, none⟩), .int .u64 e.h, .pointer none, .pointer none, .pointer none, .bool false] : Array Value)[j]? := fun j => row_at f.cells j
  have hcx := hxc.cell
  have hfm := fun j => fz _ _ _ _ j h.map
  have hfr := fun j => fz _ _ _ _ j h.ring
  have hfe := fun j => fz _ _ _ _ j f.cells
  have hfx := fun j => fz _ _ _ _ j hxc
  have zm := row_ltT h.map
  have zr := row_ltT h.ring
  have ze := row_ltT f.cells
  have zx := row_ltT hxc
  have HL : Hid _ := h.link f
  have H : Hid (KM n w m es G) := h
  have HF : Hid (Fresh n w es G e) := f
  clear hx c1 c2 c3 cur hxc h f
  go_enter Tryd.func22, Tryd.ntmps22
  go_wp2_with fail
  refine wp_region_noPanic ?_
  refine wp_region_held (S := fun W => W.cell? ⟨m, 1, none⟩ = some (.pointer (some ⟨G.rb, 0, none⟩)) ∧ W.cell? ⟨G.rb, 4, none⟩ = some (.pointer (some ⟨G.bf G.rb, 0, none⟩))) (by kernel_rfl) ?_
  obtain ⟨V0, hV0⟩ : ∃ W4, W4 = (w).drew := ⟨_, rfl⟩
  have e4 : ({ w with drawn := (w).drawn + 1 } : World) = V0 := hV0.symm
  rw [e4]
  have hB4 : Below (w).heap.size (w) V0 := by rw [hV0]; exact (Below.refl _ _).drew
  have hS : V0.cell? ⟨m, 1, none⟩ = some (.pointer (some ⟨G.rb, 0, none⟩)) ∧ V0.cell? ⟨G.rb, 4, none⟩ = some (.pointer (some ⟨G.bf G.rb, 0, none⟩)) := ⟨(hB4.cell (p := ⟨m, 1, none⟩) zm).trans (hcm 1), (hB4.cell (p := ⟨G.rb, 4, none⟩) zr).trans (hcr 4)⟩
  have HV0 : Hid (V0 = (w).drew) := hV0
  clear e4 hV0
  refine wpAnyH_take (i := 0) (v := .pointer (some ⟨e.b, 0, none⟩)) rfl (by kernel_rfl) (by kernel_rfl) (by kernel_rfl) (fun _ _ _ h => h) (Or.inl ⟨by rfl, ?r⟩) hS ?_
  case r => intro W hW; simp [go_sem, execOp, Act.eval]
  simp only [List.getElem_toArray, List.getElem_cons_zero, Act.put, List.setIfInBounds_toArray, List.set_cons_succ, List.set_cons_zero]
  refine wpAnyH_take (i := 1) (v := .pointer (some ⟨e.b, 0, none⟩)) rfl (by kernel_rfl) (by kernel_rfl) (by kernel_rfl) (fun _ _ _ h => h) (Or.inl ⟨by rfl, ?r⟩) hS ?_
  case r => intro W hW; simp [go_sem, execOp, Act.eval]
  simp only [List.getElem_toArray, List.getElem_cons_zero, List.getElem_cons_succ, Act.put, List.setIfInBounds_toArray, List.set_cons_succ, List.set_cons_zero]
  refine wpAnyH_take (i := 2) (v := .pointer (some ⟨m, 0, none⟩)) rfl (by kernel_rfl) (by kernel_rfl) (by kernel_rfl) (fun _ _ _ h => h) (Or.inl ⟨by rfl, ?r⟩) hS ?_
  case r => intro W hW; simp [go_sem, execOp, Act.eval]
  simp only [List.getElem_toArray, List.getElem_cons_zero, List.getElem_cons_succ, Act.put, List.setIfInBounds_toArray, List.set_cons_succ, List.set_cons_zero]
  refine wpAnyH_take (i := 3) (v := .pointer (some ⟨m, 0, none⟩)) rfl (by kernel_rfl) (by kernel_rfl) (by kernel_rfl) (fun _ _ _ h => h) (Or.inl ⟨by rfl, ?r⟩) hS ?_
  case r => intro W hW; simp [go_sem, execOp, Act.eval]
  simp only [List.getElem_toArray, List.getElem_cons_zero, List.getElem_cons_succ, Act.put, List.setIfInBounds_toArray, List.set_cons_succ, List.set_cons_zero]
  refine wpAnyH_take (i := 4) (v := .pointer (some ⟨m, 1, none⟩)) rfl (by kernel_rfl) (by kernel_rfl) (by kernel_rfl) (fun _ _ _ h => h) (Or.inl ⟨by rfl, ?r⟩) hS ?_
  case r => intro W hW; simp [go_sem, execOp, Act.eval]
  simp only [List.getElem_toArray, List.getElem_cons_zero, List.getElem_cons_succ, Act.put, List.setIfInBounds_toArray, List.set_cons_succ, List.set_cons_zero]
  refine wpAnyH_take (i := 5) (v := .pointer (some ⟨G.rb, 0, none⟩)) rfl (by kernel_rfl) (by kernel_rfl) (by kernel_rfl) (fun _ _ _ h => h) (Or.inl ⟨by rfl, ?r⟩) hS ?_
  case r => intro W hW; simp [go_sem, execOp, Act.eval, hW.1]
  simp only [List.getElem_toArray, List.getElem_cons_zero, List.getElem_cons_succ, Act.put, List.setIfInBounds_toArray, List.set_cons_succ, List.set_cons_zero]
  refine wpAnyH_take (i := 6) (v := .pointer (some ⟨G.rb, 0, none⟩)) rfl (by kernel_rfl) (by kernel_rfl) (by kernel_rfl) (fun _ _ _ h => h) (Or.inl ⟨by rfl, ?r⟩) hS ?_
  case r => intro W hW; simp [go_sem, execOp, Act.eval]
  simp only [List.getElem_toArray, List.getElem_cons_zero, List.getElem_cons_succ, Act.put, List.setIfInBounds_toArray, List.set_cons_succ, List.set_cons_zero]
  refine wpAnyH_take (i := 7) (v := .pointer (some ⟨G.rb, 4, none⟩)) rfl (by kernel_rfl) (by kernel_rfl) (by kernel_rfl) (fun _ _ _ h => h) (Or.inl ⟨by rfl, ?r⟩) hS ?_
  case r => intro W hW; simp [go_sem, execOp, Act.eval]
  simp only [List.getElem_toArray, List.getElem_cons_zero, List.getElem_cons_succ, Act.put, List.setIfInBounds_toArray, List.set_cons_succ, List.set_cons_zero]
  refine wpAnyH_take (i := 8) (v := .pointer (some ⟨G.bf G.rb, 0, none⟩)) rfl (by kernel_rfl) (by kernel_rfl) (by kernel_rfl) (fun _ _ _ h => h) (Or.inl ⟨by rfl, ?r⟩) hS ?_
  case r => intro W hW; simp [go_sem, execOp, Act.eval, hW.2]
  simp only [List.getElem_toArray, List.getElem_cons_zero, List.getElem_cons_succ, Act.put, List.setIfInBounds_toArray, List.set_cons_succ, List.set_cons_zero]
  refine wpAnyH_take (i := 9) (v := .pointer (some ⟨m, 0, none⟩)) rfl (by kernel_rfl) (by kernel_rfl) (by kernel_rfl) (fun _ _ _ h => h) (Or.inl ⟨by rfl, ?r⟩) hS ?_
  case r => intro W hW; simp [go_sem, execOp, Act.eval]
  simp only [List.getElem_toArray, List.getElem_cons_zero, List.getElem_cons_succ, Act.put, List.setIfInBounds_toArray, List.set_cons_succ, List.set_cons_zero]
  refine wpAnyH_take (i := 10) (v := .pointer (some ⟨m, 0, none⟩)) rfl (by kernel_rfl) (by kernel_rfl) (by kernel_rfl) (fun _ _ _ h => h) (Or.inl ⟨by rfl, ?r⟩) hS ?_
  case r => intro W hW; simp [go_sem, execOp, Act.eval]
  simp only [List.getElem_toArray, List.getElem_cons_zero, List.getElem_cons_succ, Act.put, List.setIfInBounds_toArray, List.set_cons_succ, List.set_cons_zero]
  refine wpAnyH_take (i := 11) (v := .pointer (some ⟨m, 1, none⟩)) rfl (by kernel_rfl) (by kernel_rfl) (by kernel_rfl) (fun _ _ _ h => h) (Or.inl ⟨by rfl, ?r⟩) hS ?_
  case r => intro W hW; simp [go_sem, execOp, Act.eval]
  simp only [List.getElem_toArray, List.getElem_cons_zero, List.getElem_cons_succ, Act.put, List.setIfInBounds_toArray, List.set_cons_succ, List.set_cons_zero]
  refine wpAnyH_take (i := 12) (v := .pointer (some ⟨G.rb, 0, none⟩)) rfl (by kernel_rfl) (by kernel_rfl) (by kernel_rfl) (fun _ _ _ h => h) (Or.inl ⟨by rfl, ?r⟩) hS ?_
  case r => intro W hW; simp [go_sem, execOp, Act.eval, hW.1]
  simp only [List.getElem_toArray, List.getElem_cons_zero, List.getElem_cons_succ, Act.put, List.setIfInBounds_toArray, List.set_cons_succ, List.set_cons_zero]
  refine wpAnyH_take (i := 13) (v := .pointer (some ⟨e.b, 0, none⟩)) rfl (by kernel_rfl) (by kernel_rfl) (by kernel_rfl) (fun _ _ _ h => h) (Or.inl ⟨by rfl, ?r⟩) hS ?_
  case r => intro W hW; simp [go_sem, execOp, Act.eval]
  simp only [List.getElem_toArray, List.getElem_cons_zero, List.getElem_cons_succ, Act.put, List.setIfInBounds_toArray, List.set_cons_succ, List.set_cons_zero]
  refine wpAnyH_take (i := 14) (v := .pointer (some ⟨e.b, 4, none⟩)) rfl (by kernel_rfl) (by kernel_rfl) (by kernel_rfl) (fun _ _ _ h => h) (Or.inl ⟨by rfl, ?r⟩) hS ?_
  case r => intro W hW; simp [go_sem, execOp, Act.eval]
  simp only [List.getElem_toArray, List.getElem_cons_zero, List.getElem_cons_succ, Act.put, List.setIfInBounds_toArray, List.set_cons_succ, List.set_cons_zero]
  refine wpAnyH_all (rs := [15]) (by kernel_rfl) (by simp) (fun i2 hi2 => ?_)
  obtain rfl : i2 = 15 := by simpa using hi2
  clear hi2
  refine wpOp_step rfl (fun K hK => ite_yes rfl ?_)
  simp only [List.getElem_toArray, List.getElem_cons_zero, List.getElem_cons_succ]
  have q4 : V0.cell? ⟨e.b, 4, none⟩ = some (.pointer none) := (hB4.cell (p := ⟨e.b, 4, none⟩) ze).trans (hce 4)
  have q4f : V0.frozen? ⟨e.b, 4, none⟩ = false := by rw [HV0.out]; exact hfe 4
  have q5 : V0.cell? ⟨e.b, 5, none⟩ = some (.pointer none) := (hB4.cell (p := ⟨e.b, 5, none⟩) ze).trans (hce 5)
  have q5f : V0.frozen? ⟨e.b, 5, none⟩ = false := by rw [HV0.out]; exact hfe 5
  have zeV : e.b < V0.heap.size := by rw [HV0.out]; exact ze
  go_simp
  have hS' : (V0.setCell ⟨e.b, 4, none⟩ (.pointer (some ⟨G.bf G.rb, 0, none⟩))).cell? ⟨m, 1, none⟩ = some (.pointer (some ⟨G.rb, 0, none⟩)) ∧ (V0.setCell ⟨e.b, 4, none⟩ (.pointer (some ⟨G.bf G.rb, 0, none⟩))).cell? ⟨G.rb, 4, none⟩ = some (.pointer (some ⟨G.bf G.rb, 0, none⟩)) := ⟨(World.cell?_of_block (a := ⟨m, 1, none⟩) (heap_setCell_other _ _ _ _ _ hme)).trans hS.1, (World.cell?_of_block (a := ⟨G.rb, 4, none⟩) (heap_setCell_other _ _ _ _ _ hrx.symm)).trans hS.2⟩
  refine hK _ _ ⟨hS', ?_⟩
  clear hK K hS
  have hS := hS'
  clear hS'
  try simp only [Act.put, List.setIfInBounds_toArray, List.set_cons_succ, List.set_cons_zero]
  refine wpAnyH_take (i := 16) (v := .pointer (some ⟨e.b, 0, none⟩)) rfl (by kernel_rfl) (by kernel_rfl) (by kernel_rfl) (fun _ _ _ h => h) (Or.inl ⟨by rfl, ?r⟩) hS ?_
  case r => intro W hW; simp [go_sem, execOp, Act.eval]
  simp only [List.getElem_toArray, List.getElem_cons_zero, List.getElem_cons_succ, Act.put, List.setIfInBounds_toArray, List.set_cons_succ, List.set_cons_zero]
  refine wpAnyH_take (i := 17) (v := .pointer (some ⟨e.b, 5, none⟩)) rfl (by kernel_rfl) (by kernel_rfl) (by kernel_rfl) (fun _ _ _ h => h) (Or.inl ⟨by rfl, ?r⟩) hS ?_
  case r => intro W hW; simp [go_sem, execOp, Act.eval]
  simp only [List.getElem_toArray, List.getElem_cons_zero, List.getElem_cons_succ, Act.put, List.setIfInBounds_toArray, List.set_cons_succ, List.set_cons_zero]
  refine wpAnyH_all (rs := [18]) (by kernel_rfl) (by simp) (fun i2 hi2 => ?_)
  obtain rfl : i2 = 18 := by simpa using hi2
  clear hi2
  refine wpOp_step rfl (fun K hK => ite_yes rfl ?_)
  simp only [List.getElem_toArray, List.getElem_cons_zero, List.getElem_cons_succ]
  go_simp
  have hS' : ((V0.setCell ⟨e.b, 4, none⟩ (.pointer (some ⟨G.bf G.rb, 0, none⟩))).setCell ⟨e.b, 5, none⟩ (.pointer (some ⟨G.rb, 0, none⟩))).cell? ⟨m, 1, none⟩ = some (.pointer (some ⟨G.rb, 0, none⟩)) ∧ ((V0.setCell ⟨e.b, 4, none⟩ (.pointer (some ⟨G.bf G.rb, 0, none⟩))).setCell ⟨e.b, 5, none⟩ (.pointer (some ⟨G.rb, 0, none⟩))).cell? ⟨G.rb, 4, none⟩ = some (.pointer (some ⟨G.bf G.rb, 0, none⟩)) := ⟨(World.cell?_of_block (a := ⟨m, 1, none⟩) (heap_setCell_other _ _ _ _ _ hme)).trans hS.1, (World.cell?_of_block (a := ⟨G.rb, 4, none⟩) (heap_setCell_other _ _ _ _ _ hrx.symm)).trans hS.2⟩
  refine hK _ _ ⟨hS', ?_⟩
  clear hK K hS
  refine wpAnyH_done (by kernel_rfl) ?_ _
  refine NoPanic.normal ?_
  try simp only [Act.put]
  clear hS' q4 q4f q5 q5f zeV hB4
  go_wp2_with fail
  have hw2 : ∃ V2, V2 = ((V0.setCell ⟨e.b, 4, none⟩ (.pointer (some ⟨G.bf G.rb, 0, none⟩))).setCell ⟨e.b, 5, none⟩ (.pointer (some ⟨G.rb, 0, none⟩))) := ⟨_, rfl⟩
  obtain ⟨V2, hV2⟩ := hw2
  have HV2e : Hid (V2.heap[e.b]? = some (.cells #[.pointer (some ⟨e.kb, 0, none⟩), .pointer (some ⟨e.vb, 0, none⟩), .int .u64 e.h, .pointer none, .pointer (some ⟨G.bf G.rb, 0, none⟩), .pointer (some ⟨G.rb, 0, none⟩), .bool false] 62 (0, 0))) := by
    rw [hV2, HV0.out]
    exact row_set (row_set (w := w.drew) HF.out.cells 4 _) 5 _
  have v4 : V2.cell? ⟨e.b, 4, none⟩ = some (.pointer (some ⟨G.bf G.rb, 0, none⟩)) := row_at HV2e.out 4
  have v5 : V2.cell? ⟨e.b, 5, none⟩ = some (.pointer (some ⟨G.rb, 0, none⟩)) := row_at HV2e.out 5
  have zeV : e.b < V2.heap.size := row_ltT HV2e.out
  have hVo : ∀ k, k ≠ e.b → V2.heap[k]? = w.heap[k]? := fun k hk => by rw [hV2, HV0.out]; exact (heap_setCell_other _ _ _ _ _ hk).trans (heap_setCell_other _ _ _ _ _ hk)
  have x5 : V2.cell? ⟨G.bf G.rb, 5, none⟩ = _ := (World.cell?_of_block (a := ⟨G.bf G.rb, 5, none⟩) (hVo _ hex.symm)).trans (hcx 5)
  have x5f : V2.frozen? ⟨G.bf G.rb, 5, none⟩ = false := (World.frozen?_of_block (a := ⟨G.bf G.rb, 5, none⟩) (hVo _ hex.symm)).trans (hfx 5)
  have r4 : V2.cell? ⟨G.rb, 4, none⟩ = _ := (World.cell?_of_block (a := ⟨G.rb, 4, none⟩) (hVo _ hrx.symm)).trans (hcr 4)
  have r4f : V2.frozen? ⟨G.rb, 4, none⟩ = false := (World.frozen?_of_block (a := ⟨G.rb, 4, none⟩) (hVo _ hrx.symm)).trans (hfr 4)
  have zxV : G.bf G.rb < V2.heap.size := by rw [hV2, HV0.out]; simpa using zx
  have zrV : G.rb < V2.heap.size := by rw [hV2, HV0.out]; simpa using zr
  have zmV : m < V2.heap.size := by rw [hV2, HV0.out]; simpa using zm
  have hmV : V2.heap[m]? = w.heap[m]? := hVo m hme
  rw [← hV2]
  clear hcm hcr hce hcx hfm hfr hfe hfx zm zr ze zx hVo
  have HV2 : Hid (V2 = ((V0.setCell ⟨e.b, 4, none⟩ (.pointer (some ⟨G.bf G.rb, 0, none⟩))).setCell ⟨e.b, 5, none⟩ (.pointer (some ⟨G.rb, 0, none⟩)))) := hV2
  clear hV2
  go_wp2_with fail
  refine wp_region_noPanic ?_
  refine wp_region_held (S := fun W => W.cell? ⟨e.b, 4, none⟩ = some (.pointer (some ⟨G.bf G.rb, 0, none⟩)) ∧ W.cell? ⟨e.b, 5, none⟩ = some (.pointer (some ⟨G.rb, 0, none⟩))) (by kernel_rfl) ?_
  obtain ⟨V3, hV3⟩ : ∃ W4, W4 = (V2).drew := ⟨_, rfl⟩
  have e4 : ({ V2 with drawn := (V2).drawn + 1 } : World) = V3 := hV3.symm
  rw [e4]
  have hB4 : Below (V2).heap.size (V2) V3 := by rw [hV3]; exact (Below.refl _ _).drew
  have hS : V3.cell? ⟨e.b, 4, none⟩ = some (.pointer (some ⟨G.bf G.rb, 0, none⟩)) ∧ V3.cell? ⟨e.b, 5, none⟩ = some (.pointer (some ⟨G.rb, 0, none⟩)) := ⟨(hB4.cell (p := ⟨e.b, 4, none⟩) zeV).trans v4, (hB4.cell (p := ⟨e.b, 5, none⟩) zeV).trans v5⟩
  have HV3 : Hid (V3 = (V2).drew) := hV3
  clear e4 hV3
  refine wpAnyH_take (i := 0) (v := .pointer (some ⟨e.b, 0, none⟩)) rfl (by kernel_rfl) (by kernel_rfl) (by kernel_rfl) (fun _ _ _ h => h) (Or.inl ⟨by rfl, ?r⟩) hS ?_
  case r => intro W hW; simp [go_sem, execOp, Act.eval]
  simp only [List.getElem_toArray, List.getElem_cons_zero, Act.put, List.setIfInBounds_toArray, List.set_cons_succ, List.set_cons_zero]
  refine wpAnyH_take (i := 1) (v := .pointer (some ⟨e.b, 0, none⟩)) rfl (by kernel_rfl) (by kernel_rfl) (by kernel_rfl) (fun _ _ _ h => h) (Or.inl ⟨by rfl, ?r⟩) hS ?_
  case r => intro W hW; simp [go_sem, execOp, Act.eval]
  simp only [List.getElem_toArray, List.getElem_cons_zero, List.getElem_cons_succ, Act.put, List.setIfInBounds_toArray, List.set_cons_succ, List.set_cons_zero]
  refine wpAnyH_take (i := 2) (v := .pointer (some ⟨e.b, 4, none⟩)) rfl (by kernel_rfl) (by kernel_rfl) (by kernel_rfl) (fun _ _ _ h => h) (Or.inl ⟨by rfl, ?r⟩) hS ?_
  case r => intro W hW; simp [go_sem, execOp, Act.eval]
  simp only [List.getElem_toArray, List.getElem_cons_zero, List.getElem_cons_succ, Act.put, List.setIfInBounds_toArray, List.set_cons_succ, List.set_cons_zero]
  refine wpAnyH_take (i := 3) (v := .pointer (some ⟨G.bf G.rb, 0, none⟩)) rfl (by kernel_rfl) (by kernel_rfl) (by kernel_rfl) (fun _ _ _ h => h) (Or.inl ⟨by rfl, ?r⟩) hS ?_
  case r => intro W hW; simp [go_sem, execOp, Act.eval, hW.1]
  simp only [List.getElem_toArray, List.getElem_cons_zero, List.getElem_cons_succ, Act.put, List.setIfInBounds_toArray, List.set_cons_succ, List.set_cons_zero]
  refine wpAnyH_take (i := 4) (v := .pointer (some ⟨e.b, 0, none⟩)) rfl (by kernel_rfl) (by kernel_rfl) (by kernel_rfl) (fun _ _ _ h => h) (Or.inl ⟨by rfl, ?r⟩) hS ?_
  case r => intro W hW; simp [go_sem, execOp, Act.eval]
  simp only [List.getElem_toArray, List.getElem_cons_zero, List.getElem_cons_succ, Act.put, List.setIfInBounds_toArray, List.set_cons_succ, List.set_cons_zero]
  refine wpAnyH_take (i := 5) (v := .pointer (some ⟨e.b, 0, none⟩)) rfl (by kernel_rfl) (by kernel_rfl) (by kernel_rfl) (fun _ _ _ h => h) (Or.inl ⟨by rfl, ?r⟩) hS ?_
  case r => intro W hW; simp [go_sem, execOp, Act.eval]
  simp only [List.getElem_toArray, List.getElem_cons_zero, List.getElem_cons_succ, Act.put, List.setIfInBounds_toArray, List.set_cons_succ, List.set_cons_zero]
  refine wpAnyH_take (i := 6) (v := .pointer (some ⟨e.b, 5, none⟩)) rfl (by kernel_rfl) (by kernel_rfl) (by kernel_rfl) (fun _ _ _ h => h) (Or.inl ⟨by rfl, ?r⟩) hS ?_
  case r => intro W hW; simp [go_sem, execOp, Act.eval]
  simp only [List.getElem_toArray, List.getElem_cons_zero, List.getElem_cons_succ, Act.put, List.setIfInBounds_toArray, List.set_cons_succ, List.set_cons_zero]
  refine wpAnyH_take (i := 7) (v := .pointer (some ⟨G.rb, 0, none⟩)) rfl (by kernel_rfl) (by kernel_rfl) (by kernel_rfl) (fun _ _ _ h => h) (Or.inl ⟨by rfl, ?r⟩) hS ?_
  case r => intro W hW; simp [go_sem, execOp, Act.eval, hW.2]
  simp only [List.getElem_toArray, List.getElem_cons_zero, List.getElem_cons_succ, Act.put, List.setIfInBounds_toArray, List.set_cons_succ, List.set_cons_zero]
  refine wpAnyH_take (i := 8) (v := .pointer (some ⟨e.b, 0, none⟩)) rfl (by kernel_rfl) (by kernel_rfl) (by kernel_rfl) (fun _ _ _ h => h) (Or.inl ⟨by rfl, ?r⟩) hS ?_
  case r => intro W hW; simp [go_sem, execOp, Act.eval]
  simp only [List.getElem_toArray, List.getElem_cons_zero, List.getElem_cons_succ, Act.put, List.setIfInBounds_toArray, List.set_cons_succ, List.set_cons_zero]
  refine wpAnyH_take (i := 9) (v := .pointer (some ⟨e.b, 0, none⟩)) rfl (by kernel_rfl) (by kernel_rfl) (by kernel_rfl) (fun _ _ _ h => h) (Or.inl ⟨by rfl, ?r⟩) hS ?_
  case r => intro W hW; simp [go_sem, execOp, Act.eval]
  simp only [List.getElem_toArray, List.getElem_cons_zero, List.getElem_cons_succ, Act.put, List.setIfInBounds_toArray, List.set_cons_succ, List.set_cons_zero]
  refine wpAnyH_take (i := 10) (v := .pointer (some ⟨G.bf G.rb, 0, none⟩)) rfl (by kernel_rfl) (by kernel_rfl) (by kernel_rfl) (fun _ _ _ h => h) (Or.inl ⟨by rfl, ?r⟩) hS ?_
  case r => intro W hW; simp [go_sem, execOp, Act.eval]
  simp only [List.getElem_toArray, List.getElem_cons_zero, List.getElem_cons_succ, Act.put, List.setIfInBounds_toArray, List.set_cons_succ, List.set_cons_zero]
  refine wpAnyH_take (i := 11) (v := .pointer (some ⟨G.bf G.rb, 5, none⟩)) rfl (by kernel_rfl) (by kernel_rfl) (by kernel_rfl) (fun _ _ _ h => h) (Or.inl ⟨by rfl, ?r⟩) hS ?_
  case r => intro W hW; simp [go_sem, execOp, Act.eval]
  simp only [List.getElem_toArray, List.getElem_cons_zero, List.getElem_cons_succ, Act.put, List.setIfInBounds_toArray, List.set_cons_succ, List.set_cons_zero]
  refine wpAnyH_all (rs := [12]) (by kernel_rfl) (by simp) (fun i2 hi2 => ?_)
  obtain rfl : i2 = 12 := by simpa using hi2
  clear hi2
  refine wpOp_step rfl (fun K hK => ite_yes rfl ?_)
  simp only [List.getElem_toArray, List.getElem_cons_zero, List.getElem_cons_succ]
  have y5 : V3.cell? ⟨G.bf G.rb, 5, none⟩ = _ := (hB4.cell (p := ⟨G.bf G.rb, 5, none⟩) zxV).trans x5
  have y5f : V3.frozen? ⟨G.bf G.rb, 5, none⟩ = false := by rw [HV3.out]; exact x5f
  have s4 : V3.cell? ⟨G.rb, 4, none⟩ = _ := (hB4.cell (p := ⟨G.rb, 4, none⟩) zrV).trans r4
  have s4f : V3.frozen? ⟨G.rb, 4, none⟩ = false := by rw [HV3.out]; exact r4f
  have zx3 : G.bf G.rb < V3.heap.size := by rw [HV3.out]; exact zxV
  have zr3 : G.rb < V3.heap.size := by rw [HV3.out]; exact zrV
  go_simp
  have hS' : (V3.setCell ⟨G.bf G.rb, 5, none⟩ (.pointer (some ⟨e.b, 0, none⟩))).cell? ⟨e.b, 4, none⟩ = some (.pointer (some ⟨G.bf G.rb, 0, none⟩)) ∧ (V3.setCell ⟨G.bf G.rb, 5, none⟩ (.pointer (some ⟨e.b, 0, none⟩))).cell? ⟨e.b, 5, none⟩ = some (.pointer (some ⟨G.rb, 0, none⟩)) := ⟨(World.cell?_of_block (a := ⟨e.b, 4, none⟩) (heap_setCell_other _ _ _ _ _ hex)).trans hS.1, (World.cell?_of_block (a := ⟨e.b, 5, none⟩) (heap_setCell_other _ _ _ _ _ hex)).trans hS.2⟩
  refine hK _ _ ⟨hS', ?_⟩
  clear hK K hS
  have hS := hS'
  clear hS'
  try simp only [Act.put, List.setIfInBounds_toArray, List.set_cons_succ, List.set_cons_zero]
  refine wpAnyH_take (i := 13) (v := .pointer (some ⟨G.rb, 0, none⟩)) rfl (by kernel_rfl) (by kernel_rfl) (by kernel_rfl) (fun _ _ _ h => h) (Or.inl ⟨by rfl, ?r⟩) hS ?_
  case r => intro W hW; simp [go_sem, execOp, Act.eval]
  simp only [List.getElem_toArray, List.getElem_cons_zero, List.getElem_cons_succ, Act.put, List.setIfInBounds_toArray, List.set_cons_succ, List.set_cons_zero]
  refine wpAnyH_take (i := 14) (v := .pointer (some ⟨G.rb, 4, none⟩)) rfl (by kernel_rfl) (by kernel_rfl) (by kernel_rfl) (fun _ _ _ h => h) (Or.inl ⟨by rfl, ?r⟩) hS ?_
  case r => intro W hW; simp [go_sem, execOp, Act.eval]
  simp only [List.getElem_toArray, List.getElem_cons_zero, List.getElem_cons_succ, Act.put, List.setIfInBounds_toArray, List.set_cons_succ, List.set_cons_zero]
  refine wpAnyH_all (rs := [15]) (by kernel_rfl) (by simp) (fun i2 hi2 => ?_)
  obtain rfl : i2 = 15 := by simpa using hi2
  clear hi2
  refine wpOp_step rfl (fun K hK => ite_yes rfl ?_)
  simp only [List.getElem_toArray, List.getElem_cons_zero, List.getElem_cons_succ]
  go_simp
  have hS' : ((V3.setCell ⟨G.bf G.rb, 5, none⟩ (.pointer (some ⟨e.b, 0, none⟩))).setCell ⟨G.rb, 4, none⟩ (.pointer (some ⟨e.b, 0, none⟩))).cell? ⟨e.b, 4, none⟩ = some (.pointer (some ⟨G.bf G.rb, 0, none⟩)) ∧ ((V3.setCell ⟨G.bf G.rb, 5, none⟩ (.pointer (some ⟨e.b, 0, none⟩))).setCell ⟨G.rb, 4, none⟩ (.pointer (some ⟨e.b, 0, none⟩))).cell? ⟨e.b, 5, none⟩ = some (.pointer (some ⟨G.rb, 0, none⟩)) := ⟨(World.cell?_of_block (a := ⟨e.b, 4, none⟩) (heap_setCell_other _ _ _ _ _ hrx)).trans hS.1, (World.cell?_of_block (a := ⟨e.b, 5, none⟩) (heap_setCell_other _ _ _ _ _ hrx)).trans hS.2⟩
  refine hK _ _ ⟨hS', ?_⟩
  clear hK K hS
  refine wpAnyH_done (by kernel_rfl) ?_ _
  refine NoPanic.normal ?_
  try simp only [Act.put]
  clear hS' y5 y5f s4 s4f zx3 zr3 hB4
  go_wp2_with fail
  obtain ⟨W4, hW4⟩ : ∃ W4, W4 = (V3.setCell ⟨G.bf G.rb, 5, none⟩ (.pointer (some ⟨e.b, 0, none⟩))).setCell ⟨G.rb, 4, none⟩ (.pointer (some ⟨e.b, 0, none⟩)) := ⟨_, rfl⟩
  have HK4 : Hid (KMp n W4 m (es ++ [e]) (G.linked e.b) (fun b => b ∈ es.map Ent.b) ∧ KeepS (fun b => KM.own m es G b ∨ b = e.b) w W4 ∧ W4.heap[m]? = w.heap[m]?) := by
    have h1 := HL.out
    have e1 : W4 = ((((w.setCell ⟨e.b, 4, none⟩ (.pointer (some ⟨G.bf G.rb, 0, none⟩))).setCell ⟨e.b, 5, none⟩ (.pointer (some ⟨G.rb, 0, none⟩))).setCell ⟨G.bf G.rb, 5, none⟩ (.pointer (some ⟨e.b, 0, none⟩))).setCell ⟨G.rb, 4, none⟩ (.pointer (some ⟨e.b, 0, none⟩))).drew.drew := by
      rw [hW4, HV3.out, HV2.out, HV0.out]
      rfl
    rw [e1]
    have hb : Below ((((w.setCell ⟨e.b, 4, none⟩ (.pointer (some ⟨G.bf G.rb, 0, none⟩))).setCell ⟨e.b, 5, none⟩ (.pointer (some ⟨G.rb, 0, none⟩))).setCell ⟨G.bf G.rb, 5, none⟩ (.pointer (some ⟨e.b, 0, none⟩))).setCell ⟨G.rb, 4, none⟩ (.pointer (some ⟨e.b, 0, none⟩))).heap.size ((((w.setCell ⟨e.b, 4, none⟩ (.pointer (some ⟨G.bf G.rb, 0, none⟩))).setCell ⟨e.b, 5, none⟩ (.pointer (some ⟨G.rb, 0, none⟩))).setCell ⟨G.bf G.rb, 5, none⟩ (.pointer (some ⟨e.b, 0, none⟩))).setCell ⟨G.rb, 4, none⟩ (.pointer (some ⟨e.b, 0, none⟩))) ((((w.setCell ⟨e.b, 4, none⟩ (.pointer (some ⟨G.bf G.rb, 0, none⟩))).setCell ⟨e.b, 5, none⟩ (.pointer (some ⟨G.rb, 0, none⟩))).setCell ⟨G.bf G.rb, 5, none⟩ (.pointer (some ⟨e.b, 0, none⟩))).setCell ⟨G.rb, 4, none⟩ (.pointer (some ⟨e.b, 0, none⟩))).drew.drew := ((Below.refl _ _).drew).drew
    exact ⟨h1.1.keep hb, h1.2.1.below hb, (hb.block m (row_ltT (h1.2.2.trans H.out.map))).trans h1.2.2⟩
  rw [← hW4]
  clear hW4 HV3 HV2 HV0 HV2e v4 v5 x5 x5f r4 r4f zeV zxV zrV zmV hmV
  have HH := hang_any HK4.out.1 (e := e) (by simp) HF.out.out
  refine HH.mono ?_
  clear HH
  rintro r W5 ⟨rfl, i, hW5, hk5, _, _⟩
  have hm5 : W5.heap[m]? = some (.cells #[.slice (some ⟨G.hb, 0, none⟩) G.L G.cap, .pointer (some ⟨G.rb, 0, none⟩), .int .i64 es.length] 65 (0, 0)) := by
    obtain ⟨cur, c1, _⟩ := H.out.heads
    rw [hW5]
    exact (heap_setCell_other _ _ _ _ _ (tag_ne H.out.map c1 (by decide))).trans ((heap_setCell_other _ _ _ _ _ hme).trans (HK4.out.2.2.trans H.out.map))
  have HK5 : Hid (KeepS (fun b => KM.own m es G b ∨ b = e.b) w W5) := by
    rw [hW5]
    exact (HK4.out.2.1.set _ (fun _ => .inr rfl)).set _ (fun _ => .inl (.inr (.inl rfl)))
  have HP5 : Hid (KMp n W5 m (es ++ [e]) ((G.linked e.b).hung e.b i) (fun b => b ∈ es.map Ent.b ∨ b = e.b)) := hk5
  clear hk5 hW5 HK4 HL
  have HC6 : Hid _ := HP5.out.count ((es.length : Int) + 1)
  have HK6 : Hid (KeepS (fun b => KM.own m es G b ∨ b = e.b) w (W5.setCell ⟨m, 2, none⟩ (.int .i64 ((es.length : Int) + 1)))) := HK5.out.set _ (fun _ => .inl (.inl rfl))
  have hcm := fun j => row_at hm5 j
  have hfm := fun j => fz _ _ _ _ j hm5
  have zm := row_ltT hm5
  have hLm := H.out.Lm
  have hOwn : Hid (∀ b, KM.own m (es ++ [e]) ((G.linked e.b).hung e.b i) b → KM.own m es G b ∨ b = e.b) := fun b hb => by
    rcases hb with hb | hb | hb | hb
    · exact .inl (.inl hb)
    · exact .inl (.inr (.inl hb))
    · exact .inl (.inr (.inr (.inl hb)))
    · rw [List.map_append] at hb
      rcases List.mem_append.1 hb with hb | hb
      · exact .inl (.inr (.inr (.inr hb)))
      · simp at hb
        exact .inr hb
  by_cases hgr : (es.length : Int) + 1 ≤ G.L * 8
  · have hng : ¬ (G.L : Int) * 8 < (es.length : Int) + 1 := by omega
    go_wp2_with fail
    obtain ⟨W6, hW6⟩ : ∃ W6, W6 = W5.setCell ⟨m, 2, none⟩ (.int .i64 ((es.length : Int) + 1)) := ⟨_, rfl⟩
    rw [← hW6] at HC6 HK6 ⊢
    clear hcm hfm zm hm5 HP5 HK5
    obtain ⟨hp6, hm6⟩ := HC6.out
    have hcm : ∀ j, W6.cell? ⟨m, j, none⟩ = (#[.slice (some ⟨G.hb, 0, none⟩) G.L G.cap, .pointer (some ⟨G.rb, 0, none⟩), .int .i64 ((es.length : Int) + 1)] : Array Value)[j]? := fun j => row_at hm6 j
    have zm := row_ltT hm6
    have HP6 : Hid _ := hp6
    have HM6 : Hid _ := hm6
    clear hW6 HC6 hm6 hp6
    go_region
    all_goals go_wp2_with fail
    all_goals first
      | (exfalso; omega)
      | refine bodyPost_end (v := .tuple #[]) (results_none rfl _ _ _) rfl ⟨rfl, (G.linked e.b).hung e.b i, ?_, fun b hb => (hOwn.out b hb).imp id .inl, HK6.out.below ((Below.refl _ _).drew)⟩
    all_goals refine KM.keep (KMp.whole HP6.out (fun x hx => ?_) (by rw [List.length_append]; exact HM6.out) (by simp; show _ ≤ 8 * G.L; omega)) ((Below.refl _ _).drew)
    all_goals (rcases List.mem_append.1 hx with hx | hx; exact .inl (List.mem_map_of_mem hx); simp at hx; exact .inr (by rw [hx]))
  · have hng : (G.L : Int) * 8 < (es.length : Int) + 1 := by omega
    go_wp2_with fail
    obtain ⟨W6, hW6⟩ : ∃ W6, W6 = W5.setCell ⟨m, 2, none⟩ (.int .i64 ((es.length : Int) + 1)) := ⟨_, rfl⟩
    rw [← hW6] at HC6 HK6 ⊢
    clear hcm hfm zm hm5 HP5 HK5
    obtain ⟨hp6, hm6⟩ := HC6.out
    have hcm : ∀ j, W6.cell? ⟨m, j, none⟩ = (#[.slice (some ⟨G.hb, 0, none⟩) G.L G.cap, .pointer (some ⟨G.rb, 0, none⟩), .int .i64 ((es.length : Int) + 1)] : Array Value)[j]? := fun j => row_at hm6 j
    have zm := row_ltT hm6
    have HP6 : Hid _ := hp6
    have HM6 : Hid _ := hm6
    clear hW6 HC6 hm6 hp6
    have HGR : Hid (∀ W, Below W6.heap.size W6 W → Calls Tryd.prog 38 #[.pointer (some ⟨m, 0, none⟩)] W fun r w' => r = .returned (.tuple #[]) ∧ ∃ G', KM n w' m (es ++ [e]) G' ∧ (∀ b, KM.own m (es ++ [e]) G' b → KM.own m (es ++ [e]) ((G.linked e.b).hung e.b i) b ∨ W.heap.size ≤ b) ∧ KeepS (KM.own m (es ++ [e]) ((G.linked e.b).hung e.b i)) W w') := fun W hW => by
      have hfit := H.out.fit
      refine grow_any ((HP6.out.keep hW).congr' (fun x hx => ?_)) ?_ ?_ ?_
      · rcases List.mem_append.1 hx with hx | hx
        · exact .inl (List.mem_map_of_mem hx)
        · simp at hx
          exact .inr (by rw [hx])
      · have := (hW.cell (p := ⟨m, 2, none⟩) (row_ltT HM6.out)).trans (row_at HM6.out 2)
        simpa using this
      · show (es ++ [e]).length ≤ 16 * G.L
        have := H.out.L1
        simp
        omega
      · show G.L ≤ 274877906944
        omega
    go_region
    all_goals go_wp2_with (go_at_call 38; refine (HGR.out _ ((Below.refl _ _).drew)).mono ?_; rintro r W8 ⟨rfl, G8, hk8, ho8, hs8⟩)
    all_goals first
      | (exfalso; omega)
      | (refine bodyPost_end (v := .tuple #[]) (results_none rfl _ _ _) rfl ⟨rfl, G8, hk8, fun b hb => ?_, ?_⟩
         · rcases ho8 b hb with h | h
           · exact (hOwn.out b h).imp id .inl
           · refine .inr (.inr (Nat.le_trans HK6.out.size ?_))
             simpa using h
         · exact (HK6.out.below ((Below.refl _ _).drew)).trans (hs8.mono fun b _ hb => hOwn.out b hb))
end Go.Proofs.YtflonmlnedkmjaaDoor
