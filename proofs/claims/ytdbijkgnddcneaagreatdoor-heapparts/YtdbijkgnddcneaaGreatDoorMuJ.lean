/-
  .
  .
  .
  .
  .
  .
-/
import Derived.Test.YtdbijkgnddcneaaGreatDoorMlJ
import Derived.Test.YtdbijkgnddcneaaGreatDoorMhJ
import Derived.RangeFuncNested
import Derived.RangeFuncBound
import Derived.RangeFuncCalls
import Derived.RangeFuncLeaves
import Derived.LaidEqlPtr
import Derived.Lib.Builder
import Derived.Shelf.Abstract
import Derived.Shelf.RegionOpen
import Derived.WalkKit
import Derived.OwnWalkIn
import Derived.TacticsInMore
import Derived.LoopNIn
import Derived.LoopIn
import Derived.Sort.LoopGhostIn
import Derived.Test.YtdbijkgnddcneaaGreatDoorMiJ
import Derived.Test.YtdbijkgnddcneaaGreatDoorSq
import Derived.Deep.LoopGhost
import Derived.Test.YtdbijkgnddcneaaGreatDoorHe2
namespace Go.Proofs.YtdbijkgnddcneaaGreatDoor
open Go.RowKit Go.Shelf
variable {n : Nat} {w w' : World} {m : Nat} {es : List Ent} {G : KG} {S : Nat → Prop}
theorem KMp.keep (h : KMp n w m es G S) (k : Below w.heap.size w w') : KMp n w' m es G S := by
 have kk : KeepS (fun _ => False) w w' := Below.keepS _ k
 have hs : ∀ (g : Nat) (c : Array Value) (t : TypeId), (t = 3 ∨ t = 32) → w.heap[g]? = some (.cells c t (0, 0)) → ¬ (fun _ : Nat => False) g := fun _ _ _ _ _ h => h
 obtain ⟨ct, hm⟩ := h.map
 obtain ⟨cur, h1, h2, h3⟩ := h.heads
 exact ⟨⟨ct, kk.cells hm (fun h => h)⟩, h.L1, h.Lc, h.Lm, h.capm, ⟨cur, kk.cells h1 (fun h => h), h2, h3⟩, kk.cells h.ring (fun h => h), fun e he => kk.cells (h.ent e he) (fun h => h), fun e he => ⟨(h.box e he).1.keep kk hs, (h.box e he).2.keep kk hs⟩, h.adj, h.nod, h.chain, h.key, h.apart⟩
end Go.Proofs.YtdbijkgnddcneaaGreatDoor
namespace Go.Proofs.YtdbijkgnddcneaaGreatDoor
open Go.RowKit
variable {n : Nat} {w w' : World} {m : Nat} {es : List Ent} {G : KG} {S : Nat → Prop}
structure Fresh (n : Nat) (w : World) (es : List Ent) (G : KG) (e : Ent) : Prop where
 cells : w.heap[e.b]? = some (.cells #[.pointer (some ⟨e.kb, 0, none⟩), .pointer (some ⟨e.vb, 0, none⟩), .int .u64 e.h, .pointer none, .pointer none, .pointer none, .bool false] 159 (0, 0))
 box : Box w n e.kb e.k ∧ Box w n e.vb e.v
 key : KeyOK n e
 apart : ∀ x ∈ es, (MD.eqv n x.k e.k).1 = false
 ring : e.b ≠ G.rb
 out : e.b ∉ es.map Ent.b
def KG.linked (G : KG) (b : Nat) : KG := { G with bf := up (up G.bf b (G.bf G.rb)) G.rb b, bh := up (up G.bh b G.rb) (G.bf G.rb) b, nx := up G.nx b none }
theorem KM.last (h : KM n w m es G) : G.bf G.rb ∈ G.rb :: es.map Ent.b := by
 obtain ⟨l1, hl⟩ := ring_split h.adj
 rcases List.eq_nil_or_concat (es.map Ent.b) with e | ⟨l0, x, e⟩
 ·rw [e] at hl ⊢
  have : G.rb :: [] ++ [G.rb] = [G.rb, G.rb] := rfl
  rw [this] at hl
  cases l1 with
  | nil =>
   have h0 := List.cons.inj hl
   exact List.mem_cons.2 (.inl h0.1.symm)
  | cons y l1 => have := congrArg List.length hl; simp at this
 ·rw [List.concat_eq_append] at e
  have e2 : G.rb :: es.map Ent.b ++ [G.rb] = (G.rb :: l0) ++ [x, G.rb] := by rw [e]; simp
  rw [e2] at hl
  have := List.append_inj_right' hl rfl
  simp at this
  rw [← this, e]
  simp
theorem KM.link (h : KM n w m es G) {e : Ent} (f : Fresh n w es G e) :
  KMp n ((((w.setCell ⟨e.b, 4, none⟩ (.pointer (some ⟨G.bf G.rb, 0, none⟩))).setCell ⟨e.b, 5, none⟩ (.pointer (some ⟨G.rb, 0, none⟩))).setCell ⟨G.bf G.rb, 5, none⟩ (.pointer (some ⟨e.b, 0, none⟩))).setCell ⟨G.rb, 4, none⟩ (.pointer (some ⟨e.b, 0, none⟩))) m (es ++ [e]) (G.linked e.b) (fun b => b ∈ es.map Ent.b) ∧ KeepS (fun b => KM.own m es G b ∨ b = e.b) w ((((w.setCell ⟨e.b, 4, none⟩ (.pointer (some ⟨G.bf G.rb, 0, none⟩))).setCell ⟨e.b, 5, none⟩ (.pointer (some ⟨G.rb, 0, none⟩))).setCell ⟨G.bf G.rb, 5, none⟩ (.pointer (some ⟨e.b, 0, none⟩))).setCell ⟨G.rb, 4, none⟩ (.pointer (some ⟨e.b, 0, none⟩))) ∧ ((((w.setCell ⟨e.b, 4, none⟩ (.pointer (some ⟨G.bf G.rb, 0, none⟩))).setCell ⟨e.b, 5, none⟩ (.pointer (some ⟨G.rb, 0, none⟩))).setCell ⟨G.bf G.rb, 5, none⟩ (.pointer (some ⟨e.b, 0, none⟩))).setCell ⟨G.rb, 4, none⟩ (.pointer (some ⟨e.b, 0, none⟩))).heap[m]? = w.heap[m]? := by
 obtain ⟨cur, c1, c2, c3⟩ := h.heads
 have hx : G.bf G.rb ∈ G.rb :: es.map Ent.b := h.last
 have hxe : G.bf G.rb ≠ e.b := fun q => by
  rw [q] at hx
  rcases List.mem_cons.1 hx with hx | hx
  ·exact f.ring hx
  ·exact f.out hx
 have hxt : ∃ c, w.heap[G.bf G.rb]? = some (.cells c 159 (0, 0)) := by
  rcases List.mem_cons.1 hx with q | q
  ·rw [q]; exact ⟨_, h.ring⟩
  ·obtain ⟨y, hy, hyb⟩ := List.mem_map.1 q
   rw [← hyb]; exact ⟨_, h.ent y hy⟩
 obtain ⟨cx, hxc⟩ := hxt
 have hmx := tag_ne h.map hxc (by decide)
 have hmr := tag_ne h.map h.ring (by decide)
 have hme := tag_ne h.map f.cells (by decide)
 have hhx := tag_ne c1 hxc (by decide)
 have hhr := tag_ne c1 h.ring (by decide)
 have hhe := tag_ne c1 f.cells (by decide)
 have hk : KeepS (fun b => KM.own m es G b ∨ b = e.b) w ((((w.setCell ⟨e.b, 4, none⟩ (.pointer (some ⟨G.bf G.rb, 0, none⟩))).setCell ⟨e.b, 5, none⟩ (.pointer (some ⟨G.rb, 0, none⟩))).setCell ⟨G.bf G.rb, 5, none⟩ (.pointer (some ⟨e.b, 0, none⟩))).setCell ⟨G.rb, 4, none⟩ (.pointer (some ⟨e.b, 0, none⟩))) :=
  ((((KeepS.refl _ w).set _ (fun _ => .inr rfl)).set _ (fun _ => .inr rfl)).set _ (fun _ => .inl (by
   rcases List.mem_cons.1 hx with q | q
   ·exact .inr (.inr (.inl q))
   ·exact .inr (.inr (.inr q))))).set _ (fun _ => .inl (.inr (.inr (.inl rfl))))
 have hd : ∀ g c t, (t = 3 ∨ t = 32) → w.heap[g]? = some (.cells c t (0, 0)) → ¬ (KM.own m es G g ∨ g = e.b) := fun g c t ht hg ho => by
  rcases ho with ho | ho
  ·exact h.data g c t ht hg ho
  ·subst ho
   exact tag_ne hg f.cells (by rcases ht with rfl | rfl <;> decide) rfl
 have hmm : ((((w.setCell ⟨e.b, 4, none⟩ (.pointer (some ⟨G.bf G.rb, 0, none⟩))).setCell ⟨e.b, 5, none⟩ (.pointer (some ⟨G.rb, 0, none⟩))).setCell ⟨G.bf G.rb, 5, none⟩ (.pointer (some ⟨e.b, 0, none⟩))).setCell ⟨G.rb, 4, none⟩ (.pointer (some ⟨e.b, 0, none⟩))).heap[m]? = w.heap[m]? := (heap_setCell_other _ _ _ _ _ hmr).trans ((heap_setCell_other _ _ _ _ _ hmx).trans ((heap_setCell_other _ _ _ _ _ hme).trans (heap_setCell_other _ _ _ _ _ hme)))
 have hold : ∀ {b kp vp hh g}, b ≠ e.b → EntAt w b kp vp hh (G.nx b) (G.bf b) (G.bh b) g → EntAt ((((w.setCell ⟨e.b, 4, none⟩ (.pointer (some ⟨G.bf G.rb, 0, none⟩))).setCell ⟨e.b, 5, none⟩ (.pointer (some ⟨G.rb, 0, none⟩))).setCell ⟨G.bf G.rb, 5, none⟩ (.pointer (some ⟨e.b, 0, none⟩))).setCell ⟨G.rb, 4, none⟩ (.pointer (some ⟨e.b, 0, none⟩))) b kp vp hh ((G.linked e.b).nx b) ((G.linked e.b).bf b) ((G.linked e.b).bh b) g := fun {b kp vp hh g} hb he => by
  have h1 : EntAt w b kp vp hh (up G.nx e.b none b) (G.bf b) (G.bh b) g := by rw [up_ne _ _ hb]; exact he
  exact (((h1.up4 e.b (G.bf G.rb)).up5 e.b G.rb).up5 (G.bf G.rb) e.b).up4 G.rb e.b
 have hnew : EntAt ((((w.setCell ⟨e.b, 4, none⟩ (.pointer (some ⟨G.bf G.rb, 0, none⟩))).setCell ⟨e.b, 5, none⟩ (.pointer (some ⟨G.rb, 0, none⟩))).setCell ⟨G.bf G.rb, 5, none⟩ (.pointer (some ⟨e.b, 0, none⟩))).setCell ⟨G.rb, 4, none⟩ (.pointer (some ⟨e.b, 0, none⟩))) e.b (.pointer (some ⟨e.kb, 0, none⟩)) (.pointer (some ⟨e.vb, 0, none⟩)) e.h ((G.linked e.b).nx e.b) ((G.linked e.b).bf e.b) ((G.linked e.b).bh e.b) false := by
  have h2 : EntAt ((w.setCell ⟨e.b, 4, none⟩ (.pointer (some ⟨G.bf G.rb, 0, none⟩))).setCell ⟨e.b, 5, none⟩ (.pointer (some ⟨G.rb, 0, none⟩))) e.b (.pointer (some ⟨e.kb, 0, none⟩)) (.pointer (some ⟨e.vb, 0, none⟩)) e.h none (up G.bf e.b (G.bf G.rb) e.b) (up G.bh e.b G.rb e.b) false := by
   rw [up_at, up_at]
   exact row_set (row_set f.cells 4 _) 5 _
  have h3 : EntAt ((w.setCell ⟨e.b, 4, none⟩ (.pointer (some ⟨G.bf G.rb, 0, none⟩))).setCell ⟨e.b, 5, none⟩ (.pointer (some ⟨G.rb, 0, none⟩))) e.b (.pointer (some ⟨e.kb, 0, none⟩)) (.pointer (some ⟨e.vb, 0, none⟩)) e.h (up G.nx e.b none e.b) (up G.bf e.b (G.bf G.rb) e.b) (up G.bh e.b G.rb e.b) false := by
   rw [up_at]; exact h2
  exact (h3.up5 (G.bf G.rb) e.b).up4 G.rb e.b
 have hbne : ∀ x ∈ es, x.b ≠ e.b := fun x hx q => f.out (q ▸ List.mem_map_of_mem hx)
 refine ⟨⟨⟨_, hmm.trans h.map⟩, h.L1, h.Lc, h.Lm, h.capm, ⟨cur, ?_, c2, c3⟩, ?_, fun x hx => ?_, fun x hx => ?_, ?_, ?_, fun i hi => ?_, fun x hx => ?_, ?_⟩, hk, hmm⟩
 ·exact (heap_setCell_other _ _ _ _ _ hhr).trans ((heap_setCell_other _ _ _ _ _ hhx).trans ((heap_setCell_other _ _ _ _ _ hhe).trans ((heap_setCell_other _ _ _ _ _ hhe).trans c1)))
 ·have hr := h.ring
  have h1 := ((hr.up4 e.b (G.bf G.rb)).up5 e.b G.rb).up5 (G.bf G.rb) e.b
  exact h1.up4 G.rb e.b
 ·rcases List.mem_append.1 hx with hx | hx
  ·exact hold (hbne x hx) (h.ent x hx)
  ·simp at hx
   subst hx
   exact hnew
 ·rcases List.mem_append.1 hx with hx | hx
  ·exact ⟨(h.box x hx).1.keep hk hd, (h.box x hx).2.keep hk hd⟩
  ·simp at hx
   subst hx
   exact ⟨f.box.1.keep hk hd, f.box.2.keep hk hd⟩
 ·obtain ⟨l1, hl⟩ := ring_split h.adj
  have hends := ring_ends h.nod
  have ha := h.adj
  rw [hl] at ha hends
  have hne : e.b ∉ l1 ++ G.bf G.rb :: G.rb :: [] := by
   have e1 : l1 ++ G.bf G.rb :: G.rb :: [] = G.rb :: es.map Ent.b ++ [G.rb] := hl.symm
   rw [e1]
   simp only [List.cons_append, List.mem_cons, List.mem_append, List.not_mem_nil, or_false, not_or]
   exact ⟨f.ring, f.out, f.ring⟩
  have hp := Adj.put (e := e.b) ha hne hends.1 hends.2
  have e2 : G.rb :: (es ++ [e]).map Ent.b ++ [G.rb] = l1 ++ G.bf G.rb :: e.b :: G.rb :: [] := by
   have hl2 : G.rb :: es.map Ent.b = l1 ++ [G.bf G.rb] := by
    have e3 : G.rb :: es.map Ent.b ++ [G.rb] = (l1 ++ [G.bf G.rb]) ++ [G.rb] := by rw [hl]; simp
    exact List.append_cancel_right e3
   calc G.rb :: (es ++ [e]).map Ent.b ++ [G.rb] = (G.rb :: es.map Ent.b) ++ [e.b, G.rb] := by simp
    _ = _ := by rw [hl2]; simp
  show Adj (up (up G.bf e.b (G.bf G.rb)) G.rb e.b) (up (up G.bh e.b G.rb) (G.bf G.rb) e.b) (G.rb :: (es ++ [e]).map Ent.b ++ [G.rb])
  rw [e2]
  exact hp
 ·have hn := h.nod
  rw [List.map_append]
  show (G.rb :: es.map Ent.b ++ [e.b]).Nodup
  rw [List.nodup_append]
  refine ⟨hn, by simp, ?_⟩
  intro a ha b hb
  simp at hb
  subst hb
  intro q
  subst q
  rcases List.mem_cons.1 ha with q | q
  ·exact f.ring q
  ·exact f.out q
 ·obtain ⟨a1, a2, a3⟩ := h.chain i hi
  refine ⟨Lk.congr _ _ (fun b hb => ?_) a1, a2, fun b => ?_⟩
  ·obtain ⟨x, hx, hxb, _⟩ := (a3 b).1 hb
   exact up_ne _ _ (by rw [← hxb]; exact hbne x hx)
  ·refine (a3 b).trans ?_
   constructor
   ·rintro ⟨x, x1, x2, x3⟩
    exact ⟨x, by simp [x1], x2, by rw [← x2]; exact List.mem_map_of_mem x1, x3⟩
   ·rintro ⟨x, x1, x2, x3, x4⟩
    rcases List.mem_append.1 x1 with x1 | x1
    ·exact ⟨x, x1, x2, x4⟩
    ·simp at x1
     subst x1
     rw [← x2] at x3
     exact absurd x3 f.out
 ·rcases List.mem_append.1 hx with hx | hx
  ·exact h.key x hx
  ·simp at hx
   subst hx
   exact f.key
 ·rw [List.pairwise_append]
  refine ⟨h.apart, by simp, ?_⟩
  intro a ha b hb
  simp at hb
  subst hb
  exact f.apart a ha
end Go.Proofs.YtdbijkgnddcneaaGreatDoor
namespace Go.Proofs.YtdbijkgnddcneaaGreatDoor
open Go.RowKit
set_option maxRecDepth 100000
set_option maxHeartbeats 4000000
variable {n : Nat} {w w' : World} {m : Nat} {es : List Ent} {G : KG} {S : Nat → Prop}
theorem KMp.count (h : KMp n w m es G S) (ct : Int) : KMp n (w.setCell ⟨m, 2, none⟩ (.int .i64 ct)) m es G S ∧ (w.setCell ⟨m, 2, none⟩ (.int .i64 ct)).heap[m]? = some (.cells #[.slice (some ⟨G.hb, 0, none⟩) G.L G.cap, .pointer (some ⟨G.rb, 0, none⟩), .int .i64 ct] 162 (0, 0)) := by
 obtain ⟨c0, hm⟩ := h.map
 obtain ⟨cur, c1, c2, c3⟩ := h.heads
 have hk : KeepS (KM.own m es G) w (w.setCell ⟨m, 2, none⟩ (.int .i64 ct)) := (KeepS.refl _ w).set _ (fun _ => .inl rfl)
 have he : ∀ {b kp vp hh nx bf bh g'}, EntAt w b kp vp hh nx bf bh g' → EntAt (w.setCell ⟨m, 2, none⟩ (.int .i64 ct)) b kp vp hh nx bf bh g' := fun hb => hb.other _ (hb.ne hm (by decide))
 have hm2 : (w.setCell ⟨m, 2, none⟩ (.int .i64 ct)).heap[m]? = some (.cells #[.slice (some ⟨G.hb, 0, none⟩) G.L G.cap, .pointer (some ⟨G.rb, 0, none⟩), .int .i64 ct] 162 (0, 0)) := row_set hm 2 _
 exact ⟨⟨⟨ct, hm2⟩, h.L1, h.Lc, h.Lm, h.capm, ⟨cur, (heap_setCell_other _ _ _ _ _ (tag_ne c1 hm (by decide))).trans c1, c2, c3⟩, he h.ring, fun e hee => he (h.ent e hee), fun e hee => ⟨(h.box e hee).1.keep hk h.data, (h.box e hee).2.keep hk h.data⟩, h.adj, h.nod, h.chain, h.key, h.apart⟩, hm2⟩
def LayP (n : Nat) (w : World) (m : Nat) (es : List Ent) (G : KG) (e : Ent) (r : Ending) (w' : World) : Prop :=
 r = .returned (.tuple #[]) ∧ ∃ G', KM n w' m (es ++ [e]) G' ∧ (∀ b, KM.own m (es ++ [e]) G' b → KM.own m es G b ∨ b = e.b ∨ w.heap.size ≤ b) ∧ KeepS (fun b => KM.own m es G b ∨ b = e.b) w w'
theorem lay_any {e : Ent} (h : KM n w m es G) (f : Fresh n w es G e) (hng0 : es.length + 1 ≤ 8 * G.L) :
  Calls Tryz.prog 80 #[.pointer (some ⟨m, 0, none⟩), .pointer (some ⟨e.b, 0, none⟩)] w (LayP n w m es G e) := by
 have HNG : Hid _ := hng0
 clear hng0
 obtain ⟨cur, c1, c2, c3⟩ := h.heads
 have hx : G.bf G.rb ∈ G.rb :: es.map Ent.b := h.last
 have hxt : ∃ kp vp hh nx bf bh, EntAt w (G.bf G.rb) kp vp hh nx bf bh false := by
  rcases List.mem_cons.1 hx with q | q
  ·rw [q]; exact ⟨_, _, _, _, _, _, h.ring⟩
  ·obtain ⟨y, hy, hyb⟩ := List.mem_map.1 q
   rw [← hyb]; exact ⟨_, _, _, _, _, _, h.ent y hy⟩
 obtain ⟨xk, xv, xh, xn, xf, xb, hxc⟩ := hxt
 have hmx : m ≠ G.bf G.rb := tag_ne h.map hxc (by decide)
 have hmr : m ≠ G.rb := tag_ne h.map h.ring (by decide)
 have hme : m ≠ e.b := tag_ne h.map f.cells (by decide)
 have hrx : e.b ≠ G.rb := f.ring
 have hex : e.b ≠ G.bf G.rb := fun q => by
  rw [← q] at hx
  rcases List.mem_cons.1 hx with hx | hx
  ·exact f.ring hx
  ·exact f.out hx
 have hcm := h.cell
 have hcr := h.ring.cell
 have hce : ∀ j, w.cell? ⟨e.b, j, none⟩ = (#[.pointer (some ⟨e.kb, 0, none⟩), .pointer (some ⟨e.vb, 0, none⟩), .int .u64 e.h, .pointer none, .pointer none, .pointer none, .bool false] : Array Value)[j]? := fun j => row_at f.cells j
 have hcx := hxc.cell
 have hfm := fun j => fz _ _ _ _ j h.map
 have hfr := fun j => fz _ _ _ _ j h.ring
 have hfe := fun j => fz _ _ _ _ j f.cells
 have hfx := fun j => fz _ _ _ _ j hxc
 have zm := row_ltT h.map
 have zr := row_ltT h.ring
 have ze := row_ltT f.cells
 have zx := row_ltT hxc
 have HL : Hid _ := h.link f
 have H : Hid (KM n w m es G) := h
 have HF : Hid (Fresh n w es G e) := f
 clear hx c1 c2 c3 cur hxc h f
 go_enter Tryz.func80, Tryz.ntmps80
 go_wp2_with fail
 refine rg (S := fun W => W.cell? ⟨m, 1, none⟩ = some (.pointer (some ⟨G.rb, 0, none⟩)) ∧ W.cell? ⟨G.rb, 4, none⟩ = some (.pointer (some ⟨G.bf G.rb, 0, none⟩))) (fun V0 hB4 HV0 => ?_)
 have hS : V0.cell? ⟨m, 1, none⟩ = some (.pointer (some ⟨G.rb, 0, none⟩)) ∧ V0.cell? ⟨G.rb, 4, none⟩ = some (.pointer (some ⟨G.bf G.rb, 0, none⟩)) := ⟨(hB4.cell (p := ⟨m, 1, none⟩) zm).trans (hcm 1), (hB4.cell (p := ⟨G.rb, 4, none⟩) zr).trans (hcr 4)⟩
 refine tq 0 (.pointer (some ⟨e.b, 0, none⟩)) rfl hS ?_
 simp only [sa, sb, Act.put, sd, se, sf]
 refine tq 1 (.pointer (some ⟨e.b, 0, none⟩)) rfl hS ?_
 simp only [sa, sb, sc, Act.put, sd, se, sf]
 refine tq 2 (.pointer (some ⟨m, 0, none⟩)) rfl hS ?_
 simp only [sa, sb, sc, Act.put, sd, se, sf]
 refine tq 3 (.pointer (some ⟨m, 0, none⟩)) rfl hS ?_
 simp only [sa, sb, sc, Act.put, sd, se, sf]
 refine tq 4 (.pointer (some ⟨m, 1, none⟩)) rfl hS ?_
 simp only [sa, sb, sc, Act.put, sd, se, sf]
 refine tk 5 (.pointer (some ⟨G.rb, 0, none⟩)) rfl (.inl ⟨by rfl, ?r⟩) hS ?_
 case r => intro W hW; simp [go_sem, execOp, Act.eval, hW.1]
 simp only [sa, sb, sc, Act.put, sd, se, sf]
 refine tq 6 (.pointer (some ⟨G.rb, 0, none⟩)) rfl hS ?_
 simp only [sa, sb, sc, Act.put, sd, se, sf]
 refine tq 7 (.pointer (some ⟨G.rb, 4, none⟩)) rfl hS ?_
 simp only [sa, sb, sc, Act.put, sd, se, sf]
 refine tk 8 (.pointer (some ⟨G.bf G.rb, 0, none⟩)) rfl (.inl ⟨by rfl, ?r⟩) hS ?_
 case r => intro W hW; simp [go_sem, execOp, Act.eval, hW.2]
 simp only [sa, sb, sc, Act.put, sd, se, sf]
 refine tq 9 (.pointer (some ⟨m, 0, none⟩)) rfl hS ?_
 simp only [sa, sb, sc, Act.put, sd, se, sf]
 refine tq 10 (.pointer (some ⟨m, 0, none⟩)) rfl hS ?_
 simp only [sa, sb, sc, Act.put, sd, se, sf]
 refine tq 11 (.pointer (some ⟨m, 1, none⟩)) rfl hS ?_
 simp only [sa, sb, sc, Act.put, sd, se, sf]
 refine tk 12 (.pointer (some ⟨G.rb, 0, none⟩)) rfl (.inl ⟨by rfl, ?r⟩) hS ?_
 case r => intro W hW; simp [go_sem, execOp, Act.eval, hW.1]
 simp only [sa, sb, sc, Act.put, sd, se, sf]
 refine tq 13 (.pointer (some ⟨e.b, 0, none⟩)) rfl hS ?_
 simp only [sa, sb, sc, Act.put, sd, se, sf]
 refine tq 14 (.pointer (some ⟨e.b, 4, none⟩)) rfl hS ?_
 simp only [sa, sb, sc, Act.put, sd, se, sf]
 refine one 15 rfl (fun K hK => ?_)
 simp only [sa, sb, sc]
 have q4 : V0.cell? ⟨e.b, 4, none⟩ = some (.pointer none) := (hB4.cell (p := ⟨e.b, 4, none⟩) ze).trans (hce 4)
 have q4f : V0.frozen? ⟨e.b, 4, none⟩ = false := by rw [HV0.out]; exact hfe 4
 have q5 : V0.cell? ⟨e.b, 5, none⟩ = some (.pointer none) := (hB4.cell (p := ⟨e.b, 5, none⟩) ze).trans (hce 5)
 have q5f : V0.frozen? ⟨e.b, 5, none⟩ = false := by rw [HV0.out]; exact hfe 5
 have zeV : e.b < V0.heap.size := by rw [HV0.out]; exact ze
 go_simp
 have hS' : (V0.setCell ⟨e.b, 4, none⟩ (.pointer (some ⟨G.bf G.rb, 0, none⟩))).cell? ⟨m, 1, none⟩ = some (.pointer (some ⟨G.rb, 0, none⟩)) ∧ (V0.setCell ⟨e.b, 4, none⟩ (.pointer (some ⟨G.bf G.rb, 0, none⟩))).cell? ⟨G.rb, 4, none⟩ = some (.pointer (some ⟨G.bf G.rb, 0, none⟩)) := ⟨(World.cell?_of_block (a := ⟨m, 1, none⟩) (heap_setCell_other _ _ _ _ _ hme)).trans hS.1, (World.cell?_of_block (a := ⟨G.rb, 4, none⟩) (heap_setCell_other _ _ _ _ _ hrx.symm)).trans hS.2⟩
 refine hK _ _ ⟨hS', ?_⟩
 clear hK K hS
 have hS := hS'
 clear hS'
 try simp only [Act.put, sd, se, sf]
 refine tq 16 (.pointer (some ⟨e.b, 0, none⟩)) rfl hS ?_
 simp only [sa, sb, sc, Act.put, sd, se, sf]
 refine tq 17 (.pointer (some ⟨e.b, 5, none⟩)) rfl hS ?_
 simp only [sa, sb, sc, Act.put, sd, se, sf]
 refine one 18 rfl (fun K hK => ?_)
 simp only [sa, sb, sc]
 go_simp
 have hS' : ((V0.setCell ⟨e.b, 4, none⟩ (.pointer (some ⟨G.bf G.rb, 0, none⟩))).setCell ⟨e.b, 5, none⟩ (.pointer (some ⟨G.rb, 0, none⟩))).cell? ⟨m, 1, none⟩ = some (.pointer (some ⟨G.rb, 0, none⟩)) ∧ ((V0.setCell ⟨e.b, 4, none⟩ (.pointer (some ⟨G.bf G.rb, 0, none⟩))).setCell ⟨e.b, 5, none⟩ (.pointer (some ⟨G.rb, 0, none⟩))).cell? ⟨G.rb, 4, none⟩ = some (.pointer (some ⟨G.bf G.rb, 0, none⟩)) := ⟨(World.cell?_of_block (a := ⟨m, 1, none⟩) (heap_setCell_other _ _ _ _ _ hme)).trans hS.1, (World.cell?_of_block (a := ⟨G.rb, 4, none⟩) (heap_setCell_other _ _ _ _ _ hrx.symm)).trans hS.2⟩
 refine hK _ _ ⟨hS', ?_⟩
 clear hK K hS
 refine dn ?_
 try simp only [Act.put]
 clear hS' q4 q4f q5 q5f zeV hB4
 go_wp2_with fail
 have hw2 : ∃ V2, V2 = ((V0.setCell ⟨e.b, 4, none⟩ (.pointer (some ⟨G.bf G.rb, 0, none⟩))).setCell ⟨e.b, 5, none⟩ (.pointer (some ⟨G.rb, 0, none⟩))) := ⟨_, rfl⟩
 obtain ⟨V2, hV2⟩ := hw2
 have HV2e : Hid (V2.heap[e.b]? = some (.cells #[.pointer (some ⟨e.kb, 0, none⟩), .pointer (some ⟨e.vb, 0, none⟩), .int .u64 e.h, .pointer none, .pointer (some ⟨G.bf G.rb, 0, none⟩), .pointer (some ⟨G.rb, 0, none⟩), .bool false] 159 (0, 0))) := by
  rw [hV2, HV0.out]
  exact row_set (row_set (w := w.drew) HF.out.cells 4 _) 5 _
 have v4 : V2.cell? ⟨e.b, 4, none⟩ = some (.pointer (some ⟨G.bf G.rb, 0, none⟩)) := row_at HV2e.out 4
 have v5 : V2.cell? ⟨e.b, 5, none⟩ = some (.pointer (some ⟨G.rb, 0, none⟩)) := row_at HV2e.out 5
 have zeV : e.b < V2.heap.size := row_ltT HV2e.out
 have hVo : ∀ k, k ≠ e.b → V2.heap[k]? = w.heap[k]? := fun k hk => by rw [hV2, HV0.out]; exact (heap_setCell_other _ _ _ _ _ hk).trans (heap_setCell_other _ _ _ _ _ hk)
 have x5 : V2.cell? ⟨G.bf G.rb, 5, none⟩ = _ := (World.cell?_of_block (a := ⟨G.bf G.rb, 5, none⟩) (hVo _ hex.symm)).trans (hcx 5)
 have x5f : V2.frozen? ⟨G.bf G.rb, 5, none⟩ = false := (World.frozen?_of_block (a := ⟨G.bf G.rb, 5, none⟩) (hVo _ hex.symm)).trans (hfx 5)
 have r4 : V2.cell? ⟨G.rb, 4, none⟩ = _ := (World.cell?_of_block (a := ⟨G.rb, 4, none⟩) (hVo _ hrx.symm)).trans (hcr 4)
 have r4f : V2.frozen? ⟨G.rb, 4, none⟩ = false := (World.frozen?_of_block (a := ⟨G.rb, 4, none⟩) (hVo _ hrx.symm)).trans (hfr 4)
 have zxV : G.bf G.rb < V2.heap.size := by rw [hV2, HV0.out]; simpa using zx
 have zrV : G.rb < V2.heap.size := by rw [hV2, HV0.out]; simpa using zr
 have zmV : m < V2.heap.size := by rw [hV2, HV0.out]; simpa using zm
 have hmV : V2.heap[m]? = w.heap[m]? := hVo m hme
 rw [← hV2]
 clear hcm hcr hce hcx hfm hfr hfe hfx zm zr ze zx hVo
 have HV2 : Hid (V2 = ((V0.setCell ⟨e.b, 4, none⟩ (.pointer (some ⟨G.bf G.rb, 0, none⟩))).setCell ⟨e.b, 5, none⟩ (.pointer (some ⟨G.rb, 0, none⟩)))) := hV2
 clear hV2
 go_wp2_with fail
 refine rg (S := fun W => W.cell? ⟨e.b, 4, none⟩ = some (.pointer (some ⟨G.bf G.rb, 0, none⟩)) ∧ W.cell? ⟨e.b, 5, none⟩ = some (.pointer (some ⟨G.rb, 0, none⟩))) (fun V3 hB4 HV3 => ?_)
 have hS : V3.cell? ⟨e.b, 4, none⟩ = some (.pointer (some ⟨G.bf G.rb, 0, none⟩)) ∧ V3.cell? ⟨e.b, 5, none⟩ = some (.pointer (some ⟨G.rb, 0, none⟩)) := ⟨(hB4.cell (p := ⟨e.b, 4, none⟩) zeV).trans v4, (hB4.cell (p := ⟨e.b, 5, none⟩) zeV).trans v5⟩
 refine tq 0 (.pointer (some ⟨e.b, 0, none⟩)) rfl hS ?_
 simp only [sa, sb, Act.put, sd, se, sf]
 refine tq 1 (.pointer (some ⟨e.b, 0, none⟩)) rfl hS ?_
 simp only [sa, sb, sc, Act.put, sd, se, sf]
 refine tq 2 (.pointer (some ⟨e.b, 4, none⟩)) rfl hS ?_
 simp only [sa, sb, sc, Act.put, sd, se, sf]
 refine tk 3 (.pointer (some ⟨G.bf G.rb, 0, none⟩)) rfl (.inl ⟨by rfl, ?r⟩) hS ?_
 case r => intro W hW; simp [go_sem, execOp, Act.eval, hW.1]
 simp only [sa, sb, sc, Act.put, sd, se, sf]
 refine tq 4 (.pointer (some ⟨e.b, 0, none⟩)) rfl hS ?_
 simp only [sa, sb, sc, Act.put, sd, se, sf]
 refine tq 5 (.pointer (some ⟨e.b, 0, none⟩)) rfl hS ?_
 simp only [sa, sb, sc, Act.put, sd, se, sf]
 refine tq 6 (.pointer (some ⟨e.b, 5, none⟩)) rfl hS ?_
 simp only [sa, sb, sc, Act.put, sd, se, sf]
 refine tk 7 (.pointer (some ⟨G.rb, 0, none⟩)) rfl (.inl ⟨by rfl, ?r⟩) hS ?_
 case r => intro W hW; simp [go_sem, execOp, Act.eval, hW.2]
 simp only [sa, sb, sc, Act.put, sd, se, sf]
 refine tq 8 (.pointer (some ⟨e.b, 0, none⟩)) rfl hS ?_
 simp only [sa, sb, sc, Act.put, sd, se, sf]
 refine tq 9 (.pointer (some ⟨e.b, 0, none⟩)) rfl hS ?_
 simp only [sa, sb, sc, Act.put, sd, se, sf]
 refine tq 10 (.pointer (some ⟨G.bf G.rb, 0, none⟩)) rfl hS ?_
 simp only [sa, sb, sc, Act.put, sd, se, sf]
 refine tq 11 (.pointer (some ⟨G.bf G.rb, 5, none⟩)) rfl hS ?_
 simp only [sa, sb, sc, Act.put, sd, se, sf]
 refine one 12 rfl (fun K hK => ?_)
 simp only [sa, sb, sc]
 have y5 : V3.cell? ⟨G.bf G.rb, 5, none⟩ = _ := (hB4.cell (p := ⟨G.bf G.rb, 5, none⟩) zxV).trans x5
 have y5f : V3.frozen? ⟨G.bf G.rb, 5, none⟩ = false := by rw [HV3.out]; exact x5f
 have s4 : V3.cell? ⟨G.rb, 4, none⟩ = _ := (hB4.cell (p := ⟨G.rb, 4, none⟩) zrV).trans r4
 have s4f : V3.frozen? ⟨G.rb, 4, none⟩ = false := by rw [HV3.out]; exact r4f
 have zx3 : G.bf G.rb < V3.heap.size := by rw [HV3.out]; exact zxV
 have zr3 : G.rb < V3.heap.size := by rw [HV3.out]; exact zrV
 go_simp
 have hS' : (V3.setCell ⟨G.bf G.rb, 5, none⟩ (.pointer (some ⟨e.b, 0, none⟩))).cell? ⟨e.b, 4, none⟩ = some (.pointer (some ⟨G.bf G.rb, 0, none⟩)) ∧ (V3.setCell ⟨G.bf G.rb, 5, none⟩ (.pointer (some ⟨e.b, 0, none⟩))).cell? ⟨e.b, 5, none⟩ = some (.pointer (some ⟨G.rb, 0, none⟩)) := ⟨(World.cell?_of_block (a := ⟨e.b, 4, none⟩) (heap_setCell_other _ _ _ _ _ hex)).trans hS.1, (World.cell?_of_block (a := ⟨e.b, 5, none⟩) (heap_setCell_other _ _ _ _ _ hex)).trans hS.2⟩
 refine hK _ _ ⟨hS', ?_⟩
 clear hK K hS
 have hS := hS'
 clear hS'
 try simp only [Act.put, sd, se, sf]
 refine tq 13 (.pointer (some ⟨G.rb, 0, none⟩)) rfl hS ?_
 simp only [sa, sb, sc, Act.put, sd, se, sf]
 refine tq 14 (.pointer (some ⟨G.rb, 4, none⟩)) rfl hS ?_
 simp only [sa, sb, sc, Act.put, sd, se, sf]
 refine one 15 rfl (fun K hK => ?_)
 simp only [sa, sb, sc]
 go_simp
 have hS' : ((V3.setCell ⟨G.bf G.rb, 5, none⟩ (.pointer (some ⟨e.b, 0, none⟩))).setCell ⟨G.rb, 4, none⟩ (.pointer (some ⟨e.b, 0, none⟩))).cell? ⟨e.b, 4, none⟩ = some (.pointer (some ⟨G.bf G.rb, 0, none⟩)) ∧ ((V3.setCell ⟨G.bf G.rb, 5, none⟩ (.pointer (some ⟨e.b, 0, none⟩))).setCell ⟨G.rb, 4, none⟩ (.pointer (some ⟨e.b, 0, none⟩))).cell? ⟨e.b, 5, none⟩ = some (.pointer (some ⟨G.rb, 0, none⟩)) := ⟨(World.cell?_of_block (a := ⟨e.b, 4, none⟩) (heap_setCell_other _ _ _ _ _ hrx)).trans hS.1, (World.cell?_of_block (a := ⟨e.b, 5, none⟩) (heap_setCell_other _ _ _ _ _ hrx)).trans hS.2⟩
 refine hK _ _ ⟨hS', ?_⟩
 clear hK K hS
 refine dn ?_
 try simp only [Act.put]
 clear hS' y5 y5f s4 s4f zx3 zr3 hB4
 go_wp2_with fail
 obtain ⟨W4, hW4⟩ : ∃ W4, W4 = (V3.setCell ⟨G.bf G.rb, 5, none⟩ (.pointer (some ⟨e.b, 0, none⟩))).setCell ⟨G.rb, 4, none⟩ (.pointer (some ⟨e.b, 0, none⟩)) := ⟨_, rfl⟩
 have HK4 : Hid (KMp n W4 m (es ++ [e]) (G.linked e.b) (fun b => b ∈ es.map Ent.b) ∧ KeepS (fun b => KM.own m es G b ∨ b = e.b) w W4 ∧ W4.heap[m]? = w.heap[m]?) := by
  have h1 := HL.out
  have e1 : W4 = ((((w.setCell ⟨e.b, 4, none⟩ (.pointer (some ⟨G.bf G.rb, 0, none⟩))).setCell ⟨e.b, 5, none⟩ (.pointer (some ⟨G.rb, 0, none⟩))).setCell ⟨G.bf G.rb, 5, none⟩ (.pointer (some ⟨e.b, 0, none⟩))).setCell ⟨G.rb, 4, none⟩ (.pointer (some ⟨e.b, 0, none⟩))).drew.drew := by
   rw [hW4, HV3.out, HV2.out, HV0.out]
   rfl
  rw [e1]
  have hb : Below ((((w.setCell ⟨e.b, 4, none⟩ (.pointer (some ⟨G.bf G.rb, 0, none⟩))).setCell ⟨e.b, 5, none⟩ (.pointer (some ⟨G.rb, 0, none⟩))).setCell ⟨G.bf G.rb, 5, none⟩ (.pointer (some ⟨e.b, 0, none⟩))).setCell ⟨G.rb, 4, none⟩ (.pointer (some ⟨e.b, 0, none⟩))).heap.size ((((w.setCell ⟨e.b, 4, none⟩ (.pointer (some ⟨G.bf G.rb, 0, none⟩))).setCell ⟨e.b, 5, none⟩ (.pointer (some ⟨G.rb, 0, none⟩))).setCell ⟨G.bf G.rb, 5, none⟩ (.pointer (some ⟨e.b, 0, none⟩))).setCell ⟨G.rb, 4, none⟩ (.pointer (some ⟨e.b, 0, none⟩))) ((((w.setCell ⟨e.b, 4, none⟩ (.pointer (some ⟨G.bf G.rb, 0, none⟩))).setCell ⟨e.b, 5, none⟩ (.pointer (some ⟨G.rb, 0, none⟩))).setCell ⟨G.bf G.rb, 5, none⟩ (.pointer (some ⟨e.b, 0, none⟩))).setCell ⟨G.rb, 4, none⟩ (.pointer (some ⟨e.b, 0, none⟩))).drew.drew := ((Below.refl _ _).drew).drew
  exact ⟨h1.1.keep hb, h1.2.1.below hb, (hb.block m (row_ltT (h1.2.2.trans H.out.map))).trans h1.2.2⟩
 rw [← hW4]
 clear hW4 HV3 HV2 HV0 HV2e v4 v5 x5 x5f r4 r4f zeV zxV zrV zmV hmV
 have HH := hang_any HK4.out.1 (e := e) (by simp) HF.out.out
 refine HH.mono ?_
 clear HH
 rintro r W5 ⟨rfl, i, hW5, hk5, _, _⟩
 have hm5 : W5.heap[m]? = some (.cells #[.slice (some ⟨G.hb, 0, none⟩) G.L G.cap, .pointer (some ⟨G.rb, 0, none⟩), .int .i64 es.length] 162 (0, 0)) := by
  obtain ⟨cur, c1, _⟩ := H.out.heads
  rw [hW5]
  exact (heap_setCell_other _ _ _ _ _ (tag_ne H.out.map c1 (by decide))).trans ((heap_setCell_other _ _ _ _ _ hme).trans (HK4.out.2.2.trans H.out.map))
 have HK5 : Hid (KeepS (fun b => KM.own m es G b ∨ b = e.b) w W5) := by
  rw [hW5]
  exact (HK4.out.2.1.set _ (fun _ => .inr rfl)).set _ (fun _ => .inl (.inr (.inl rfl)))
 have HP5 : Hid (KMp n W5 m (es ++ [e]) ((G.linked e.b).hung e.b i) (fun b => b ∈ es.map Ent.b ∨ b = e.b)) := hk5
 clear hk5 hW5 HK4 HL
 have HC6 : Hid _ := HP5.out.count ((es.length : Int) + 1)
 have HK6 : Hid (KeepS (fun b => KM.own m es G b ∨ b = e.b) w (W5.setCell ⟨m, 2, none⟩ (.int .i64 ((es.length : Int) + 1)))) := HK5.out.set _ (fun _ => .inl (.inl rfl))
 have hcm := fun j => row_at hm5 j
 have hfm := fun j => fz _ _ _ _ j hm5
 have zm := row_ltT hm5
 have hLm := H.out.Lm
 have hOwn : Hid (∀ b, KM.own m (es ++ [e]) ((G.linked e.b).hung e.b i) b → KM.own m es G b ∨ b = e.b) := fun b hb => by
  rcases hb with hb | hb | hb | hb
  ·exact .inl (.inl hb)
  ·exact .inl (.inr (.inl hb))
  ·exact .inl (.inr (.inr (.inl hb)))
  ·rw [List.map_append] at hb
   rcases List.mem_append.1 hb with hb | hb
   ·exact .inl (.inr (.inr (.inr hb)))
   ·simp at hb
    exact .inr hb
 by_cases hgr : (es.length : Int) + 1 ≤ G.L * 8
 ·have hng : ¬ (G.L : Int) * 8 < (es.length : Int) + 1 := by omega
  go_wp2_with fail
  obtain ⟨W6, hW6⟩ : ∃ W6, W6 = W5.setCell ⟨m, 2, none⟩ (.int .i64 ((es.length : Int) + 1)) := ⟨_, rfl⟩
  rw [← hW6] at HC6 HK6 ⊢
  clear hcm hfm zm hm5 HP5 HK5
  obtain ⟨hp6, hm6⟩ := HC6.out
  have hcm : ∀ j, W6.cell? ⟨m, j, none⟩ = (#[.slice (some ⟨G.hb, 0, none⟩) G.L G.cap, .pointer (some ⟨G.rb, 0, none⟩), .int .i64 ((es.length : Int) + 1)] : Array Value)[j]? := fun j => row_at hm6 j
  have zm := row_ltT hm6
  have HP6 : Hid _ := hp6
  have HM6 : Hid _ := hm6
  clear hW6 HC6 hm6 hp6
  go_region
  all_goals go_wp2_with fail
  all_goals first
   | (exfalso; omega)
   | refine bodyPost_end (v := .tuple #[]) (results_none rfl _ _ _) rfl ⟨rfl, (G.linked e.b).hung e.b i, ?_, fun b hb => (hOwn.out b hb).imp id .inl, HK6.out.below ((Below.refl _ _).drew)⟩
  all_goals refine KM.keep (KMp.whole HP6.out (fun x hx => ?_) (by rw [List.length_append]; exact HM6.out) (by simp; show _ ≤ 8 * G.L; omega)) ((Below.refl _ _).drew)
  all_goals (rcases List.mem_append.1 hx with hx | hx; exact .inl (List.mem_map_of_mem hx); simp at hx; exact .inr (by rw [hx]))
 ·exfalso; have := HNG.out; omega
end Go.Proofs.YtdbijkgnddcneaaGreatDoor
namespace Go.Proofs.YtdbijkgnddcneaaGreatDoor
open Go.RowKit
theorem sum_same (n : Nat) (hI : ∀ x d : MD, MD.same n x d = true → MD.size n x = MD.size n d) : ∀ (xs ds : List MD), all2 (MD.same n) xs ds = true → xs.length = ds.length → (xs.map (MD.size n)).sum = (ds.map (MD.size n)).sum
 | [], [], _, _ => rfl
 | [], _ :: _, _, h => by simp at h
 | _ :: _, [], _, h => by simp at h
 | x :: xs, d :: ds, ha, hl => by
  have h1 : (MD.same n x d && all2 (MD.same n) xs ds) = true := ha
  rw [Bool.and_eq_true] at h1
  simp only [List.map_cons, List.sum_cons]
  rw [hI x d h1.1, sum_same n hI xs ds h1.2 (by simpa using hl)]
theorem same_size : ∀ (n : Nat) (x d : MD), MD.same n x d = true → MD.size n x = MD.size n d
 | 0, _, _, _ => rfl
 | n + 1, x, d, hs => by
  obtain ⟨e0, _, _, _, _, _, _, _, _, e9, _, ea⟩ := same_parts hs
  unfold MD.size
  rw [e0, sum_same n (same_size n) _ _ ea e9.symm]
theorem same_right (n : Nat) (x d : MD) (h : MD.same n x d = true) : MD.right n x = MD.right n d := by
 unfold MD.right
 rw [same_full n x d h, same_size n x d h]
theorem sameH_self (h : Hd) (i : Nat) : sameH h h i i = true := by simp [sameH]
theorem all2_self (p : MD → MD → Bool) (h : ∀ x, p x x = true) : ∀ l : List MD, all2 p l l = true
 | [] => rfl
 | x :: l => by
  unfold all2
  rw [h x, all2_self p h l]; rfl
theorem same_self : ∀ (n : Nat) (x : MD), MD.same n x x = true
 | 0, _ => rfl
 | n + 1, x => by
  show (sameH x.h x.h x.items.length x.items.length && decide (x.h.path = x.h.path) && all2 (MD.same n) x.items x.items) = true
  rw [sameH_self, all2_self _ (same_self n)]; simp
theorem stir_range (h n : Int) : 0 ≤ stir h n ∧ stir h n < 18446744073709551616 := by
 unfold stir
 show 0 ≤ IntKind.u64.wrap _ ∧ IntKind.u64.wrap _ < _
 rw [IntKind.wrap_u64]
 omega
theorem hash_range : ∀ (n : Nat) (h : Int) (x : MD), 0 ≤ h ∧ h < 18446744073709551616 → 0 ≤ MD.hash n h x ∧ MD.hash n h x < 18446744073709551616
 | 0, _, _, hh => hh
 | n + 1, h, x, _ => by
  have : ∀ (l : List MD) (a : Int), 0 ≤ a ∧ a < 18446744073709551616 → 0 ≤ l.foldl (MD.hash n) a ∧ l.foldl (MD.hash n) a < 18446744073709551616 := fun l => by
   induction l with
   | nil => exact fun a ha => ha
   | cons y l ih => exact fun a ha => ih _ (hash_range n a y ha)
  exact this _ _ (stir_range _ _)
theorem hash_ok (n : Nat) (x : MD) : 0 ≤ MD.hash n seed x ∧ MD.hash n seed x < 18446744073709551616 := hash_range n seed x ⟨by decide, by decide⟩
variable {n : Nat} {w w' : World} {m : Nat} {es A B : List Ent} {e : Ent} {G : KG}
theorem KM.reheld (h : KM n w m (A ++ e :: B) G) {vb : Nat} {v : MD} (hb : Box w n vb v) (hr : MD.right n v = true) :
  KM n (w.setCell ⟨e.b, 1, none⟩ (.pointer (some ⟨vb, 0, none⟩))) m (A ++ { e with vb := vb, v := v } :: B) G ∧ KeepS (KM.own m (A ++ e :: B) G) w (w.setCell ⟨e.b, 1, none⟩ (.pointer (some ⟨vb, 0, none⟩))) := by
 have he : e ∈ A ++ e :: B := by simp
 have hee := h.ent e he
 obtain ⟨cur, c1, c2, c3⟩ := h.heads
 have hk : KeepS (KM.own m (A ++ e :: B) G) w (w.setCell ⟨e.b, 1, none⟩ (.pointer (some ⟨vb, 0, none⟩))) := (KeepS.refl _ w).set _ (fun _ => .inr (.inr (.inr (List.mem_map_of_mem he))))
 have hmap : (A ++ { e with vb := vb, v := v } :: B).map Ent.b = (A ++ e :: B).map Ent.b := by simp
 have hmem : ∀ x, x ∈ A ++ { e with vb := vb, v := v } :: B → (x ∈ A ++ e :: B ∧ x.b ≠ e.b) ∨ x = { e with vb := vb, v := v } := fun x hx => by
  have hnn := (List.nodup_cons.1 h.nod).2
  rw [List.map_append, List.map_cons, List.nodup_append] at hnn
  rcases List.mem_append.1 hx with q | q
  ·exact .inl ⟨List.mem_append.2 (.inl q), fun q' => hnn.2.2 x.b (List.mem_map_of_mem q) e.b (by simp) q'⟩
  ·rcases List.mem_cons.1 q with q | q
   ·exact .inr q
   ·exact .inl ⟨List.mem_append.2 (.inr (List.mem_cons_of_mem _ q)), fun q' => (List.nodup_cons.1 hnn.2.1).1 (q' ▸ List.mem_map_of_mem q)⟩
 have hmem2 : ∀ x, x ∈ A ++ e :: B → ∃ y ∈ A ++ { e with vb := vb, v := v } :: B, y.b = x.b ∧ y.h = x.h := fun x hx => by
  rcases List.mem_append.1 hx with q | q
  ·exact ⟨x, List.mem_append.2 (.inl q), rfl, rfl⟩
  ·rcases List.mem_cons.1 q with q | q
   ·exact ⟨{ e with vb := vb, v := v }, by simp, by rw [q], by rw [q]⟩
   ·exact ⟨x, List.mem_append.2 (.inr (List.mem_cons_of_mem _ q)), rfl, rfl⟩
 have hmem3 : ∀ x, x ∈ A ++ { e with vb := vb, v := v } :: B → ∃ y ∈ A ++ e :: B, y.b = x.b ∧ y.h = x.h := fun x hx => by
  rcases hmem x hx with q | q
  ·exact ⟨x, q.1, rfl, rfl⟩
  ·exact ⟨e, he, by rw [q], by rw [q]⟩
 have hrb : G.rb ≠ e.b := fun q => (List.nodup_cons.1 h.nod).1 (q ▸ List.mem_map_of_mem he)
 refine ⟨⟨?_, h.L1, h.Lc, h.Lm, h.capm, ⟨cur, (heap_setCell_other _ _ _ _ _ (tag_ne c1 hee (by decide))).trans c1, c2, c3⟩, h.ring.other _ hrb, fun x hx => ?_, fun x hx => ?_, by rw [hmap]; exact h.adj, by rw [hmap]; exact h.nod, fun i hi => ⟨(h.chain i hi).1, (h.chain i hi).2.1, fun b => ((h.chain i hi).2.2 b).trans ⟨?_, ?_⟩⟩, ?_, fun x hx => ?_, ?_⟩, hk⟩
 ·have e1 : (A ++ { e with vb := vb, v := v } :: B).length = (A ++ e :: B).length := by simp
  rw [e1]
  exact (heap_setCell_other _ _ _ _ _ (tag_ne h.map hee (by decide))).trans h.map
 ·rcases hmem x hx with q | rfl
  ·exact (h.ent x q.1).other _ q.2
  ·exact row_set hee 1 _
 ·rcases hmem x hx with q | rfl
  ·exact ⟨(h.box x q.1).1.keep hk h.data, (h.box x q.1).2.keep hk h.data⟩
  ·exact ⟨(h.box e he).1.keep hk h.data, hb.keep hk h.data⟩
 ·rintro ⟨x, x1, x2, x3⟩
  obtain ⟨y, y1, y2, y3⟩ := hmem2 x x1
  exact ⟨y, y1, y2.trans x2, by rw [y3]; exact x3⟩
 ·rintro ⟨x, x1, x2, x3⟩
  obtain ⟨y, y1, y2, y3⟩ := hmem3 x x1
  exact ⟨y, y1, y2.trans x2, by rw [y3]; exact x3⟩
 ·have := h.fit
  simp at this ⊢
  exact this
 ·rcases hmem x hx with q | rfl
  ·exact h.key x q.1
  ·obtain ⟨q1, q2, q3, q4, _⟩ := h.key e he
   exact ⟨q1, q2, q3, q4, hr⟩
 ·have := h.apart
  rw [List.pairwise_append, List.pairwise_cons] at this ⊢
  refine ⟨this.1, ⟨this.2.1.1, this.2.1.2⟩, fun a ha b hb => ?_⟩
  rcases List.mem_cons.1 hb with rfl | hb
  ·exact this.2.2 a ha e (by simp)
  ·exact this.2.2 a ha b (by simp [hb])
end Go.Proofs.YtdbijkgnddcneaaGreatDoor
namespace Go.Proofs.YtdbijkgnddcneaaGreatDoor
open Go.RowKit
set_option maxRecDepth 100000
set_option maxHeartbeats 4000000
variable {n : Nat} {w w' : World} {m : Nat} {es A B : List Ent} {e : Ent} {G : KG}
def GetP (n : Nat) (w : World) (es : List Ent) (k : MD) (r : Ending) (w' : World) : Prop :=
 (r = .returned (.tuple #[.agg #[.int .i64 0, .string ⟨#[]⟩, .int .i64 0, .int .u64 0, .string ⟨#[]⟩, .int .i64 0, .int .i64 0, .int .i64 0, .int .i64 0, .slice none 0 0, .slice none 0 0], .bool false, .nilIface]) ∧ (∀ e ∈ es, (MD.eqv n e.k k).1 = false) ∧ Below w.heap.size w w') ∨
 ∃ e ∈ es, (MD.eqv n e.k k).1 = true ∧ ∃ d, r = .returned (.tuple #[d.val, .bool true, .nilIface]) ∧ MD.same n e.v d = true ∧ MD.In w'.heap.size w' n d ∧ Below w.heap.size w w'
theorem get_good (h : KM n w m es G) (hN : NamesAt w) {k : MD} (hk : MD.In w.heap.size w n k) (hr : MD.right n k = true) (hc : (MD.eqv n k k).2 = ⟨#[]⟩) (hE : EqP n k k) (hEs : ∀ e ∈ es, EqP n e.k k) :
  Calls Tryz.prog 58 #[.pointer (some ⟨m, 0, none⟩), k.val] w (GetP n w es k) := by
 have HH : Hid (∀ W, Below w.heap.size w W → Calls Tryz.prog 77 #[k.val] W fun r w' => r = .returned (.tuple #[.int .u64 (MD.hash n seed k), .nilIface]) ∧ Below W.heap.size W w') := fun W hW => Hash_good n k W (hN.kept hW) (hk.later (Nat.le_refl _) hW) hr hc hE
 have HF : Hid (∀ W, Below w.heap.size w W → Calls Tryz.prog 78 #[.pointer (some ⟨m, 0, none⟩), k.val, .int .u64 (MD.hash n seed k)] W fun r w' => FindP n es k r ∧ Below W.heap.size W w') := fun W hW => find_any n W m es G k _ (hash_ok n k).1 (hash_ok n k).2 (hN.kept hW) (h.keep hW) (hk.later (Nat.le_refl _) hW) hr rfl hE hEs
 have H : Hid (KM n w m es G) := h
 clear hk hr hc h
 have HFP : Hid (∀ r, FindP n es k r → (r = .returned (.pointer none) ∧ ∀ e ∈ es, (MD.eqv n e.k k).1 = false) ∨ ∃ e ∈ es, r = .returned (.pointer (some ⟨e.b, 0, none⟩)) ∧ (MD.eqv n e.k k).1 = true) := fun r hr => hr
 generalize MD.hash n seed k = hv at HH HF
 have HQ : Hid (∀ r w', GetP n w es k r w' → GetP n w es k r w') := fun _ _ h => h
 generalize hQ : GetP n w es k = Q at HQ ⊢
 have HQ : Hid (GetP n w es k = Q) := hQ
 clear hQ
 obtain ⟨⟨k0, k1, k2, k3, k4, k5, k6, k7, k8, kp, kpath, kpc⟩, kip, kic, kit⟩ := k
 simp only [MD.val, D] at HH HF ⊢
 go_enter Tryz.func58, Tryz.ntmps58
 go_wp2_with fail
 refine (HH.out _ (below2 _ _ _)).mono ?_
 rintro r w1 ⟨rfl, b1⟩
 obtain ⟨hk1, hd1⟩ := two_kept _ _ _ _ b1
 have q1 : Below w.heap.size w w1 := (below2 _ _ _).trans (b1.mono (by simp; omega))
 have hr1 : w1.heap[w.heap.size + 1]? = some (.cells #[.int .i64 0, .string ⟨#[]⟩, .int .i64 0, .int .u64 0, .string ⟨#[]⟩, .int .i64 0, .int .i64 0, .int .i64 0, .int .i64 0, .slice none 0 0, .slice none 0 0] 32 (0, 0)) := (b1.block _ (by simp)).trans (heap2_1 _ _ _)
 have hz1 : w.heap.size + 1 < w1.heap.size := row_ltT hr1
 clear b1
 go_wp2_with fail
 refine (HF.out _ q1).mono ?_
 rintro r w2 ⟨hP, b2⟩
 have q2 : Below w.heap.size w w2 := q1.trans (b2.mono q1.size)
 have hr2 : w2.heap[w.heap.size + 1]? = some (.cells #[.int .i64 0, .string ⟨#[]⟩, .int .i64 0, .int .u64 0, .string ⟨#[]⟩, .int .i64 0, .int .i64 0, .int .i64 0, .int .i64 0, .slice none 0 0, .slice none 0 0] 32 (0, 0)) := (b2.block _ hz1).trans hr1
 have hz2 : w.heap.size + 1 < w2.heap.size := row_ltT hr2
 have hd2 := fun j => row_at hr2 j
 have hf2 := fun j => fz _ _ _ _ j hr2
 clear hk1 hd1 hr1 b2
 rcases HFP.out r hP with ⟨rfl, hn⟩ | ⟨e, he, rfl, hq⟩
 ·have HN2 : Hid (∀ e ∈ es, (MD.eqv n e.k ⟨⟨k0, k1, k2, k3, k4, k5, k6, k7, k8, kp, kpath, kpc⟩, kip, kic, kit⟩).1 = false) := hn
  clear hP hn
  go_wp2_with fail
  refine bodyPost_ret (v := .tuple #[.agg #[.int .i64 0, .string ⟨#[]⟩, .int .i64 0, .int .u64 0, .string ⟨#[]⟩, .int .i64 0, .int .i64 0, .int .i64 0, .int .i64 0, .slice none 0 0, .slice none 0 0], .bool false, .nilIface]) (by simp [results, Tryz.results58, go_sem, hd2]) rfl ?_
  rw [← HQ.out]
  exact .inl ⟨rfl, HN2.out, bset q2 (Nat.le_succ _) _ _ _ _ _ _ _ _ _ _ _⟩
 ·have hk2 := H.out.keep q2
  have hce := (hk2.ent e he).cell
  have ze := row_ltT (hk2.ent e he)
  have hbx := (hk2.box e he).2
  have hcv : ∀ j, w2.cell? ⟨e.vb, j, none⟩ = e.v.cells[j]? := fun j => row_at hbx.cells j
  have zv := row_ltT hbx.cells
  have HC : Hid (∀ W, Below w2.heap.size w2 W → Calls Tryz.prog 84 #[e.v.val] W (CopyG n e.v W)) := fun W hW => copiedG_any n e.v W (hbx.inn.later (Nat.le_refl _) hW) (right_full (H.out.key e he).2.2.2.2)
  have HE : Hid (e ∈ es ∧ (MD.eqv n e.k ⟨⟨k0, k1, k2, k3, k4, k5, k6, k7, k8, kp, kpath, kpc⟩, kip, kic, kit⟩).1 = true) := ⟨he, hq⟩
  clear hP hq he hk2 hbx
  obtain ⟨eb, ekb, evb, ek, ⟨⟨a0, a1, a2, a3, a4, a5, a6, a7, a8, ap, apath, apc⟩, aip, aic, ait⟩, eh⟩ := e
  simp only [MD.val, MD.cells, D] at hce ze hcv zv HC
  go_wp2_with fail
  refine (HC.out _ (Below.refl _ _)).mono ?_
  rintro r w3 ⟨d', rfl, g1, g2, g3, g4, g5⟩
  have hr3 : w3.heap[w.heap.size + 1]? = some (.cells #[.int .i64 0, .string ⟨#[]⟩, .int .i64 0, .int .u64 0, .string ⟨#[]⟩, .int .i64 0, .int .i64 0, .int .i64 0, .int .i64 0, .slice none 0 0, .slice none 0 0] 32 (0, 0)) := (g4.block _ hz2).trans hr2
  have hz3 : w.heap.size + 1 < w3.heap.size := row_ltT hr3
  have hd3 := fun j => row_at hr3 j
  have hf3 := fun j => fz _ _ _ _ j hr3
  have q3 : Below w.heap.size w w3 := q2.trans (g4.mono q2.size)
  have HD : Hid (MD.In w3.heap.size w3 n d' ∧ MD.Above w2.heap.size n d' ∧ MD.same n (Ent.v ⟨eb, ekb, evb, ek, ⟨⟨a0, a1, a2, a3, a4, a5, a6, a7, a8, ap, apath, apc⟩, aip, aic, ait⟩, eh⟩) d' = true) := ⟨g1, g2, g3⟩
  have HZ : Hid (w.heap.size + 1 < w2.heap.size) := hz2
  clear g1 g2 g3 g4 g5 hr2 hd2 hf2 hz2 hce hcv hr3
  obtain ⟨⟨l0, l1, l2, l3, l4, l5, l6, l7, l8, lp, lpath, lpc⟩, lip, lic, lit⟩ := d'
  simp only [MD.val, D]
  go_wp2_with fail
  refine bodyPost_ret (v := .tuple #[.agg #[.int .i64 l0, .string l1, .int .i64 l2, .int .u64 l3, .string l4, .int .i64 l5, .int .i64 l6, .int .i64 l7, .int .i64 l8, .slice lp lpath.length lpc, .slice lip lit.length lic], .bool true, .nilIface]) (by simp [results, Tryz.results58, go_sem, hd3]) rfl ?_
  rw [← HQ.out]
  refine .inr ⟨_, HE.out.1, HE.out.2, ⟨⟨l0, l1, l2, l3, l4, l5, l6, l7, l8, lp, lpath, lpc⟩, lip, lic, lit⟩, rfl, HD.out.2.2, ?_, bset q3 (Nat.le_succ _) _ _ _ _ _ _ _ _ _ _ _⟩
  exact MD.In.high (lo := w2.heap.size) (eleven_size _ _ _ _ _ _ _ _ _ _ _ _ _) (fun c hc => eleven_only w3 (w.heap.size + 1) c (by have := HZ.out; omega) _ _ _ _ _ _ _ _ _ _ _) n _ HD.out.2.1 HD.out.1
end Go.Proofs.YtdbijkgnddcneaaGreatDoor
namespace Go.Proofs.YtdbijkgnddcneaaGreatDoor
open Go.RowKit
set_option maxRecDepth 100000
set_option maxHeartbeats 4000000
variable {n : Nat} {w w' : World} {m : Nat} {es A B : List Ent} {e : Ent} {G : KG}
def PutP (n : Nat) (w : World) (m : Nat) (es : List Ent) (G : KG) (k v : MD) (r : Ending) (w' : World) : Prop :=
  r = .returned .nilIface ∧ ∃ es' G', KM n w' m es' G' ∧ (∀ b, KM.own m es' G' b → KM.own m es G b ∨ w.heap.size ≤ b) ∧ KeepS (KM.own m es G) w w' ∧
    ((∃ A e B vb v', es = A ++ e :: B ∧ (MD.eqv n e.k k).1 = true ∧ MD.same n v v' = true ∧ es' = A ++ { e with vb := vb, v := v' } :: B) ∨
     ((∀ e ∈ es, (MD.eqv n e.k k).1 = false) ∧ ∃ e, MD.same n k e.k = true ∧ MD.same n v e.v = true ∧ es' = es ++ [e]))
def PutP2 (n : Nat) (w : World) (m : Nat) (es : List Ent) (G : KG) (k v : MD) (r : Ending) (w' : World) : Prop :=
  r = .returned .nilIface ∧ ∃ es' G', KM n w' m es' G' ∧ (∀ b, KM.own m es' G' b → KM.own m es G b ∨ w.heap.size ≤ b) ∧ KeepS (KM.own m es G) w w' ∧
    ((∃ A e B vb v', es = A ++ e :: B ∧ (MD.eqv n e.k k).1 = true ∧ MD.same n v v' = true ∧ MD.Above w.heap.size n v' ∧ es' = A ++ { e with vb := vb, v := v' } :: B) ∨
     ((∀ e ∈ es, (MD.eqv n e.k k).1 = false) ∧ ∃ e, MD.same n k e.k = true ∧ MD.same n v e.v = true ∧ MD.Above w.heap.size n e.k ∧ MD.Above w.heap.size n e.v ∧ es' = es ++ [e]))
theorem put_good2 (h : KM n w m es G) (hN : NamesAt w) {k v : MD} (hk : MD.In w.heap.size w n k) (hv : MD.In w.heap.size w n v) (hr : MD.right n k = true) (hc : (MD.eqv n k k).2 = ⟨#[]⟩) (hrv : MD.right n v = true) (hE : EqP n k k) (hEs : ∀ e ∈ es, EqP n e.k k) (hng : es.length + 1 ≤ 8 * G.L) :
    Calls Tryz.prog 56 #[.pointer (some ⟨m, 0, none⟩), k.val, v.val] w (PutP2 n w m es G k v) := by
  have HNG : Hid _ := hng
  clear hng
  have HR : Hid (∀ W, Below w.heap.size w W → Calls Tryz.prog 39 #[v.val] W fun r w' => r = .returned (.bool true) ∧ Below W.heap.size W w') := fun W hW => by
    have := Right_any n v W (hN.kept hW) (hv.later (Nat.le_refl _) hW)
    rw [hrv] at this
    exact this
  have HH : Hid (∀ W, Below w.heap.size w W → Calls Tryz.prog 77 #[k.val] W fun r w' => r = .returned (.tuple #[.int .u64 (MD.hash n seed k), .nilIface]) ∧ Below W.heap.size W w') := fun W hW => Hash_good n k W (hN.kept hW) (hk.later (Nat.le_refl _) hW) hr hc hE
  have HF : Hid (∀ W, Below w.heap.size w W → Calls Tryz.prog 78 #[.pointer (some ⟨m, 0, none⟩), k.val, .int .u64 (MD.hash n seed k)] W fun r w' => FindP n es k r ∧ Below W.heap.size W w') := fun W hW => find_any n W m es G k _ (hash_ok n k).1 (hash_ok n k).2 (hN.kept hW) (h.keep hW) (hk.later (Nat.le_refl _) hW) hr rfl hE hEs
  have HOK : Hid (∀ W, Below w.heap.size w W → Calls Tryz.prog 79 #[k.val] W (OwnP n k W)) := fun W hW => own_any n k W (hk.later (Nat.le_refl _) hW) (right_full hr)
  have HOV : Hid (∀ W, Below w.heap.size w W → Calls Tryz.prog 79 #[v.val] W (OwnP n v W)) := fun W hW => own_any n v W (hv.later (Nat.le_refl _) hW) (right_full hrv)
  have H : Hid (KM n w m es G) := h
  have HFP : Hid (∀ r, FindP n es k r → (r = .returned (.pointer none) ∧ ∀ e ∈ es, (MD.eqv n e.k k).1 = false) ∨ ∃ e ∈ es, r = .returned (.pointer (some ⟨e.b, 0, none⟩)) ∧ (MD.eqv n e.k k).1 = true) := fun r hr => hr
  have HKV : Hid (MD.right n k = true ∧ (MD.eqv n k k).2 = ⟨#[]⟩ ∧ MD.right n v = true) := ⟨hr, hc, hrv⟩
  obtain ⟨hvv, hhv⟩ : ∃ x, x = MD.hash n seed k := ⟨_, rfl⟩
  have HHV : Hid (hvv = MD.hash n seed k) := hhv
  rw [← hhv] at HH HF
  clear hk hr hc h hv hrv hhv
  generalize hQ : PutP2 n w m es G k v = Q
  have HQ : Hid (PutP2 n w m es G k v = Q) := hQ
  clear hQ
  obtain ⟨⟨k0, k1, k2, k3, k4, k5, k6, k7, k8, kp, kpath, kpc⟩, kip, kic, kit⟩ := k
  obtain ⟨⟨v0, v1, v2, v3, v4, v5, v6, v7, v8, vp, vpath, vpc⟩, vip, vic, vit⟩ := v
  simp only [MD.val, D] at HR HH HF HOK HOV ⊢
  go_enter Tryz.func56, Tryz.ntmps56
  go_wp2_with fail
  refine (HR.out _ (below2 _ _ _)).mono ?_
  rintro r w1 ⟨rfl, b1⟩
  obtain ⟨hk1, hv1⟩ := two_kept _ _ _ _ b1
  have q1 : Below w.heap.size w w1 := (below2 _ _ _).trans (b1.mono (by simp; omega))
  have hz1 : w.heap.size + 1 < w1.heap.size := by have := b1.size; simp at this; omega
  clear b1 HR
  go_wp2_with fail
  refine (HH.out _ q1).mono ?_
  rintro r w2 ⟨rfl, b2⟩
  have hk2 := fun j => (b2.cell (p := ⟨w.heap.size, j, none⟩) (by show w.heap.size < _; omega)).trans (hk1 j)
  have hv2 := fun j => (b2.cell (p := ⟨w.heap.size + 1, j, none⟩) hz1).trans (hv1 j)
  have q2 : Below w.heap.size w w2 := q1.trans (b2.mono q1.size)
  have hz2 : w.heap.size + 1 < w2.heap.size := Nat.lt_of_lt_of_le hz1 b2.size
  clear hk1 hv1 hz1 q1 b2 HH
  go_wp2_with fail
  refine (HF.out _ q2).mono ?_
  rintro r w3 ⟨hP, b3⟩
  have hk3 := fun j => (b3.cell (p := ⟨w.heap.size, j, none⟩) (by show w.heap.size < _; omega)).trans (hk2 j)
  have hv3 := fun j => (b3.cell (p := ⟨w.heap.size + 1, j, none⟩) hz2).trans (hv2 j)
  have q3 : Below w.heap.size w w3 := q2.trans (b3.mono q2.size)
  have hz3 : w.heap.size + 1 < w3.heap.size := Nat.lt_of_lt_of_le hz2 b3.size
  have hP' := HFP.out r hP
  clear hk2 hv2 hz2 q2 b3 HF HFP hP
  rcases hP' with ⟨rfl, hn⟩ | ⟨e, he, rfl, hq⟩
  · have HN3 : Hid (∀ e ∈ es, (MD.eqv n e.k ⟨⟨k0, k1, k2, k3, k4, k5, k6, k7, k8, kp, kpath, kpc⟩, kip, kic, kit⟩).1 = false) := hn
    clear hn
    go_wp2_with fail
    refine rg (S := fun W => (∀ j, W.cell? ⟨w.heap.size, j, none⟩ = (#[.int .i64 k0, .string k1, .int .i64 k2, .int .u64 k3, .string k4, .int .i64 k5, .int .i64 k6, .int .i64 k7, .int .i64 k8, .slice kp kpath.length kpc, .slice kip kit.length kic] : Array Value)[j]?) ∧ ∀ j, W.cell? ⟨w.heap.size + 1, j, none⟩ = (#[.int .i64 v0, .string v1, .int .i64 v2, .int .u64 v3, .string v4, .int .i64 v5, .int .i64 v6, .int .i64 v7, .int .i64 v8, .slice vp vpath.length vpc, .slice vip vit.length vic] : Array Value)[j]?) (fun V0 hB4 HV0 => ?_)
    have hS : (∀ j, V0.cell? ⟨w.heap.size, j, none⟩ = (#[.int .i64 k0, .string k1, .int .i64 k2, .int .u64 k3, .string k4, .int .i64 k5, .int .i64 k6, .int .i64 k7, .int .i64 k8, .slice kp kpath.length kpc, .slice kip kit.length kic] : Array Value)[j]?) ∧ ∀ j, V0.cell? ⟨w.heap.size + 1, j, none⟩ = (#[.int .i64 v0, .string v1, .int .i64 v2, .int .u64 v3, .string v4, .int .i64 v5, .int .i64 v6, .int .i64 v7, .int .i64 v8, .slice vp vpath.length vpc, .slice vip vit.length vic] : Array Value)[j]? := ⟨fun j => (hB4.cell (p := ⟨w.heap.size, j, none⟩) (by show w.heap.size < _; omega)).trans (hk3 j), fun j => (hB4.cell (p := ⟨w.heap.size + 1, j, none⟩) hz3).trans (hv3 j)⟩
    refine tq 0 (.pointer (some ⟨m, 0, none⟩)) rfl hS ?_
    simp only [sa, sb, Act.put, sd, se, sf]
    refine tk 1 (.agg #[.int .i64 k0, .string k1, .int .i64 k2, .int .u64 k3, .string k4, .int .i64 k5, .int .i64 k6, .int .i64 k7, .int .i64 k8, .slice kp kpath.length kpc, .slice kip kit.length kic]) rfl (.inl ⟨by rfl, ?r⟩) hS ?_
    case r => intro W hW; simp [go_sem, execOp, Act.eval, hW.1]
    simp only [sa, sb, sc, Act.put, sd, se, sf]
    refine tk 3 (.agg #[.int .i64 v0, .string v1, .int .i64 v2, .int .u64 v3, .string v4, .int .i64 v5, .int .i64 v6, .int .i64 v7, .int .i64 v8, .slice vp vpath.length vpc, .slice vip vit.length vic]) rfl (.inl ⟨by rfl, ?r⟩) hS ?_
    case r => intro W hW; simp [go_sem, execOp, Act.eval, hW.2]
    simp only [sa, sb, sc, Act.put, sd, se, sf]
    refine tq 6 (.int .u64 hvv) rfl hS ?_
    simp only [sa, sb, sc, Act.put, sd, se, sf]
    have q0 : Below w.heap.size w V0 := q3.trans (hB4.mono q3.size)
    have z0 : w.heap.size + 1 < V0.heap.size := Nat.lt_of_lt_of_le hz3 hB4.size
    clear hk3 hv3 hz3 HV0
    refine one 2 rfl (fun K hK => ?_)
    simp only [sa, sb, sc]
    go_simp
    refine (HOK.out _ q0).mono ?_
    rintro r w4 ⟨kb, k', rfl, hkb, kbox, ksame, b4, kab⟩
    have q4 : Below w.heap.size w w4 := q0.trans (b4.mono q0.size)
    have z4 : w.heap.size + 1 < w4.heap.size := Nat.lt_of_lt_of_le z0 b4.size
    go_simp
    have hSw4 : (∀ j, w4.cell? ⟨w.heap.size, j, none⟩ = (#[.int .i64 k0, .string k1, .int .i64 k2, .int .u64 k3, .string k4, .int .i64 k5, .int .i64 k6, .int .i64 k7, .int .i64 k8, .slice kp kpath.length kpc, .slice kip kit.length kic] : Array Value)[j]?) ∧ ∀ j, w4.cell? ⟨w.heap.size + 1, j, none⟩ = (#[.int .i64 v0, .string v1, .int .i64 v2, .int .u64 v3, .string v4, .int .i64 v5, .int .i64 v6, .int .i64 v7, .int .i64 v8, .slice vp vpath.length vpc, .slice vip vit.length vic] : Array Value)[j]? := ⟨fun j => (b4.cell (p := ⟨w.heap.size, j, none⟩) (by show w.heap.size < _; omega)).trans (hS.1 j), fun j => (b4.cell (p := ⟨w.heap.size + 1, j, none⟩) (by show w.heap.size + 1 < _; omega)).trans (hS.2 j)⟩
    refine hK _ _ ⟨hSw4, ?_⟩
    clear hK K hS
    have hS := hSw4
    clear hSw4
    try simp only [Act.put, sd, se, sf]
    refine one 4 rfl (fun K hK => ?_)
    simp only [sa, sb, sc]
    go_simp
    refine (HOV.out _ q4).mono ?_
    rintro r w5 ⟨vb, v', rfl, hvb, vbox, vsame, b5, vab⟩
    have q5 : Below w.heap.size w w5 := q4.trans (b5.mono q4.size)
    have z5 : w.heap.size + 1 < w5.heap.size := Nat.lt_of_lt_of_le z4 b5.size
    have kbox5 : Box w5 n kb k' := kbox.keep (Below.keepS (fun _ => False) b5) (fun _ _ _ _ _ h => h)
    go_simp
    have hSw5 : (∀ j, w5.cell? ⟨w.heap.size, j, none⟩ = (#[.int .i64 k0, .string k1, .int .i64 k2, .int .u64 k3, .string k4, .int .i64 k5, .int .i64 k6, .int .i64 k7, .int .i64 k8, .slice kp kpath.length kpc, .slice kip kit.length kic] : Array Value)[j]?) ∧ ∀ j, w5.cell? ⟨w.heap.size + 1, j, none⟩ = (#[.int .i64 v0, .string v1, .int .i64 v2, .int .u64 v3, .string v4, .int .i64 v5, .int .i64 v6, .int .i64 v7, .int .i64 v8, .slice vp vpath.length vpc, .slice vip vit.length vic] : Array Value)[j]? := ⟨fun j => (b5.cell (p := ⟨w.heap.size, j, none⟩) (by show w.heap.size < _; omega)).trans (hS.1 j), fun j => (b5.cell (p := ⟨w.heap.size + 1, j, none⟩) (by show w.heap.size + 1 < _; omega)).trans (hS.2 j)⟩
    refine hK _ _ ⟨hSw5, ?_⟩
    clear hK K hS
    have hS := hSw5
    clear hSw5
    try simp only [Act.put, sd, se, sf]
    refine tq 5 (.agg #[.pointer (some ⟨kb, 0, none⟩), .pointer (some ⟨vb, 0, none⟩)]) rfl hS ?_
    simp only [sa, sb, sc, Act.put, sd, se, sf]
    refine tq 7 (.agg #[.pointer (some ⟨kb, 0, none⟩), .pointer (some ⟨vb, 0, none⟩), .int .u64 hvv, .pointer none, .pointer none, .pointer none, .bool false]) rfl hS ?_
    simp only [sa, sb, sc, Act.put, sd, se, sf]
    have HKX : Hid (Box w5 n kb k' ∧ Box w5 n vb v' ∧ MD.same n ⟨⟨k0, k1, k2, k3, k4, k5, k6, k7, k8, kp, kpath, kpc⟩, kip, kic, kit⟩ k' = true ∧ MD.same n ⟨⟨v0, v1, v2, v3, v4, v5, v6, v7, v8, vp, vpath, vpc⟩, vip, vic, vit⟩ v' = true ∧ w.heap.size ≤ w5.heap.size) := ⟨kbox5, vbox, ksame, vsame, q5.size⟩
    have HAB : Hid (MD.Above w.heap.size n k' ∧ MD.Above w.heap.size n v') := ⟨MD.Above.mono q0.size n _ kab, MD.Above.mono q4.size n _ vab⟩
    clear kab vab kbox kbox5 vbox ksame vsame hkb hvb b4 b5 q4 z4 hB4 q0 z0
    refine one 8 rfl (fun K hK => ?_)
    simp only [sa, sb, sc]
    go_simp
    obtain ⟨w6, hw6⟩ : ∃ w6, w6 = w5.alloc (.cells #[.pointer (some ⟨kb, 0, none⟩), .pointer (some ⟨vb, 0, none⟩), .int .u64 hvv, .pointer none, .pointer none, .pointer none, .bool false] 159) := ⟨_, rfl⟩
    have b6 : Below w5.heap.size w5 w6 := by rw [hw6]; exact below1 _ _
    have h6 : w6.heap[w5.heap.size]? = some (.cells #[.pointer (some ⟨kb, 0, none⟩), .pointer (some ⟨vb, 0, none⟩), .int .u64 hvv, .pointer none, .pointer none, .pointer none, .bool false] 159 (0, 0)) := by rw [hw6]; exact heap_alloc_new _ _
    rw [← hw6]
    clear hw6
    have q6 : Below w.heap.size w w6 := q5.trans (b6.mono q5.size)
    have z6 : w.heap.size + 1 < w6.heap.size := Nat.lt_of_lt_of_le z5 b6.size
    have hSw6 : (∀ j, w6.cell? ⟨w.heap.size, j, none⟩ = (#[.int .i64 k0, .string k1, .int .i64 k2, .int .u64 k3, .string k4, .int .i64 k5, .int .i64 k6, .int .i64 k7, .int .i64 k8, .slice kp kpath.length kpc, .slice kip kit.length kic] : Array Value)[j]?) ∧ ∀ j, w6.cell? ⟨w.heap.size + 1, j, none⟩ = (#[.int .i64 v0, .string v1, .int .i64 v2, .int .u64 v3, .string v4, .int .i64 v5, .int .i64 v6, .int .i64 v7, .int .i64 v8, .slice vp vpath.length vpc, .slice vip vit.length vic] : Array Value)[j]? := ⟨fun j => (b6.cell (p := ⟨w.heap.size, j, none⟩) (by show w.heap.size < _; omega)).trans (hS.1 j), fun j => (b6.cell (p := ⟨w.heap.size + 1, j, none⟩) (by show w.heap.size + 1 < _; omega)).trans (hS.2 j)⟩
    refine hK _ _ ⟨hSw6, ?_⟩
    clear hK K hS
    have hS := hSw6
    clear hSw6
    try simp only [Act.put, sd, se, sf]
    have HLY : Hid (Calls Tryz.prog 80 #[.pointer (some ⟨m, 0, none⟩), .pointer (some ⟨w5.heap.size, 0, none⟩)] w6 (LayP n w6 m es G ⟨w5.heap.size, kb, vb, k', v', hvv⟩)) := by
      have hkm := H.out.keep q6
      have hsz : ∀ {b : Nat} {o : Obj}, w.heap[b]? = some o → b ≠ w5.heap.size := fun hb q => by
        have := row_ltT hb
        have := HKX.out.2.2.2.2
        omega
      refine lay_any hkm ⟨h6, ⟨HKX.out.1.keep (Below.keepS (fun _ => False) b6) (fun _ _ _ _ _ h => h), HKX.out.2.1.keep (Below.keepS (fun _ => False) b6) (fun _ _ _ _ _ h => h)⟩, ?_, fun x hx => ?_, (hsz H.out.ring).symm, fun q => ?_⟩ HNG.out
      · refine ⟨by rw [← same_right n _ _ HKX.out.2.2.1]; exact HKV.out.1, by rw [← same_eqv n _ _ _ _ HKX.out.2.2.1 HKX.out.2.2.1]; exact HKV.out.2.1, ?_, ?_, by rw [← same_right n _ _ HKX.out.2.2.2.1]; exact HKV.out.2.2⟩
        · show hvv = _
          rw [HHV.out]
          exact same_hash n seed _ _ HKX.out.2.2.1
        · show 0 ≤ hvv ∧ hvv < _
          rw [HHV.out]
          exact hash_ok n _
      · show (MD.eqv n x.k k').1 = false
        rw [← same_eqv n _ _ _ _ (same_self n x.k) HKX.out.2.2.1]
        exact HN3.out x hx
      · obtain ⟨x, hx, hxb⟩ := List.mem_map.1 q
        exact hsz (H.out.ent x hx) hxb
    refine one 9 rfl (fun K hK => ?_)
    simp only [sa, sb, sc]
    go_simp
    refine HLY.out.mono ?_
    rintro r w7 ⟨rfl, G7, km7, o7, s7⟩
    have HS7 : Hid (KeepS (fun b => KM.own m es G b ∨ b = w5.heap.size) w6 w7) := s7
    have H7 : Hid (KM n w7 m (es ++ [⟨w5.heap.size, kb, vb, k', v', hvv⟩]) G7 ∧ (∀ b, KM.own m (es ++ [⟨w5.heap.size, kb, vb, k', v', hvv⟩]) G7 b → KM.own m es G b ∨ b = w5.heap.size ∨ w6.heap.size ≤ b)) := ⟨km7, o7⟩
    go_simp
    have hno : ∀ b, (b = w.heap.size ∨ b = w.heap.size + 1) → ¬ (KM.own m es G b ∨ b = w5.heap.size) := fun b hb ho => by
      rcases ho with ho | ho
      · obtain ⟨c, t, hc, _⟩ := H.out.tag ho
        have := row_ltT hc
        omega
      · omega
    have hS7 : (∀ j, w7.cell? ⟨w.heap.size, j, none⟩ = (#[.int .i64 k0, .string k1, .int .i64 k2, .int .u64 k3, .string k4, .int .i64 k5, .int .i64 k6, .int .i64 k7, .int .i64 k8, .slice kp kpath.length kpc, .slice kip kit.length kic] : Array Value)[j]?) ∧ ∀ j, w7.cell? ⟨w.heap.size + 1, j, none⟩ = (#[.int .i64 v0, .string v1, .int .i64 v2, .int .u64 v3, .string v4, .int .i64 v5, .int .i64 v6, .int .i64 v7, .int .i64 v8, .slice vp vpath.length vpc, .slice vip vit.length vic] : Array Value)[j]? := ⟨fun j => (World.cell?_of_block (a := ⟨w.heap.size, j, none⟩) (s7.block w.heap.size (by omega) (hno _ (.inl rfl)))).trans (hS.1 j), fun j => (World.cell?_of_block (a := ⟨w.heap.size + 1, j, none⟩) (s7.block (w.heap.size + 1) (by omega) (hno _ (.inr rfl)))).trans (hS.2 j)⟩
    refine hK _ _ ⟨hS7, ?_⟩
    clear hK K hS hS7 s7 km7 o7
    refine dn ?_
    try simp only [Act.put]
    go_wp2_with fail
    show Q (.returned .nilIface) _
    rw [← HQ.out]
    have hsz5 := HKX.out.2.2.2.2
    refine ⟨rfl, _, G7, H7.out.1, fun b hb => ?_, ?_, .inr ⟨HN3.out, _, HKX.out.2.2.1, HKX.out.2.2.2.1, HAB.out.1, HAB.out.2, rfl⟩⟩
    · rcases H7.out.2 b hb with h | h | h
      · exact .inl h
      · exact .inr (by omega)
      · exact .inr (by omega)
    · refine ((Below.keepS (fun b => KM.own m es G b ∨ b = w5.heap.size) q6).trans HS7.out).mono fun b hb hh => ?_
      rcases hh with hh | hh
      · exact hh
      · omega
  · obtain ⟨A, B, hAB⟩ := List.append_of_mem he
    have HE : Hid ((MD.eqv n e.k ⟨⟨k0, k1, k2, k3, k4, k5, k6, k7, k8, kp, kpath, kpc⟩, kip, kic, kit⟩).1 = true ∧ es = A ++ e :: B) := ⟨hq, hAB⟩
    have hk4 := H.out.keep q3
    have hce := (hk4.ent e he).cell
    have ze := row_ltT (hk4.ent e he)
    have hfe := fun j => fz _ _ _ _ j (hk4.ent e he)
    clear hq hAB hk4 he
    go_wp2_with fail
    refine (HOV.out _ q3).mono ?_
    rintro r w4 ⟨vb, v', rfl, hvb, hbox, hsame, b4, hab⟩
    have hce4 := fun j => (b4.cell (p := ⟨e.b, j, none⟩) ze).trans (hce j)
    have hfe4 := fun j => (World.frozen?_of_block (a := ⟨e.b, j, none⟩) (b4.block _ ze)).trans (hfe j)
    have ze4 : e.b < w4.heap.size := Nat.lt_of_lt_of_le ze b4.size
    have q4 : Below w.heap.size w w4 := q3.trans (b4.mono q3.size)
    have HX : Hid (Box w4 n vb v' ∧ MD.same n ⟨⟨v0, v1, v2, v3, v4, v5, v6, v7, v8, vp, vpath, vpc⟩, vip, vic, vit⟩ v' = true ∧ MD.Above w.heap.size n v') := ⟨hbox, hsame, MD.Above.mono q3.size n _ hab⟩
    clear hce hfe ze hk3 hv3 hz3 hbox hsame b4 q3 hvb hab
    go_wp2_with fail
    show Q (.returned .nilIface) _
    rw [← HQ.out]
    have hk5 := H.out.keep q4
    rw [HE.out.2] at hk5
    obtain ⟨g1, g2⟩ := hk5.reheld HX.out.1 (by rw [← same_right n _ _ HX.out.2.1]; exact HKV.out.2.2)
    refine ⟨rfl, _, G, g1, fun b hb => .inl ?_, ?_, .inl ⟨A, e, B, vb, v', HE.out.2, HE.out.1, HX.out.2.1, HX.out.2.2, rfl⟩⟩
    · rw [HE.out.2]
      rcases hb with hb | hb | hb | hb
      · exact .inl hb
      · exact .inr (.inl hb)
      · exact .inr (.inr (.inl hb))
      · refine .inr (.inr (.inr ?_))
        simpa using hb
    · rw [HE.out.2]
      exact (Below.keepS _ q4).trans g2
theorem put_good (h : KM n w m es G) (hN : NamesAt w) {k v : MD} (hk : MD.In w.heap.size w n k) (hv : MD.In w.heap.size w n v) (hr : MD.right n k = true) (hc : (MD.eqv n k k).2 = ⟨#[]⟩) (hrv : MD.right n v = true) (hE : EqP n k k) (hEs : ∀ e ∈ es, EqP n e.k k) (hng : es.length + 1 ≤ 8 * G.L) :
    Calls Tryz.prog 56 #[.pointer (some ⟨m, 0, none⟩), k.val, v.val] w (PutP n w m es G k v) :=
  (put_good2 h hN hk hv hr hc hrv hE hEs hng).mono fun _ _ ⟨h1, es', G', h2, h3, h4, h5⟩ => ⟨h1, es', G', h2, h3, h4, by
    rcases h5 with ⟨A, e, B, vb, v', q1, q2, q3, _, q5⟩ | ⟨q1, e, q2, q3, _, _, q4⟩
    · exact .inl ⟨A, e, B, vb, v', q1, q2, q3, q5⟩
    · exact .inr ⟨q1, e, q2, q3, q4⟩⟩
end Go.Proofs.YtdbijkgnddcneaaGreatDoor
