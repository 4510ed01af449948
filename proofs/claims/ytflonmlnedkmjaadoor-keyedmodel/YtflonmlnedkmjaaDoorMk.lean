/-
  The iterator entries: it gives what stands in the ring, in its order.
-/
import Derived.Test.YtflonmlnedkmjaaDoorMj
import Derived.Test.YtflonmlnedkmjaaDoorMhJ
import Derived.LaidEqlPtr
import Derived.Lib.Builder
import Derived.Shelf.Abstract
import Derived.Shelf.RegionOpen
import Derived.WalkKit
import Derived.OwnWalkIn
import Derived.TacticsInMore
import Derived.LoopNIn
import Derived.LoopIn
import Derived.Sort.LoopGhostIn
namespace Go.Proofs.YtflonmlnedkmjaaDoor
open Go.RowKit Go.Shelf
attribute [local go_sem] Oper.semAt_some

/-- A block of cells. -/
def IsC (w : World) (a : Nat) : Prop := ∃ c t, w.heap[a]? = some (.cells c t (0, 0))
theorem info62 : (Tryd.prog.info? 62).map (fun i => i.size) = some 7 := by kernel_rfl
theorem infoE : ∃ j, Tryd.prog.info? 62 = some j ∧ j.size ≠ 0 := by
  have h := info62
  cases hj : Tryd.prog.info? 62 with
  | none => rw [hj] at h; cases h
  | some j => rw [hj] at h; simp at h; exact ⟨j, rfl, by omega⟩
theorem neq_same (w : World) (a : Nat) : (binOp .neq 57 (.pointer (some ⟨a, 0, none⟩)) (.pointer (some ⟨a, 0, none⟩))).run Tryd.prog w = .ok (.bool false) w := by
  obtain ⟨j, hj, _⟩ := infoE
  exact Lib.run_neq_ptr_same w _ Tryd.underlying57 hj
theorem neq_other {w : World} {a b : Nat} (hne : a ≠ b) (ha : IsC w a) (hb : IsC w b) : (binOp .neq 57 (.pointer (some ⟨a, 0, none⟩)) (.pointer (some ⟨b, 0, none⟩))).run Tryd.prog w = .ok (.bool true) w := by
  obtain ⟨j, hj, hs⟩ := infoE
  obtain ⟨ca, ta, ha⟩ := ha
  obtain ⟨cb, tb, hb⟩ := hb
  have h : ∀ d : Nat, (Op.equalIn (d + 1) 57 (.pointer (some ⟨a, 0, none⟩)) (.pointer (some ⟨b, 0, none⟩))).run Tryd.prog w = .ok false w := fun d => by
    simp [Op.equalIn, run_underlying Tryd.underlying57, sizeOf, typeInfo, hj, hs, run_sameAddr_other w (a := ⟨a, 0, none⟩) (b := ⟨b, 0, none⟩) (fun q => hne (congrArg Addr.block q)) ha hb]
  simp only [binOp]
  simp [Op.equal, Op.maxDepth, h 9999]
attribute [local go_sem] neq_same neq_other

/-- What the iterator reads of a ring. -/
structure RingR (m rb : Nat) (bs : List Nat) (bh : Nat → Nat) (W : World) : Prop where
  map : W.cell? ⟨m, 1, none⟩ = some (.pointer (some ⟨rb, 0, none⟩))
  mz : m < W.heap.size
  cell : ∀ x ∈ rb :: bs, W.cell? ⟨x, 5, none⟩ = some (.pointer (some ⟨bh x, 0, none⟩)) ∧ x < W.heap.size ∧ IsC W x

/-- What comes next. -/
def nextB (rb : Nat) : List Nat → Nat
  | [] => rb
  | x :: _ => x
theorem Adj.next {bf bh : Nat → Nat} {rb x : Nat} : ∀ (s r : List Nat), Adj bf bh (s ++ x :: (r ++ [rb])) → bh x = nextB rb r
  | [], [], h => h.1
  | [], _ :: _, h => h.1
  | [_], r, h => by
    have h2 : Adj bf bh (x :: (r ++ [rb])) := h.2.2
    exact Adj.next [] r h2
  | _ :: z :: s, r, h => Adj.next (z :: s) r h.2.2

set_option maxRecDepth 100000 in
set_option maxHeartbeats 2000000 in
theorem entries_seq (n : Nat) (hn : 1 ≤ n) (m rb : Nat) (bs : List Nat) (bf bh : Nat → Nat) (hadj : Adj bf bh (rb :: bs ++ [rb])) (hnod : (rb :: bs).Nodup) :
    SeqR Fence.wide n Tryd.prog 40 #[.pointer (some ⟨m, 0, none⟩)] #[] (fun x : Nat => #[.pointer (some ⟨x, 0, none⟩)]) (RingR m rb bs bh) bs := by
  intro l J W hR hY h0
  have r0 := hR _ _ h0
  have hm0 := r0.map
  have hmz := r0.mz
  obtain ⟨hc0, hz0, _⟩ := r0.cell rb (by simp)
  have hb0 : bh rb = nextB rb bs := Adj.next [] bs hadj
  rw [hb0] at hc0
  clear r0 hb0
  obtain ⟨f0, hf0⟩ : ∃ f0, nextB rb bs = f0 := ⟨_, rfl⟩
  rw [hf0] at hc0
  have HF : Hid (nextB rb bs = f0) := hf0
  clear hf0
  refine callsIn_of_wp Tryd.func40 rfl trivial ?_ rfl
  simp only [Tryd.ntmps40, List.size_toArray, List.length_cons, List.length_nil, Nat.reduceAdd, Nat.reduceSub, Array.replicate_succ, Array.replicate_zero, List.push_toArray, List.append_toArray, List.nil_append, List.cons_append]
  gi_wp2
  clear hm0 hmz hc0 hz0
  gi_loopg [4] bs.length (fun gk p wr => ∃ (s r : List Nat) (f : Nat), s ++ r = bs ∧ p = .pointer (some ⟨f, 0, none⟩) ∧ gk = r.length ∧ J s wr ∧ Hid (nextB rb r = f))
  case atStart => exact ⟨[], bs, f0, rfl, rfl, rfl, h0, HF⟩
  case round =>
    obtain ⟨s, r, f, hsr, rfl, hgk, hJ, HFr⟩ := hrel
    have rr := hR _ _ hJ
    have hm1 := rr.map
    have hmz := rr.mz
    cases r with
    | nil =>
      obtain rfl : rb = f := HFr.out
      gi_wp2
      go_end0
      rw [List.append_nil] at hsr
      subst hsr
      exact ⟨⟨_, rfl⟩, hJ⟩
    | cons x r =>
      obtain rfl : x = f := HFr.out
      obtain ⟨f1, hf1⟩ : ∃ f1, nextB rb r = f1 := ⟨_, rfl⟩
      have hx : x ∈ bs := by rw [← hsr]; simp
      have ix := (rr.cell x (by simp [hx])).2.2
      have ir := (rr.cell rb (by simp)).2.2
      have hne : x ≠ rb := fun e => by subst e; exact (List.nodup_cons.1 hnod).1 hx
      have HN : Hid (bh x = f1) := by
        show _ = _
        rw [← hf1]
        refine Adj.next (bf := bf) (rb :: s) r ?_
        have e : rb :: bs ++ [rb] = (rb :: s) ++ x :: (r ++ [rb]) := by rw [← hsr]; simp
        rw [← e]
        exact hadj
      obtain ⟨fn, tmps, assign, body, hy, hRy⟩ := hY s x wr (by rw [← hsr]; exact ⟨r, by simp⟩) hJ
      have HR : Hid (∀ W, J (s ++ [x]) W → W.cell? ⟨x, 5, none⟩ = some (.pointer (some ⟨f1, 0, none⟩)) ∧ x < W.heap.size) := fun W hJW => by
        have := (hR _ _ hJW).cell x (by simp [hx])
        rw [HN.out] at this
        exact ⟨this.1, this.2.1⟩
      have HF1 : Hid (nextB rb r = f1) := hf1
      have HS : Hid ((s ++ [x]) ++ r = bs ∧ r.length < gk) := ⟨by rw [← hsr]; simp, by rw [hgk]; simp⟩
      clear rr hJ hR hY hsr hgk hf1
      gi_wp2
      refine hRy.mono ?_
      rintro e W3 ⟨rfl, hJ3⟩
      clear hy hRy
      obtain ⟨hc3, hz3⟩ := HR.out W3 hJ3
      gi_wp2
      gi_roundg r.length
      case measure => exact HS.out.2
      case rel => exact ⟨s ++ [x], r, f1, HS.out.1, rfl, rfl, hJ3, HF1⟩
end Go.Proofs.YtflonmlnedkmjaaDoor
