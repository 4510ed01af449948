/-
  How wide a datum is: the law's own count.
  Data in new memory: what lies at or above a block is left alone by what is done with that block.
  The document's copy of a datum.
  The document's copy of a datum that has Items.
  What is appended to none: none, or a new row.
  The hash of any right datum.
  value's copy of any right datum.
  Key, at any datum.
-/
import Derived.Test.YtnhbpcmiolkllaaDoorEd
import Derived.Test.YtnhbpcmiolkllaaDoorSb
import Derived.Test.YtnhbpcmiolkllaaDoorRa
import Derived.Deep.MidRow
import Derived.Deep.Upon
import Derived.Laws.MakeOwn
import Derived.WalkSpells
import Derived.OwnWalk
import Derived.Test.YtnhbpcmiolkllaaDoorL
import Derived.Test.YtnhbpcmiolkllaaDoorQb
import Derived.Test.YtnhbpcmiolkllaaDoorFe2
import Derived.Laws.BytesArg
import Derived.Test.YtnhbpcmiolkllaaDoorI
import Derived.Test.YtnhbpcmiolkllaaDoorFb2
namespace Go.Proofs.YtnhbpcmiolkllaaDoor
open Go.RowKit
attribute [local go_sem] refold2 cell3_0 cell3_1 b28_0 b28_01

/-- No text, path or list of a datum is longer than R. -/
def MD.Small (R : Nat) : Nat → MD → Prop
  | 0, _ => True
  | n + 1, d => d.h.t.size ≤ R ∧ d.h.s.size ≤ R ∧ d.h.path.length ≤ R ∧ d.items.length ≤ R ∧ ∀ x ∈ d.items, MD.Small R n x
/-- A datum's count. -/
def MD.wd : Nat → MD → Nat
  | 0, _ => 1
  | n + 1, d => 1 + d.h.path.length + (d.items.map (MD.wd n)).sum
theorem MD.wd_pos (n : Nat) (d : MD) : 1 ≤ MD.wd n d := by cases n <;> simp [MD.wd]; omega

/-- What wide answers: the count, if it is at most the most; else more than that. -/
def WideP (z : Nat) (most : Int) (w : World) (r : Ending) (w' : World) : Prop := ∃ x : Int, r = .returned (.int .i64 x) ∧ 1 ≤ x ∧ x ≤ most + 140737488355330 ∧ (x ≤ most → x = z) ∧ Below w.heap.size w w'
def WideRel (n : Nat) (m0 : Int) (most : Int) (items : List MD) (w : World) (c : Array Value) (x i : Value) (wr : World) : Prop :=
  ∃ (k : Nat) (m : Int), k ≤ items.length ∧ i = .int .i64 k ∧ x = .int .i64 m ∧ 1 ≤ m ∧ m ≤ most + 140737488355330 ∧ (m ≤ most → m = m0 + ((items.take k).map (MD.wd n)).sum) ∧ Below (w.heap.size + 1) (w.alloc (.cells c 28)) wr

set_option maxRecDepth 100000 in
set_option maxHeartbeats 2000000 in
theorem wide_any : ∀ (n : Nat) (d : MD) (most : Int) (w : World), 0 ≤ most → most ≤ 5000 → MD.Small 140737488355328 n d → MD.In w.heap.size w n d → Calls Tryd.prog 12 #[d.val, .int .i64 most] w (WideP (MD.wd n d) most w)
  | 0, _, _, _, _, _, _, h => h.elim
  | n + 1, d, most, w, hm0, hm1, hsm, hin => by
    have HI : Hid (∀ (d : MD) (most : Int) (w : World), 0 ≤ most → most ≤ 5000 → MD.Small 140737488355328 n d → MD.In w.heap.size w n d → Calls Tryd.prog 12 #[d.val, .int .i64 most] w (WideP (MD.wd n d) most w)) := fun d most w a b c e => wide_any n d most w a b c e
    have hits := hin.items
    clear hin
    obtain ⟨⟨k, t, a, f, s, r0, r1, r2, r3, pp, path, pc⟩, ip, ic, items⟩ := d
    obtain ⟨_, _, hs3, hs4, hs5⟩ := hsm
    simp only at hs3 hs4
    simp only [MD.val, D, MD.wd]
    obtain ⟨Z, hZ⟩ : ∃ Z, Z = 1 + path.length + (items.map (MD.wd n)).sum := ⟨_, rfl⟩
    rw [← hZ]
    have HZ : Hid (Z = 1 + path.length + (items.map (MD.wd n)).sum) := hZ
    have HT : Hid (MD.ItemsIn w.heap.size w n ⟨⟨k, t, a, f, s, r0, r1, r2, r3, pp, path, pc⟩, ip, ic, items⟩) := hits
    have HSm : Hid (∀ x ∈ items, MD.Small 140737488355328 n x) := hs5
    clear hZ hits hs5
    have hpi : (path.length : Int) ≤ 140737488355328 := by omega
    have hii : (items.length : Int) ≤ 140737488355328 := by omega
    clear hs3 hs4
    go_enter Tryd.func12, Tryd.ntmps12
    go_wp2_with fail
    go_loopw [5, 6] (fun x i wr => WideRel n (1 + path.length) most items w #[.int .i64 k, .string t, .int .i64 a, .int .u64 f, .string s, .int .i64 r0, .int .i64 r1, .int .i64 r2, .int .i64 r3, .slice pp path.length pc, .slice ip items.length ic] x i wr) (fun _ i _ => items.length - (intOf i).toNat)
    case atStart => exact ⟨0, 1 + path.length, Nat.zero_le _, rfl, rfl, by omega, by omega, fun _ => by simp, Below.refl _ _⟩
    case round =>
      obtain ⟨k', m, hk, rfl, rfl, hq0, hq1, hq2, hb⟩ := hrel
      have HM : Hid (m ≤ most → m = 1 + path.length + ((items.take k').map (MD.wd n)).sum) := hq2
      clear hq2
      have hcell : wr.cell? ⟨w.heap.size, 10, none⟩ = some (.slice ip items.length ic) := (hb.cell (p := ⟨w.heap.size, 10, none⟩) (Nat.lt_succ_self _)).trans (row_at (heap_alloc_new _ _) 10)
      have HB : Hid (Below (w.heap.size + 1) (w.alloc (.cells #[.int .i64 k, .string t, .int .i64 a, .int .u64 f, .string s, .int .i64 r0, .int .i64 r1, .int .i64 r2, .int .i64 r3, .slice pp path.length pc, .slice ip items.length ic] 28)) wr) := hb
      have HB0 : Hid (Below w.heap.size w wr) := (below1 _ _).trans (hb.mono (by omega))
      have hz := hb.size
      simp only [World.size_alloc] at hz
      clear hb
      by_cases hgo : k' < items.length ∧ m ≤ most
      · obtain ⟨hlt, hmm⟩ := hgo
        have i1 : (k' : Int) < items.length := by omega
        obtain ⟨bb, o, rfl, hbB, hC, hIn⟩ : ∃ bb o, ip = some ⟨bb, o, none⟩ ∧ bb < w.heap.size ∧ MD.CellsAt wr bb (o + k' * 11) items[k'] ∧ MD.In w.heap.size wr n items[k'] := by
          rcases MD.ItemsIn.below HT.out HB0.out with e | ⟨bb, o, e1, e2, e3⟩
          · have e' : items = [] := e
            rw [e'] at hlt; simp at hlt
          · exact ⟨bb, o, e1, e2, e3 k' hlt⟩
        have HS : Hid (((items.take (k' + 1)).map (MD.wd n)).sum = ((items.take k').map (MD.wd n)).sum + MD.wd n items[k']) := sum_take_succ _ _ _ hlt
        have HW : Hid (MD.Small 140737488355328 n items[k']) := HSm.out _ (List.getElem_mem hlt)
        generalize items[k'] = kid at hC hIn HS HW
        obtain ⟨⟨k0, k1, k2, k3, k4, k5, k6, k7, k8, kp, kpath, kpc⟩, kip, kic, kit⟩ := kid
        have c0 : wr.cell? ⟨bb, o + k' * 11, none⟩ = some (.int .i64 k0) := hC 0 (by omega)
        have c1 : wr.cell? ⟨bb, o + k' * 11 + 1, none⟩ = some (.string k1) := hC 1 (by omega)
        have c2 : wr.cell? ⟨bb, o + k' * 11 + 2, none⟩ = some (.int .i64 k2) := hC 2 (by omega)
        have c3 : wr.cell? ⟨bb, o + k' * 11 + 3, none⟩ = some (.int .u64 k3) := hC 3 (by omega)
        have c4 : wr.cell? ⟨bb, o + k' * 11 + 4, none⟩ = some (.string k4) := hC 4 (by omega)
        have c5 : wr.cell? ⟨bb, o + k' * 11 + 5, none⟩ = some (.int .i64 k5) := hC 5 (by omega)
        have c6 : wr.cell? ⟨bb, o + k' * 11 + 6, none⟩ = some (.int .i64 k6) := hC 6 (by omega)
        have c7 : wr.cell? ⟨bb, o + k' * 11 + 7, none⟩ = some (.int .i64 k7) := hC 7 (by omega)
        have c8 : wr.cell? ⟨bb, o + k' * 11 + 8, none⟩ = some (.int .i64 k8) := hC 8 (by omega)
        have c9 : wr.cell? ⟨bb, o + k' * 11 + 9, none⟩ = some (.slice kp kpath.length kpc) := hC 9 (by omega)
        have c10 : wr.cell? ⟨bb, o + k' * 11 + 10, none⟩ = some (.slice kip kit.length kic) := hC 10 (by omega)
        have HC : Hid (Calls Tryd.prog 12 #[.agg #[.int .i64 k0, .string k1, .int .i64 k2, .int .u64 k3, .string k4, .int .i64 k5, .int .i64 k6, .int .i64 k7, .int .i64 k8, .slice kp kpath.length kpc, .slice kip kit.length kic], .int .i64 (most - m)] wr (WideP (MD.wd n ⟨⟨k0, k1, k2, k3, k4, k5, k6, k7, k8, kp, kpath, kpc⟩, kip, kic, kit⟩) (most - m) wr)) :=
          HI.out ⟨⟨k0, k1, k2, k3, k4, k5, k6, k7, k8, kp, kpath, kpc⟩, kip, kic, kit⟩ (most - m) wr (by omega) (by omega) HW.out (MD.In.mono (by omega) n _ hIn)
        clear hC hIn HI HW
        generalize MD.wd n ⟨⟨k0, k1, k2, k3, k4, k5, k6, k7, k8, kp, kpath, kpc⟩, kip, kic, kit⟩ = zk at HC HS
        go_wp2_with (go_at_call 12; refine HC.out.mono ?_; rintro r w2 ⟨x, rfl, hx0, hx1, hx2, b2⟩; have HX : Hid ((x ≤ most - m → x = zk) ∧ Below wr.heap.size wr w2) := ⟨hx2, b2⟩; clear hx2 b2)
        obtain ⟨g1, g2⟩ := HX.out
        have g3 := HS.out
        have g4 := HM.out hmm
        refine ⟨⟨k' + 1, m + x, hlt, by go_num, rfl, by omega, by omega, fun h => by have := g1 (by omega); omega, HB.out.trans (g2.mono (by omega))⟩, by simp [intOf]; omega⟩
      · by_cases hlt : k' < items.length
        · have hmm : ¬ m ≤ most := fun h => hgo ⟨hlt, h⟩
          have i1 : (k' : Int) < items.length := by omega
          clear hgo
          go_wp2_with fail
          go_ret
          exact ⟨m, rfl, by omega, by omega, fun h => by omega, HB0.out⟩
        · have i1 : ¬ (k' : Int) < items.length := by omega
          have hk2 : k' = items.length := by omega
          have HM2 : Hid (m ≤ most → m = Z) := fun h => by
            have h1 := HM.out h
            rw [hk2, List.take_of_length_le (Nat.le_refl _)] at h1
            have := HZ.out
            omega
          clear hgo hk2
          go_wp2_with fail
          go_ret
          exact ⟨m, rfl, by omega, by omega, HM2.out, HB0.out⟩
end Go.Proofs.YtnhbpcmiolkllaaDoor
namespace Go.Proofs.YtnhbpcmiolkllaaDoor
open Go.RowKit

/-- All that a datum leads to lies at or above lo. -/
def MD.Above (lo : Nat) : Nat → MD → Prop
  | 0, _ => True
  | n + 1, d => (∀ b o, d.h.pp = some ⟨b, o, none⟩ → lo ≤ b) ∧ (∀ b o, d.ip = some ⟨b, o, none⟩ → lo ≤ b) ∧ ∀ x ∈ d.items, MD.Above lo n x
theorem MD.Above.mono {lo lo' : Nat} (h : lo' ≤ lo) : ∀ (n : Nat) (d : MD), MD.Above lo n d → MD.Above lo' n d
  | 0, _, _ => trivial
  | n + 1, _, ⟨h1, h2, h3⟩ => ⟨fun b o e => Nat.le_trans h (h1 b o e), fun b o e => Nat.le_trans h (h2 b o e), fun x hx => MD.Above.mono h n x (h3 x hx)⟩

theorem MD.CellsAt.other {w w' : World} {b o : Nat} {d : MD} (h : MD.CellsAt w b o d) (e : w'.heap[b]? = w.heap[b]?) : MD.CellsAt w' b o d := fun j hj => (World.cell?_of_block (a := ⟨b, o + j, none⟩) e).trans (h j hj)
theorem MD.In.other {B g : Nat} {w w' : World} (hh : ∀ b, b ≠ g → b < B → w'.heap[b]? = w.heap[b]?) : ∀ (n : Nat) (d : MD), MD.In B w n d → MD.Above (g + 1) n d → MD.In B w' n d
  | 0, _, h, _ => h
  | n + 1, d, ⟨h1, h2, h3, h4, h5⟩, ⟨a1, a2, a3⟩ => by
    refine ⟨h1, ⟨h2.1, ?_⟩, h3, h4, ?_⟩
    · rcases h2.2 with e | ⟨b, o, e1, e2, e3⟩
      · exact .inl e
      · have := a1 b o e1
        exact .inr ⟨b, o, e1, e2, fun i hi => (World.cell?_of_block (a := ⟨b, o + i, none⟩) (hh b (by omega) e2)).trans (e3 i hi)⟩
    · rcases h5 with e | ⟨b, o, e1, e2, e3⟩
      · exact .inl e
      · have := a2 b o e1
        exact .inr ⟨b, o, e1, e2, fun i hi => ⟨(e3 i hi).1.other (hh b (by omega) e2), MD.In.other hh n _ (e3 i hi).2 (a3 _ (List.getElem_mem hi))⟩⟩

theorem below_setCells {B : Nat} {a : World} {g : Nat} (hb : B ≤ g) : ∀ (vs : List Value) (o : Nat) (w : World), Below B a w → Below B a (w.setCells g o vs)
  | [], _, _, h => h
  | v :: r, o, _, h => below_setCells hb r (o + 1) _ (h.setCell (p := ⟨g, o, none⟩) hb v)
theorem size_setCells' (g : Nat) : ∀ (vs : List Value) (o : Nat) (w : World), (w.setCells g o vs).heap.size = w.heap.size
  | [], _, _ => rfl
  | v :: r, o, w => by
    show ((w.setCell ⟨g, o, none⟩ v).setCells g (o + 1) r).heap.size = _
    rw [size_setCells' g r (o + 1)]; simp

theorem info28z : (Tryd.prog.info? 28).map (fun i => (i.zero, i.size, i.bytes)) = some (some (.agg zeros), 11, 136) := by kernel_rfl
theorem info3z : (Tryd.prog.info? 3).map (fun i => (i.zero, i.size, i.bytes)) = some (some (.int .i64 0), 1, 8) := by kernel_rfl

/-- A new row of data: cells that may be written. -/
theorem there_new (w : World) (c : Array Value) (t : TypeId) (m : Nat) (hm : c.size = m) : (w.alloc (.cells c t)).there w.heap.size 0 m := fun j hj => by
  have hr : (w.alloc (.cells c t)).heap[w.heap.size]? = some (.cells c t (0, 0)) := heap_alloc_new _ _
  refine ⟨?_, ?_⟩
  · rw [row_at hr (0 + j)]; simp; omega
  · exact fz _ _ _ _ _ hr
theorem there_below {w w' : World} {B g m : Nat} (h : w.there g 0 m) (hg : g < B) (hb : Below B w w') : w'.there g 0 m := fun j hj => by
  rw [hb.cell (p := ⟨g, 0 + j, none⟩) hg, hb.frozen (p := ⟨g, 0 + j, none⟩) hg]; exact h j hj
theorem there_part {w : World} {g m k n : Nat} (h : w.there g 0 m) (hk : k + n ≤ m) : w.there g k n := fun j hj => by
  have := h (k + j) (by omega)
  rwa [Nat.zero_add] at this
theorem MD.cells_one (d : MD) : ∀ v ∈ d.cells.toList, v.oneCell' = true := by
  intro v hv
  simp [MD.cells] at hv
  rcases hv with rfl | rfl | rfl | rfl | rfl | rfl | rfl | rfl | rfl | rfl | rfl <;> rfl
theorem rangeAt_cells {w : World} {b o : Nat} {d : MD} : MD.CellsAt w b o d ↔ w.rangeAt b o d.cells.toList := by
  constructor
  · intro h j v hj
    have hj' : d.cells[j]? = some v := by rw [← Array.getElem?_toList]; exact hj
    have : j < 11 := (Array.getElem?_eq_some_iff.1 hj').1
    rw [h j this, hj']
  · intro h j hj
    obtain ⟨v, hv⟩ : ∃ v, d.cells[j]? = some v := ⟨d.cells[j]'hj, Array.getElem?_eq_getElem hj⟩
    rw [hv]
    exact h j v (by rw [Array.getElem?_toList]; exact hv)
/-- Rows of copies: the first k lie in row g. -/
def CopyRel (n : Nat) (items : List MD) (W : World) (g : Nat) (i : Value) (wr : World) : Prop :=
  ∃ (k : Nat) (ds : List MD), k ≤ items.length ∧ i = .int .i64 k ∧ ds.length = k ∧ Below W.heap.size W wr ∧ g < wr.heap.size ∧ wr.there g 0 (items.length * 11) ∧
    (∀ (i : Nat) (hi : i < ds.length), MD.CellsAt wr g (i * 11) ds[i] ∧ MD.In wr.heap.size wr n ds[i] ∧ MD.Above (g + 1) n ds[i]) ∧ all2 (MD.same n) (items.take k) ds = true
theorem all2_snoc' {α : Type} (p : α → α → Bool) : ∀ (xs ys : List α) (k : Nat) (hx : k < xs.length) (_ : ys.length = k) (y : α), all2 p (xs.take (k + 1)) (ys ++ [y]) = (all2 p (xs.take k) ys && p xs[k] y)
  | x :: xs, [], 0, _, _, y => by simp [all2]
  | x :: xs, z :: ys, 0, _, hy, y => by simp at hy
  | x :: xs, [], k + 1, _, hy, y => by simp at hy
  | x :: xs, z :: ys, k + 1, hx, hy, y => by
    have := all2_snoc' p xs ys k (by simpa using hx) (by simpa using hy) y
    simp only [List.take_succ_cons, List.getElem_cons_succ, List.cons_append, all2]
    rw [this, Bool.and_assoc]
/-- One copy more. -/
theorem CopyRel.next {n : Nat} {items : List MD} {W : World} {g k : Nat} {ds : List MD} {wr w9 : World} {d : MD} (hk : k < items.length) (hds : ds.length = k) (hB : Below W.heap.size W wr) (hWg : W.heap.size ≤ g) (hg : g < wr.heap.size)
    (hth : wr.there g 0 (items.length * 11)) (hc : ∀ (i : Nat) (hi : i < ds.length), MD.CellsAt wr g (i * 11) ds[i] ∧ MD.In wr.heap.size wr n ds[i] ∧ MD.Above (g + 1) n ds[i]) (ha : all2 (MD.same n) (items.take k) ds = true)
    (h9 : Below wr.heap.size wr w9) (hd : MD.In w9.heap.size w9 n d) (hda : MD.Above wr.heap.size n d) (hs : MD.same n items[k] d = true) :
    CopyRel n items W g (.int .i64 ((k : Int) + 1)) (w9.setCells g (k * 11) d.cells.toList) := by
  have hth9 := there_below hth hg h9
  have hg9 : g < w9.heap.size := Nat.lt_of_lt_of_le hg h9.size
  have hoth : ∀ b, b ≠ g → b < w9.heap.size → (w9.setCells g (k * 11) d.cells.toList).heap[b]? = w9.heap[b]? := fun b hb hb2 => World.heap_setCells_other _ _ _ _ hb2 hb
  refine ⟨k + 1, ds ++ [d], hk, by simp, by simp [hds], below_setCells hWg _ _ _ (hB.trans (h9.mono hB.size)), by rw [size_setCells']; exact hg9, World.there_setCells hth9 _ _ _, fun i hi => ?_, ?_⟩
  · rw [size_setCells']
    by_cases hik : i < k
    · have hi' : i < ds.length := by omega
      rw [List.getElem_append_left hi']
      obtain ⟨q1, q2, q3⟩ := hc i hi'
      refine ⟨?_, MD.In.other hoth n _ (q2.later (Nat.le_refl _) h9) q3, q3⟩
      rw [rangeAt_cells]
      refine World.rangeAt_setCells_apart (rangeAt_cells.1 (q1.below hg h9)) _ _ _ (.inr (.inl ?_))
      show i * 11 + 11 ≤ k * 11
      omega
    · obtain rfl : i = ds.length := by simp at hi; omega
      rw [List.getElem_append_right (Nat.le_refl _)]
      simp only [Nat.sub_self, List.getElem_cons_zero]
      refine ⟨?_, MD.In.other hoth n _ hd (MD.Above.mono (by omega) n d hda), MD.Above.mono (by omega) n d hda⟩
      rw [rangeAt_cells, hds]
      refine World.rangeAt_setCells_same _ _ _ _ (there_part hth9 ?_)
      show k * 11 + 11 ≤ _
      omega
  · rw [all2_snoc' _ _ _ _ hk hds, ha, hs]; rfl
end Go.Proofs.YtnhbpcmiolkllaaDoor
namespace Go.Proofs.YtnhbpcmiolkllaaDoor
open Go.RowKit
attribute [local go_sem] refold2 cell3_0 cell3_1 b28_0 b28_01

def CopyP (n : Nat) (d : MD) (w : World) (r : Ending) (w' : World) : Prop := ∃ d' : MD, r = .returned d'.val ∧ MD.In w'.heap.size w' n d' ∧ MD.Above w.heap.size n d' ∧ MD.same n d d' = true ∧ Below w.heap.size w w'
def CopyC (n : Nat) : Prop := ∀ (d : MD) (w : World), MD.In w.heap.size w n d → MD.wd n d ≤ 5000 → Calls Tryd.prog 28 #[d.val] w (CopyP n d w)

theorem nz26 (a : Option Addr) (n c : Nat) (W : World) : (binOp .neq 26 (.slice a n c) (.slice none 0 0)).run Tryd.prog W = .ok (.bool a.isSome) W := (run_neq_slice_nil_any W 26 28 a n c 0 0 Tryd.underlying26).trans (by cases a <;> rfl)
theorem nz23 (a : Option Addr) (n c : Nat) (W : World) : (binOp .neq 23 (.slice a n c) (.slice none 0 0)).run Tryd.prog W = .ok (.bool a.isSome) W := (run_neq_slice_nil_any W 23 3 a n c 0 0 Tryd.underlying23).trans (by cases a <;> rfl)
attribute [local go_sem] nz26 nz23
/-- Put together. -/
theorem copy_done {n : Nat} {w F : World} {k : Int} {t : ByteArray} {a f : Int} {s : ByteArray} {r0 r1 r2 r3 : Int} {pp : Option Addr} {path : List Int} {pc : Nat} {ip : Option Addr} {ic : Nat} {items : List MD} (pp2 : Option Addr) (pc2 : Nat) (ip2 : Option Addr) (ic2 : Nat) (items2 : List MD)
    (hB : Below w.heap.size w F) (hF : MD.Fine ⟨k, t, a, f, s, r0, r1, r2, r3, pp, path, pc⟩) (hb : ∀ x ∈ path, -9223372036854775808 ≤ x ∧ x ≤ 9223372036854775807) (hp1 : path.length ≤ pc2) (hp2 : pc2 ≤ maxLen)
    (hP : (path = [] ∨ ∃ b o, pp2 = some ⟨b, o, none⟩ ∧ b < F.heap.size ∧ ∀ (i : Nat) (hi : i < path.length), F.cell? ⟨b, o + i, none⟩ = some (.int .i64 path[i])) ∧ ∀ b o, pp2 = some ⟨b, o, none⟩ → w.heap.size ≤ b)
    (hil : items2.length = items.length) (hi1 : items.length ≤ ic2) (hi2 : ic2 ≤ maxLen)
    (hI : items2 = [] ∨ ∃ b o, ip2 = some ⟨b, o, none⟩ ∧ b < F.heap.size ∧ ∀ (i : Nat) (hi : i < items2.length), MD.CellsAt F b (o + i * 11) items2[i] ∧ MD.In F.heap.size F n items2[i])
    (hA : (∀ b o, ip2 = some ⟨b, o, none⟩ → w.heap.size ≤ b) ∧ ∀ x ∈ items2, MD.Above w.heap.size n x) (hs : all2 (MD.same n) items items2 = true) :
    CopyP (n + 1) ⟨⟨k, t, a, f, s, r0, r1, r2, r3, pp, path, pc⟩, ip, ic, items⟩ w (.returned (.agg #[.int .i64 k, .string t, .int .i64 a, .int .u64 f, .string s, .int .i64 r0, .int .i64 r1, .int .i64 r2, .int .i64 r3, .slice pp2 path.length pc2, .slice ip2 items.length ic2])) F := by
  refine ⟨⟨⟨k, t, a, f, s, r0, r1, r2, r3, pp2, path, pc2⟩, ip2, ic2, items2⟩, ?_, ⟨⟨hF.k0, hF.k1, hF.n0, hF.n1, hF.f0, hF.f1, hF.o0, hF.o1, hF.a0, hF.a1, hF.b0, hF.b1, hF.c0, hF.c1, hF.t0, hF.s0, hp1, hp2⟩, ⟨hb, hP.1⟩, by rw [hil]; exact hi1, hi2, hI⟩, ⟨hP.2, hA.1, hA.2⟩, ?_, hB⟩
  · simp only [MD.val, D]; rw [hil]
  · show (sameH _ _ _ _ && _ && _) = true
    have e1 : sameH ⟨k, t, a, f, s, r0, r1, r2, r3, pp, path, pc⟩ ⟨k, t, a, f, s, r0, r1, r2, r3, pp2, path, pc2⟩ items.length items2.length = true := decide_eq_true ⟨rfl, rfl, rfl, rfl, rfl, rfl, rfl, rfl, rfl, rfl, hil.symm⟩
    rw [e1, hs, decide_eq_true (show path = path from rfl)]; rfl

/-- The answer's own row. -/
theorem st_res {w : World} {g : Nat} (k : Int) (t : ByteArray) (a f : Int) (s : ByteArray) (r0 r1 r2 r3 : Int) (pp : Option Addr) (m c : Nat) (ip : Option Addr) (il ic : Nat) (hg : w.heap[g]? = some (.cells zeros 28 (0, 0))) :
    (storeCells ⟨g, 0, none⟩ [.int .i64 k, .string t, .int .i64 a, .int .u64 f, .string s, .int .i64 r0, .int .i64 r1, .int .i64 r2, .int .i64 r3, .slice pp m c, .slice ip il ic] 0).run Tryd.prog w = .ok () (w.setRow g #[.int .i64 k, .string t, .int .i64 a, .int .u64 f, .string s, .int .i64 r0, .int .i64 r1, .int .i64 r2, .int .i64 r3, .slice pp m c, .slice ip il ic]) := st28c w g k t a f s r0 r1 r2 r3 pp ip m c il ic hg
theorem heap_setCell_other (w : World) (g o b : Nat) (v : Value) (h : b ≠ g) : (w.setCell ⟨g, o, none⟩ v).heap[b]? = w.heap[b]? := by
  have := World.heap_setCells_other w g o [v] (i := b)
  by_cases hb : b < w.heap.size
  · exact this hb h
  · rw [Array.getElem?_eq_none (by simp; omega), Array.getElem?_eq_none (by omega)]
theorem numsOf (path : List Int) : ∀ u ∈ path.map (Value.int .i64), u.oneCell' = true := by
  intro u hu
  obtain ⟨z, _, rfl⟩ := List.mem_map.1 hu
  rfl

set_option maxRecDepth 100000 in
set_option maxHeartbeats 4000000 in
theorem copied_nn (n : Nat) (k : Int) (t : ByteArray) (a f : Int) (s : ByteArray) (r0 r1 r2 r3 : Int) (path : List Int) (pc : Nat) (ic : Nat) (items : List MD) (w : World)
    (hin : MD.In w.heap.size w (n + 1) ⟨⟨k, t, a, f, s, r0, r1, r2, r3, none, path, pc⟩, none, ic, items⟩) (hw : MD.wd (n + 1) ⟨⟨k, t, a, f, s, r0, r1, r2, r3, none, path, pc⟩, none, ic, items⟩ ≤ 5000) :
    Calls Tryd.prog 28 #[.agg #[.int .i64 k, .string t, .int .i64 a, .int .u64 f, .string s, .int .i64 r0, .int .i64 r1, .int .i64 r2, .int .i64 r3, .slice none path.length pc, .slice none items.length ic]] w (CopyP (n + 1) ⟨⟨k, t, a, f, s, r0, r1, r2, r3, none, path, pc⟩, none, ic, items⟩ w) := by
  have hF := hin.fine
  have hP := hin.path
  have hlen := hin.len
  have hits := hin.items
  have hwd : 1 + path.length + (items.map (MD.wd n)).sum ≤ 5000 := hw
  have hpl : path.length ≤ 5000 := by omega
  clear hin hw
  obtain ⟨W2, hW2⟩ : ∃ W2, W2 = (w.alloc (.cells #[.int .i64 k, .string t, .int .i64 a, .int .u64 f, .string s, .int .i64 r0, .int .i64 r1, .int .i64 r2, .int .i64 r3, .slice none path.length pc, .slice none items.length ic] 28)).alloc (.cells #[.int .i64 0, .string ⟨#[]⟩, .int .i64 0, .int .u64 0, .string ⟨#[]⟩, .int .i64 0, .int .i64 0, .int .i64 0, .int .i64 0, .slice none 0 0, .slice none 0 0] 28) := ⟨_, rfl⟩
  have hB2 : Below w.heap.size w W2 := by rw [hW2]; exact below2 _ _ _
  have hz2 : W2.heap.size = w.heap.size + 2 := by rw [hW2]; simp
  have HK : Hid (∀ W, Below W2.heap.size W2 W → Below w.heap.size w W ∧ W.heap[w.heap.size]? = some (.cells #[.int .i64 k, .string t, .int .i64 a, .int .u64 f, .string s, .int .i64 r0, .int .i64 r1, .int .i64 r2, .int .i64 r3, .slice none path.length pc, .slice none items.length ic] 28 (0, 0)) ∧ W.heap[w.heap.size + 1]? = some (.cells zeros 28 (0, 0))) := fun W hW =>
    ⟨hB2.trans (hW.mono (by omega)), (hW.block _ (by omega)).trans (by rw [hW2, Below.heap_alloc _ _ _ (by simp)]; exact heap_alloc_new _ _), (hW.block _ (by omega)).trans (by rw [hW2]; exact heap2_1 _ _ _)⟩
  have hpe : path = [] := by
    rcases hP.2 with e | ⟨b, o, e, _⟩
    · exact e
    · cases e
  have hie : items = [] := by
    rcases hits with e | ⟨b, o, e, _⟩
    · exact e
    · cases e
  have HD : Hid (∀ F, Below w.heap.size w F → CopyP (n + 1) ⟨⟨k, t, a, f, s, r0, r1, r2, r3, none, path, pc⟩, none, ic, items⟩ w (.returned (.agg #[.int .i64 k, .string t, .int .i64 a, .int .u64 f, .string s, .int .i64 r0, .int .i64 r1, .int .i64 r2, .int .i64 r3, .slice none path.length pc, .slice none items.length ic])) F) := fun F hB =>
    copy_done none pc none ic items hB hF hP.1 hF.pl hF.pm ⟨.inl hpe, fun _ _ e => (by cases e)⟩ rfl hlen.1 hlen.2 (.inl hie) ⟨fun _ _ e => (by cases e), fun x hx => (by rw [hie] at hx; cases hx)⟩ (by rw [hie]; rfl)
  clear hF hP hlen hits hwd hpe hie HK hB2 hz2 hW2 W2 hpl
  go_enter Tryd.func28, Tryd.ntmps28
  go_wp2_with fail
  refine bodyPost_ret (v := .agg #[.int .i64 k, .string t, .int .i64 a, .int .u64 f, .string s, .int .i64 r0, .int .i64 r1, .int .i64 r2, .int .i64 r3, .slice none path.length pc, .slice none items.length ic]) (by simp [results, Tryd.results28, go_sem]) rfl (HD.out _ (below2 _ _ _))

/-- The path's cells, wherever they are asked. -/
theorem path_cells {w : World} {pa : Addr} {path : List Int} (h : path = [] ∨ ∃ b o, some pa = some ⟨b, o, none⟩ ∧ b < w.heap.size ∧ ∀ (i : Nat) (hi : i < path.length), w.cell? ⟨b, o + i, none⟩ = some (.int .i64 path[i])) (W : World) (hW : ∀ b, b < w.heap.size → W.heap[b]? = w.heap[b]?) :
    ∀ (j : Nat) (u : Value), (path.map (Value.int .i64))[j]? = some u → W.cell? (pa.add j) = some u := by
  intro j u hu
  rw [List.getElem?_map] at hu
  obtain ⟨z, hz, rfl⟩ := Option.map_eq_some_iff.1 hu
  obtain ⟨hj, rfl⟩ := List.getElem?_eq_some_iff.1 hz
  rcases h with e | ⟨b, o, e1, e2, e3⟩
  · subst e; simp at hj
  · obtain rfl : pa = ⟨b, o, none⟩ := Option.some.inj e1
    rw [Addr.add_mid]
    exact (World.cell?_of_block (a := ⟨b, o + j, none⟩) (hW b e2)).trans (e3 j hj)
/-- What is appended to none is none, or lies in a new row. -/
theorem path_new {W w3 : World} {base : Nat} {v' : Value} {path : List Int} (hown : w3.ownsRow base 3 1 v' (0 + path.length) ([] ++ path.map (Value.int .i64))) (hgr : W.grownBy w3 (Value.slice none 0 0).ownBlock) (hnil : v' = .slice none 0 0 ↔ Value.slice none 0 0 = .slice none 0 0 ∧ path.length = 0) :
    (∃ (pp2 : Option Addr) (pc2 : Nat), v' = .slice pp2 path.length pc2 ∧ path.length ≤ pc2 ∧ pc2 ≤ maxLen ∧ (path = [] ∨ ∃ g, pp2 = some ⟨g, 0, none⟩ ∧ g < w3.heap.size ∧ base ≤ g ∧ ∀ (i : Nat) (hi : i < path.length), w3.cell? ⟨g, 0 + i, none⟩ = some (.int .i64 path[i])) ∧ ∀ b o, pp2 = some ⟨b, o, none⟩ → base ≤ b) ∧ (∀ b, b < W.heap.size → w3.heap[b]? = W.heap[b]?) ∧ W.heap.size ≤ w3.heap.size ∧ Below W.heap.size W w3 := by
  have hbel : Below W.heap.size W w3 := Below.grown (Below.refl _ _) hgr (Nat.le_refl _) (fun j hj => by simp [Value.ownBlock] at hj)
  refine ⟨?_, fun b hb => hbel.block b hb, hbel.size, hbel⟩
  rw [List.nil_append, Nat.zero_add] at hown
  by_cases h0 : path = []
  · subst h0
    obtain rfl := hnil.2 ⟨rfl, rfl⟩
    exact ⟨none, 0, rfl, Nat.le_refl _, Nat.zero_le _, .inl rfl, fun _ _ e => (by cases e)⟩
  · have hp : 0 < path.length := List.length_pos_iff.2 h0
    obtain ⟨g, cap, rfl, hg, hc, hm, hgl⟩ := own_form hown hp
    refine ⟨some ⟨g, 0, none⟩, cap, rfl, hc, hm, .inr ⟨g, rfl, hgl, hg, fun i hi => ?_⟩, fun b o e => ?_⟩
    · rw [Nat.zero_add]
      exact own_cell hown i rfl _ (by rw [List.getElem?_map, List.getElem?_eq_getElem hi]; rfl)
    · cases e; exact hg

theorem eleven_other (w3 : World) (h b : Nat) (h1 : b ≠ h) (h2 : b ≠ h + 1) (v v0 v1 v2 v3 v4 v5 v6 v7 v8 v9 v10 : Value) :
    ((((((((((((w3.setCell ⟨h, 9, none⟩ v).setCell ⟨h + 1, 0, none⟩ v0).setCell ⟨h + 1, 1, none⟩ v1).setCell ⟨h + 1, 2, none⟩ v2).setCell ⟨h + 1, 3, none⟩ v3).setCell ⟨h + 1, 4, none⟩ v4).setCell ⟨h + 1, 5, none⟩ v5).setCell ⟨h + 1, 6, none⟩ v6).setCell ⟨h + 1, 7, none⟩ v7).setCell ⟨h + 1, 8, none⟩ v8).setCell ⟨h + 1, 9, none⟩ v9).setCell ⟨h + 1, 10, none⟩ v10).heap[b]? = w3.heap[b]? := by
  rw [heap_setCell_other _ _ _ _ _ h2, heap_setCell_other _ _ _ _ _ h2, heap_setCell_other _ _ _ _ _ h2, heap_setCell_other _ _ _ _ _ h2, heap_setCell_other _ _ _ _ _ h2, heap_setCell_other _ _ _ _ _ h2, heap_setCell_other _ _ _ _ _ h2, heap_setCell_other _ _ _ _ _ h2, heap_setCell_other _ _ _ _ _ h2, heap_setCell_other _ _ _ _ _ h2, heap_setCell_other _ _ _ _ _ h2, heap_setCell_other _ _ _ _ _ h1]
/-- Stores into the boxes leave a new path as it is. -/
theorem path_kept {w w3 F : World} {path : List Int} {pp2 : Option Addr} (h : path = [] ∨ ∃ g, pp2 = some ⟨g, 0, none⟩ ∧ g < w3.heap.size ∧ w.heap.size + 2 ≤ g ∧ ∀ (i : Nat) (hi : i < path.length), w3.cell? ⟨g, 0 + i, none⟩ = some (.int .i64 path[i]))
    (hF : ∀ b, b ≠ w.heap.size → b ≠ w.heap.size + 1 → F.heap[b]? = w3.heap[b]?) (hz : F.heap.size = w3.heap.size) :
    path = [] ∨ ∃ b o2, pp2 = some ⟨b, o2, none⟩ ∧ b < F.heap.size ∧ ∀ (i : Nat) (hi : i < path.length), F.cell? ⟨b, o2 + i, none⟩ = some (.int .i64 path[i]) := by
  rcases h with e | ⟨g, e1, e2, e3, e4⟩
  · exact .inl e
  · exact .inr ⟨g, 0, e1, by omega, fun i hi => (World.cell?_of_block (a := ⟨g, 0 + i, none⟩) (hF g (by omega) (by omega))).trans (e4 i hi)⟩

set_option maxRecDepth 100000 in
set_option maxHeartbeats 4000000 in
theorem copied_ns (n : Nat) (k : Int) (t : ByteArray) (a f : Int) (s : ByteArray) (r0 r1 r2 r3 : Int) (pa : Addr) (path : List Int) (pc : Nat) (ic : Nat) (items : List MD) (w : World)
    (hin : MD.In w.heap.size w (n + 1) ⟨⟨k, t, a, f, s, r0, r1, r2, r3, (some pa), path, pc⟩, none, ic, items⟩) (hw : MD.wd (n + 1) ⟨⟨k, t, a, f, s, r0, r1, r2, r3, (some pa), path, pc⟩, none, ic, items⟩ ≤ 5000) :
    Calls Tryd.prog 28 #[.agg #[.int .i64 k, .string t, .int .i64 a, .int .u64 f, .string s, .int .i64 r0, .int .i64 r1, .int .i64 r2, .int .i64 r3, .slice (some pa) path.length pc, .slice none items.length ic]] w (CopyP (n + 1) ⟨⟨k, t, a, f, s, r0, r1, r2, r3, (some pa), path, pc⟩, none, ic, items⟩ w) := by
  have hF := hin.fine
  have hP := hin.path
  have hlen := hin.len
  have hits := hin.items
  have hwd : 1 + path.length + (items.map (MD.wd n)).sum ≤ 5000 := hw
  have hpl : path.length ≤ 5000 := by omega
  clear hin hw
  obtain ⟨W2, hW2⟩ : ∃ W2, W2 = (w.alloc (.cells #[.int .i64 k, .string t, .int .i64 a, .int .u64 f, .string s, .int .i64 r0, .int .i64 r1, .int .i64 r2, .int .i64 r3, .slice (some pa) path.length pc, .slice none items.length ic] 28)).alloc (.cells #[.int .i64 0, .string ⟨#[]⟩, .int .i64 0, .int .u64 0, .string ⟨#[]⟩, .int .i64 0, .int .i64 0, .int .i64 0, .int .i64 0, .slice none 0 0, .slice none 0 0] 28) := ⟨_, rfl⟩
  have hB2 : Below w.heap.size w W2 := by rw [hW2]; exact below2 _ _ _
  have hz2 : W2.heap.size = w.heap.size + 2 := by rw [hW2]; simp
  have HK : Hid (∀ W, Below W2.heap.size W2 W → Below w.heap.size w W ∧ W.heap[w.heap.size]? = some (.cells #[.int .i64 k, .string t, .int .i64 a, .int .u64 f, .string s, .int .i64 r0, .int .i64 r1, .int .i64 r2, .int .i64 r3, .slice (some pa) path.length pc, .slice none items.length ic] 28 (0, 0)) ∧ W.heap[w.heap.size + 1]? = some (.cells zeros 28 (0, 0))) := fun W hW =>
    ⟨hB2.trans (hW.mono (by omega)), (hW.block _ (by omega)).trans (by rw [hW2, Below.heap_alloc _ _ _ (by simp)]; exact heap_alloc_new _ _), (hW.block _ (by omega)).trans (by rw [hW2]; exact heap2_1 _ _ _)⟩
  have hie : items = [] := by
    rcases hits with e | ⟨b, o, e, _⟩
    · exact e
    · cases e
  obtain ⟨i0, hi, hz0, hz1, hz2'⟩ := info_parts info3z
  have HPC : Hid (∀ W : World, (∀ b, b < w.heap.size → W.heap[b]? = w.heap[b]?) → ∀ (j : Nat) (u : Value), (path.map (Value.int .i64))[j]? = some u → W.cell? (pa.add j) = some u) := fun W hW => path_cells hP.2 W hW
  have hWb : ∀ b, b < w.heap.size → W2.heap[b]? = w.heap[b]? := fun b hb => hB2.block b hb
  have hK2 := HK.out W2 (Below.refl _ _)
  have hc2 : ∀ j, W2.cell? ⟨w.heap.size, j, none⟩ = (#[.int .i64 k, .string t, .int .i64 a, .int .u64 f, .string s, .int .i64 r0, .int .i64 r1, .int .i64 r2, .int .i64 r3, .slice (some pa) path.length pc, .slice none items.length ic] : Array Value)[j]? := row_at hK2.2.1
  have HA : Hid (MD.Fine ⟨k, t, a, f, s, r0, r1, r2, r3, some pa, path, pc⟩ ∧ (∀ x ∈ path, -9223372036854775808 ≤ x ∧ x ≤ 9223372036854775807) ∧ (items.length ≤ ic ∧ ic ≤ maxLen) ∧ items = []) := ⟨hF, hP.1, hlen, hie⟩
  clear hF hP hlen hits hwd hie hK2
  go_enter Tryd.func28, Tryd.ntmps28
  go_wp2_with (at_builtin; rw [← hW2]; refine wpList_append_own _ rfl _ _ 23 rfl (w.heap.size + 2) 3 i0 (.int .i64 0) 1 8 Tryd.underlying23 hi hz0 hz1 hz2' rfl (by decide) _ 0 [] rfl (World.ownsRow_nil _ _ _ _) pa path.length pc (path.map (Value.int .i64)) rfl (by simp) (HPC.out W2 hWb) (numsOf path) (by unfold maxLen; omega) (by omega) (by omega) ?_; intro v' w3 hown3 hgr3 hnil3; obtain ⟨⟨pp2, pc2, rfl, hq1, hq2, hq3, hq4⟩, hold, hsz, hbel⟩ := path_new hown3 hgr3 hnil3; have hK3 := HK.out w3 hbel; have hc3 : ∀ j, w3.cell? ⟨w.heap.size, j, none⟩ = (#[.int .i64 k, .string t, .int .i64 a, .int .u64 f, .string s, .int .i64 r0, .int .i64 r1, .int .i64 r2, .int .i64 r3, .slice (some pa) path.length pc, .slice none items.length ic] : Array Value)[j]? := row_at hK3.2.1; have hf3 : ∀ j, w3.frozen? ⟨w.heap.size, j, none⟩ = false := (fun j => fz _ _ _ _ j hK3.2.1); have hr3 : ∀ j, w3.cell? ⟨w.heap.size + 1, j, none⟩ = (#[.int .i64 0, .string ⟨#[]⟩, .int .i64 0, .int .u64 0, .string ⟨#[]⟩, .int .i64 0, .int .i64 0, .int .i64 0, .int .i64 0, .slice none 0 0, .slice none 0 0] : Array Value)[j]? := row_at hK3.2.2; have hg3 : ∀ j, w3.frozen? ⟨w.heap.size + 1, j, none⟩ = false := (fun j => fz _ _ _ _ j hK3.2.2); have HG3 : Hid (Below W2.heap.size W2 w3 ∧ path.length ≤ pc2 ∧ pc2 ≤ maxLen ∧ (path = [] ∨ ∃ g, pp2 = some ⟨g, 0, none⟩ ∧ g < w3.heap.size ∧ w.heap.size + 2 ≤ g ∧ ∀ (i : Nat) (hi : i < path.length), w3.cell? ⟨g, 0 + i, none⟩ = some (.int .i64 path[i])) ∧ ∀ b o, pp2 = some ⟨b, o, none⟩ → w.heap.size + 2 ≤ b) := ⟨hbel, hq1, hq2, hq3, hq4⟩; clear hown3 hgr3 hnil3 hold hsz hbel hq1 hq2 hq3 hq4 hK3)
  refine bodyPost_ret (v := .agg #[.int .i64 k, .string t, .int .i64 a, .int .u64 f, .string s, .int .i64 r0, .int .i64 r1, .int .i64 r2, .int .i64 r3, .slice pp2 path.length pc2, .slice none items.length ic]) (by simp [results, Tryd.results28, go_sem, hr3]) rfl ?_
  obtain ⟨g1, g2, g3, g4, g5⟩ := HG3.out
  obtain ⟨q1, q2, q3, q4⟩ := HA.out
  have hB3 : Below w.heap.size w w3 := hB2.trans (g1.mono (by omega))
  refine copy_done pp2 pc2 none ic items (bset (hB3.setCell (p := ⟨w.heap.size, 9, none⟩) (Nat.le_refl _) _) (by omega) _ _ _ _ _ _ _ _ _ _ _) q1 q2 g2 g3 ⟨path_kept g4 (fun b h1 h2 => eleven_other w3 w.heap.size b h1 h2 _ _ _ _ _ _ _ _ _ _ _ _) (by simp), fun b o e => by have := g5 b o e; omega⟩ rfl q3.1 q3.2 (.inl q4) ⟨fun _ _ e => (by cases e), fun x hx => (by rw [q4] at hx; cases hx)⟩ (by rw [q4]; rfl)
end Go.Proofs.YtnhbpcmiolkllaaDoor
namespace Go.Proofs.YtnhbpcmiolkllaaDoor
open Go.RowKit
attribute [local go_sem] refold2 cell3_0 cell3_1 b28_0 b28_01 nz26 nz23

theorem MD.In.aloft {B lo : Nat} {w w' : World} (hh : ∀ b, lo ≤ b → b < B → w'.heap[b]? = w.heap[b]?) : ∀ (n : Nat) (d : MD), MD.In B w n d → MD.Above lo n d → MD.In B w' n d
  | 0, _, h, _ => h
  | n + 1, d, ⟨h1, h2, h3, h4, h5⟩, ⟨a1, a2, a3⟩ => by
    refine ⟨h1, ⟨h2.1, ?_⟩, h3, h4, ?_⟩
    · rcases h2.2 with e | ⟨b, o, e1, e2, e3⟩
      · exact .inl e
      · exact .inr ⟨b, o, e1, e2, fun i hi => (World.cell?_of_block (a := ⟨b, o + i, none⟩) (hh b (a1 b o e1) e2)).trans (e3 i hi)⟩
    · rcases h5 with e | ⟨b, o, e1, e2, e3⟩
      · exact .inl e
      · exact .inr ⟨b, o, e1, e2, fun i hi => ⟨(e3 i hi).1.other (hh b (a2 b o e1) e2), MD.In.aloft hh n _ (e3 i hi).2 (a3 _ (List.getElem_mem hi))⟩⟩
theorem eleven_after (w3 : World) (h b : Nat) (h1 : b ≠ h) (h2 : b ≠ h + 1) (q : Nat) (v v0 v1 v2 v3 v4 v5 v6 v7 v8 v9 v10 : Value) :
    ((((((((((((w3.setCell ⟨h, q, none⟩ v).setCell ⟨h + 1, 0, none⟩ v0).setCell ⟨h + 1, 1, none⟩ v1).setCell ⟨h + 1, 2, none⟩ v2).setCell ⟨h + 1, 3, none⟩ v3).setCell ⟨h + 1, 4, none⟩ v4).setCell ⟨h + 1, 5, none⟩ v5).setCell ⟨h + 1, 6, none⟩ v6).setCell ⟨h + 1, 7, none⟩ v7).setCell ⟨h + 1, 8, none⟩ v8).setCell ⟨h + 1, 9, none⟩ v9).setCell ⟨h + 1, 10, none⟩ v10).heap[b]? = w3.heap[b]? := by
  rw [heap_setCell_other _ _ _ _ _ h2, heap_setCell_other _ _ _ _ _ h2, heap_setCell_other _ _ _ _ _ h2, heap_setCell_other _ _ _ _ _ h2, heap_setCell_other _ _ _ _ _ h2, heap_setCell_other _ _ _ _ _ h2, heap_setCell_other _ _ _ _ _ h2, heap_setCell_other _ _ _ _ _ h2, heap_setCell_other _ _ _ _ _ h2, heap_setCell_other _ _ _ _ _ h2, heap_setCell_other _ _ _ _ _ h2, heap_setCell_other _ _ _ _ _ h1]
/-- The copies, where only older rows have changed. -/
theorem rows_kept {n h : Nat} {ds : List MD} {wr F : World} (hc : ∀ (i : Nat) (hi : i < ds.length), MD.CellsAt wr (h + 2) (i * 11) ds[i] ∧ MD.In wr.heap.size wr n ds[i] ∧ MD.Above (h + 2 + 1) n ds[i]) (hg : h + 2 < wr.heap.size)
    (hF : ∀ b, h + 2 ≤ b → b < wr.heap.size → F.heap[b]? = wr.heap[b]?) (hz : wr.heap.size ≤ F.heap.size) :
    (ds = [] ∨ ∃ b o, some (⟨h + 2, 0, none⟩ : Addr) = some ⟨b, o, none⟩ ∧ b < F.heap.size ∧ ∀ (i : Nat) (hi : i < ds.length), MD.CellsAt F b (o + i * 11) ds[i] ∧ MD.In F.heap.size F n ds[i]) ∧ (∀ x ∈ ds, MD.Above h n x) := by
  refine ⟨.inr ⟨h + 2, 0, rfl, by omega, fun i hi => ?_⟩, fun x hx => ?_⟩
  · obtain ⟨q1, q2, q3⟩ := hc i hi
    rw [Nat.zero_add]
    exact ⟨q1.other (hF _ (Nat.le_refl _) hg), MD.In.mono hz n _ (MD.In.aloft hF n _ q2 (MD.Above.mono (by omega) n _ q3))⟩
  · obtain ⟨i, hi, rfl⟩ := List.getElem_of_mem hx
    exact MD.Above.mono (by omega) n _ (hc i hi).2.2
theorem old_cells {w : World} {g k m : Nat} (h : w.there g 0 m) (hk : k * 11 + 11 ≤ m) : ∃ u0 u1 u2 u3 u4 u5 u6 u7 u8 u9 u10 : Value, (w.cell? ⟨g, k * 11, none⟩ = some u0 ∧ w.cell? ⟨g, k * 11 + 1, none⟩ = some u1 ∧ w.cell? ⟨g, k * 11 + 2, none⟩ = some u2 ∧ w.cell? ⟨g, k * 11 + 3, none⟩ = some u3 ∧ w.cell? ⟨g, k * 11 + 4, none⟩ = some u4 ∧ w.cell? ⟨g, k * 11 + 5, none⟩ = some u5 ∧ w.cell? ⟨g, k * 11 + 6, none⟩ = some u6 ∧ w.cell? ⟨g, k * 11 + 7, none⟩ = some u7 ∧ w.cell? ⟨g, k * 11 + 8, none⟩ = some u8 ∧ w.cell? ⟨g, k * 11 + 9, none⟩ = some u9 ∧ w.cell? ⟨g, k * 11 + 10, none⟩ = some u10) ∧
    (w.frozen? ⟨g, k * 11, none⟩ = false ∧ w.frozen? ⟨g, k * 11 + 1, none⟩ = false ∧ w.frozen? ⟨g, k * 11 + 2, none⟩ = false ∧ w.frozen? ⟨g, k * 11 + 3, none⟩ = false ∧ w.frozen? ⟨g, k * 11 + 4, none⟩ = false ∧ w.frozen? ⟨g, k * 11 + 5, none⟩ = false ∧ w.frozen? ⟨g, k * 11 + 6, none⟩ = false ∧ w.frozen? ⟨g, k * 11 + 7, none⟩ = false ∧ w.frozen? ⟨g, k * 11 + 8, none⟩ = false ∧ w.frozen? ⟨g, k * 11 + 9, none⟩ = false ∧ w.frozen? ⟨g, k * 11 + 10, none⟩ = false) := by
  have key := there_part h hk
  have get : ∀ j, j < 11 → ∃ u, w.cell? ⟨g, k * 11 + j, none⟩ = some u := fun j hj => Option.isSome_iff_exists.1 (key j hj).1
  obtain ⟨u0, e0⟩ := get 0 (by omega)
  obtain ⟨u1, e1⟩ := get 1 (by omega)
  obtain ⟨u2, e2⟩ := get 2 (by omega)
  obtain ⟨u3, e3⟩ := get 3 (by omega)
  obtain ⟨u4, e4⟩ := get 4 (by omega)
  obtain ⟨u5, e5⟩ := get 5 (by omega)
  obtain ⟨u6, e6⟩ := get 6 (by omega)
  obtain ⟨u7, e7⟩ := get 7 (by omega)
  obtain ⟨u8, e8⟩ := get 8 (by omega)
  obtain ⟨u9, e9⟩ := get 9 (by omega)
  obtain ⟨u10, e10⟩ := get 10 (by omega)
  exact ⟨u0, u1, u2, u3, u4, u5, u6, u7, u8, u9, u10, ⟨e0, e1, e2, e3, e4, e5, e6, e7, e8, e9, e10⟩, (key 0 (by omega)).2, (key 1 (by omega)).2, (key 2 (by omega)).2, (key 3 (by omega)).2, (key 4 (by omega)).2, (key 5 (by omega)).2, (key 6 (by omega)).2, (key 7 (by omega)).2, (key 8 (by omega)).2, (key 9 (by omega)).2, (key 10 (by omega)).2⟩
theorem wd_item {n : Nat} {items : List MD} {k : Nat} (hk : k < items.length) : MD.wd n items[k] ≤ (items.map (MD.wd n)).sum := by
  have h1 := sum_take_succ (MD.wd n) items k hk
  have h2 := sum_take_le (MD.wd n) items (k + 1)
  omega
theorem len_le_wd (n : Nat) : ∀ l : List MD, l.length ≤ (l.map (MD.wd n)).sum
  | [] => by simp
  | d :: l => by
    have h1 := len_le_wd n l
    have h2 := MD.wd_pos n d
    simp only [List.length_cons, List.map_cons, List.sum_cons]; omega
theorem set10 {w : World} {g : Nat} {v0 v1 v2 v3 v4 v5 v6 v7 v8 v9 v10 v : Value} (h : w.heap[g]? = some (.cells #[v0, v1, v2, v3, v4, v5, v6, v7, v8, v9, v10] 28 (0, 0))) : (w.setCell ⟨g, 10, none⟩ v).heap[g]? = some (.cells #[v0, v1, v2, v3, v4, v5, v6, v7, v8, v9, v] 28 (0, 0)) := by
  have hlt := (Array.getElem?_eq_some_iff.1 h).1
  show (w.heap.modify g _)[g]? = _
  rw [Array.getElem?_eq_getElem (by rw [Array.size_modify]; exact hlt), Array.getElem_modify_self]
  have := (Array.getElem?_eq_some_iff.1 h).2
  rw [this]; rfl

set_option maxRecDepth 100000 in
set_option maxHeartbeats 4000000 in
theorem copied_sn (n : Nat) (hI : CopyC n) (k : Int) (t : ByteArray) (a f : Int) (s : ByteArray) (r0 r1 r2 r3 : Int) (path : List Int) (pc : Nat) (ia : Addr) (ic : Nat) (items : List MD) (w : World)
    (hin : MD.In w.heap.size w (n + 1) ⟨⟨k, t, a, f, s, r0, r1, r2, r3, none, path, pc⟩, (some ia), ic, items⟩) (hw : MD.wd (n + 1) ⟨⟨k, t, a, f, s, r0, r1, r2, r3, none, path, pc⟩, (some ia), ic, items⟩ ≤ 5000) :
    Calls Tryd.prog 28 #[.agg #[.int .i64 k, .string t, .int .i64 a, .int .u64 f, .string s, .int .i64 r0, .int .i64 r1, .int .i64 r2, .int .i64 r3, .slice none path.length pc, .slice (some ia) items.length ic]] w (CopyP (n + 1) ⟨⟨k, t, a, f, s, r0, r1, r2, r3, none, path, pc⟩, (some ia), ic, items⟩ w) := by
  have hF := hin.fine
  have hP := hin.path
  have hlen := hin.len
  have hits := hin.items
  have hwd : 1 + path.length + (items.map (MD.wd n)).sum ≤ 5000 := hw
  have hpl : path.length ≤ 5000 := by omega
  clear hin hw
  obtain ⟨W2, hW2⟩ : ∃ W2, W2 = (w.alloc (.cells #[.int .i64 k, .string t, .int .i64 a, .int .u64 f, .string s, .int .i64 r0, .int .i64 r1, .int .i64 r2, .int .i64 r3, .slice none path.length pc, .slice (some ia) items.length ic] 28)).alloc (.cells #[.int .i64 0, .string ⟨#[]⟩, .int .i64 0, .int .u64 0, .string ⟨#[]⟩, .int .i64 0, .int .i64 0, .int .i64 0, .int .i64 0, .slice none 0 0, .slice none 0 0] 28) := ⟨_, rfl⟩
  have hB2 : Below w.heap.size w W2 := by rw [hW2]; exact below2 _ _ _
  have hz2 : W2.heap.size = w.heap.size + 2 := by rw [hW2]; simp
  have HK : Hid (∀ W, Below W2.heap.size W2 W → Below w.heap.size w W ∧ W.heap[w.heap.size]? = some (.cells #[.int .i64 k, .string t, .int .i64 a, .int .u64 f, .string s, .int .i64 r0, .int .i64 r1, .int .i64 r2, .int .i64 r3, .slice none path.length pc, .slice (some ia) items.length ic] 28 (0, 0)) ∧ W.heap[w.heap.size + 1]? = some (.cells zeros 28 (0, 0))) := fun W hW =>
    ⟨hB2.trans (hW.mono (by omega)), (hW.block _ (by omega)).trans (by rw [hW2, Below.heap_alloc _ _ _ (by simp)]; exact heap_alloc_new _ _), (hW.block _ (by omega)).trans (by rw [hW2]; exact heap2_1 _ _ _)⟩
  have hpe : path = [] := by
    rcases hP.2 with e | ⟨b, o, e, _⟩
    · exact e
    · cases e
  have hil : items.length ≤ 5000 := by have := len_le_wd n items; omega
  obtain ⟨j0, hj, hjz0, hjz1, hjz2⟩ := info_parts info28z
  obtain ⟨M, hM⟩ : ∃ M, M = madeCells (Value.agg zeros).cells (((items.length : Nat) : Int).toNat * j0.size) := ⟨_, rfl⟩
  have hMs : M.size = items.length * 11 := by rw [hM, size_madeCells, hjz1]; simp
  have hmk : ∀ W : World, (Instr.makeSlice 26 (.int .i64 (items.length : Int)) (.int .i64 (items.length : Int))).run Tryd.prog W = .ok (.slice (some ⟨W.heap.size, 0, none⟩) items.length items.length) (W.alloc (.cells M 28)) := fun W => by
    have h := run_make (P := Tryd.prog) W 26 28 j0 (.agg zeros) Tryd.underlying26 hj hjz0 .i64 .i64 (items.length : Int) (items.length : Int) (by omega) (by omega) (by rw [hjz2]; omega) (by omega)
    rw [← hM] at h
    simpa using h
  clear hM hj hjz0 hjz1 hjz2
  have HA : Hid (MD.Fine ⟨k, t, a, f, s, r0, r1, r2, r3, none, path, pc⟩ ∧ (∀ x ∈ path, -9223372036854775808 ≤ x ∧ x ≤ 9223372036854775807) ∧ path = []) := ⟨hF, hP.1, hpe⟩
  have HIt : Hid (MD.ItemsIn w.heap.size w n ⟨⟨k, t, a, f, s, r0, r1, r2, r3, none, path, pc⟩, some ia, ic, items⟩) := hits
  have HI : Hid (CopyC n) := hI
  have HWD : Hid ((items.map (MD.wd n)).sum ≤ 5000) := by show _ ≤ _; omega
  clear hF hP hlen hits hwd hI hpe
  go_enter Tryd.func28, Tryd.ntmps28
  go_wp2_with fail
  rw [← hW2]
  clear hW2
  go_loopw [4] (fun i wr => CopyRel n items W2 (w.heap.size + 2) i wr) (fun i _ => items.length - (intOf i).toNat)
  case atStart =>
    refine ⟨0, [], Nat.zero_le _, rfl, rfl, (Below.refl _ _).alloc (Nat.le_refl _) _, by simp; omega, ?_, fun i hi => absurd hi (by simp), rfl⟩
    have := there_new W2 M 28 (items.length * 11) hMs
    rwa [hz2] at this
  case round =>
    obtain ⟨k', ds, hk, rfl, hds, hb', hg, hth, hc', ha⟩ := hrel
    obtain ⟨hb0, hbox, hres⟩ := HK.out wr hb'
    by_cases hlt : k' < items.length
    · have i1 : (k' : Int) < items.length := by omega
      obtain ⟨bb, o, rfl, hbB, hC, hIn⟩ : ∃ bb o, ia = ⟨bb, o, none⟩ ∧ bb < w.heap.size ∧ MD.CellsAt wr bb (o + k' * 11) items[k'] ∧ MD.In w.heap.size wr n items[k'] := by
        rcases MD.ItemsIn.below HIt.out hb0 with e | ⟨bb, o, e1, e2, e3⟩
        · have e' : items = [] := e
          rw [e'] at hlt; simp at hlt
        · exact ⟨bb, o, Option.some.inj e1, e2, e3 k' hlt⟩
      have hcb : ∀ j, wr.cell? ⟨w.heap.size, j, none⟩ = (#[.int .i64 k, .string t, .int .i64 a, .int .u64 f, .string s, .int .i64 r0, .int .i64 r1, .int .i64 r2, .int .i64 r3, .slice none path.length pc, .slice (some ⟨bb, o, none⟩) items.length ic] : Array Value)[j]? := row_at hbox
      have HN : Hid (∀ (w9 : World) (d : MD), Below wr.heap.size wr w9 → MD.In w9.heap.size w9 n d → MD.Above wr.heap.size n d → MD.same n items[k'] d = true → CopyRel n items W2 (w.heap.size + 2) (.int .i64 ((k' : Int) + 1)) (w9.setCells (w.heap.size + 2) (k' * 11) d.cells.toList)) := fun w9 d h1 h2 h3 h4 =>
        CopyRel.next hlt hds hb' (by omega) hg hth hc' ha h1 h2 h3 h4
      have HO : Hid (wr.there (w.heap.size + 2) 0 (items.length * 11)) := hth
      have HW : Hid (MD.wd n items[k'] ≤ 5000) := Nat.le_trans (wd_item hlt) HWD.out
      generalize items[k'] = kid at hC hIn HN HW
      obtain ⟨⟨k0, k1, k2, k3, k4, k5, k6, k7, k8, kp, kpath, kpc⟩, kip, kic, kit⟩ := kid
      have c0 : wr.cell? ⟨bb, o + k' * 11, none⟩ = some (.int .i64 k0) := hC 0 (by omega)
      have c1 : wr.cell? ⟨bb, o + k' * 11 + 1, none⟩ = some (.string k1) := hC 1 (by omega)
      have c2 : wr.cell? ⟨bb, o + k' * 11 + 2, none⟩ = some (.int .i64 k2) := hC 2 (by omega)
      have c3 : wr.cell? ⟨bb, o + k' * 11 + 3, none⟩ = some (.int .u64 k3) := hC 3 (by omega)
      have c4 : wr.cell? ⟨bb, o + k' * 11 + 4, none⟩ = some (.string k4) := hC 4 (by omega)
      have c5 : wr.cell? ⟨bb, o + k' * 11 + 5, none⟩ = some (.int .i64 k5) := hC 5 (by omega)
      have c6 : wr.cell? ⟨bb, o + k' * 11 + 6, none⟩ = some (.int .i64 k6) := hC 6 (by omega)
      have c7 : wr.cell? ⟨bb, o + k' * 11 + 7, none⟩ = some (.int .i64 k7) := hC 7 (by omega)
      have c8 : wr.cell? ⟨bb, o + k' * 11 + 8, none⟩ = some (.int .i64 k8) := hC 8 (by omega)
      have c9 : wr.cell? ⟨bb, o + k' * 11 + 9, none⟩ = some (.slice kp kpath.length kpc) := hC 9 (by omega)
      have c10 : wr.cell? ⟨bb, o + k' * 11 + 10, none⟩ = some (.slice kip kit.length kic) := hC 10 (by omega)
      have HC : Hid (Calls Tryd.prog 28 #[.agg #[.int .i64 k0, .string k1, .int .i64 k2, .int .u64 k3, .string k4, .int .i64 k5, .int .i64 k6, .int .i64 k7, .int .i64 k8, .slice kp kpath.length kpc, .slice kip kit.length kic]] wr (CopyP n ⟨⟨k0, k1, k2, k3, k4, k5, k6, k7, k8, kp, kpath, kpc⟩, kip, kic, kit⟩ wr)) := HI.out ⟨⟨k0, k1, k2, k3, k4, k5, k6, k7, k8, kp, kpath, kpc⟩, kip, kic, kit⟩ wr (MD.In.mono (Nat.le_trans (Nat.le_add_right _ 2) (Nat.le_of_lt hg)) n _ hIn) HW.out
      clear hC hIn HW ha hc' hb' hbox hres hb0 hth HI
      go_wp2_with (go_at_call 28; refine HC.out.mono ?_; rintro r w9 ⟨d', rfl, hd1, hd2, hd3, hd4⟩; obtain ⟨⟨l0, l1, l2, l3, l4, l5, l6, l7, l8, lp, lpath, lpc⟩, lip, lic, lit⟩ := d'; have HR := HN.out w9 ⟨⟨l0, l1, l2, l3, l4, l5, l6, l7, l8, lp, lpath, lpc⟩, lip, lic, lit⟩ hd4 hd1 hd2 hd3; have HR2 : Hid _ := HR; obtain ⟨u0, u1, u2, u3, u4, u5, u6, u7, u8, u9, u10, ⟨e0, e1, e2, e3, e4, e5, e6, e7, e8, e9, e10⟩, f0, f1, f2, f3, f4, f5, f6, f7, f8, f9, f10⟩ := old_cells (there_below HO.out hg hd4) (show k' * 11 + 11 ≤ items.length * 11 by omega); simp only [MD.val, D]; clear HR hd1 hd2 hd3 hd4)
      exact ⟨HR2.out, by simp [intOf]; omega⟩
    · have i1 : ¬ (k' : Int) < items.length := by omega
      obtain rfl : k' = items.length := by omega
      rw [List.take_of_length_le (Nat.le_refl _)] at ha
      have hcb : ∀ j, wr.cell? ⟨w.heap.size, j, none⟩ = (#[.int .i64 k, .string t, .int .i64 a, .int .u64 f, .string s, .int .i64 r0, .int .i64 r1, .int .i64 r2, .int .i64 r3, .slice none path.length pc, .slice (some ia) items.length ic] : Array Value)[j]? := row_at hbox
      have hfb : ∀ j, wr.frozen? ⟨w.heap.size, j, none⟩ = false := fun j => fz _ _ _ _ j hbox
      have hrc : ∀ j, wr.cell? ⟨w.heap.size + 1, j, none⟩ = (#[.int .i64 0, .string ⟨#[]⟩, .int .i64 0, .int .u64 0, .string ⟨#[]⟩, .int .i64 0, .int .i64 0, .int .i64 0, .int .i64 0, .slice none 0 0, .slice none 0 0] : Array Value)[j]? := row_at hres
      have hrf : ∀ j, wr.frozen? ⟨w.heap.size + 1, j, none⟩ = false := fun j => fz _ _ _ _ j hres
      have HE : Hid (ds.length = items.length ∧ Below w.heap.size w wr ∧ w.heap.size + 2 < wr.heap.size ∧ (∀ (i : Nat) (hi : i < ds.length), MD.CellsAt wr (w.heap.size + 2) (i * 11) ds[i] ∧ MD.In wr.heap.size wr n ds[i] ∧ MD.Above (w.heap.size + 2 + 1) n ds[i]) ∧ all2 (MD.same n) items ds = true) := ⟨hds, hb0, hg, hc', ha⟩
      clear ha hc' hb' hbox hres hb0 hth HI hds
      go_wp2_with fail
      refine bodyPost_ret (v := .agg #[.int .i64 k, .string t, .int .i64 a, .int .u64 f, .string s, .int .i64 r0, .int .i64 r1, .int .i64 r2, .int .i64 r3, .slice none path.length pc, .slice (some ⟨w.heap.size + 2, 0, none⟩) items.length items.length]) (by simp [results, Tryd.results28, go_sem, hrc]) rfl ?_
      obtain ⟨q1, q2, q3, q4, q5⟩ := HE.out
      obtain ⟨y1, y2, y3⟩ := HA.out
      have hkeep := fun (b : Nat) (h1 : w.heap.size + 2 ≤ b) (_ : b < wr.heap.size) => eleven_after wr w.heap.size b (by omega) (by omega) 10 (.slice (some ⟨w.heap.size + 2, 0, none⟩) items.length items.length) (.int .i64 k) (.string t) (.int .i64 a) (.int .u64 f) (.string s) (.int .i64 r0) (.int .i64 r1) (.int .i64 r2) (.int .i64 r3) (.slice none path.length pc) (.slice (some ⟨w.heap.size + 2, 0, none⟩) items.length items.length)
      obtain ⟨z1, z2⟩ := rows_kept q4 q3 hkeep (by simp)
      exact copy_done none pc (some ⟨w.heap.size + 2, 0, none⟩) items.length ds (bset (q2.setCell (p := ⟨w.heap.size, 10, none⟩) (Nat.le_refl _) _) (by omega) _ _ _ _ _ _ _ _ _ _ _) y1 y2 y1.pl y1.pm ⟨.inl y3, fun _ _ e => (by cases e)⟩ q1 (Nat.le_refl _) (by unfold maxLen; omega) z1 ⟨fun b o e => (by cases e; omega), z2⟩ q5

set_option maxRecDepth 100000 in
set_option maxHeartbeats 4000000 in
theorem copied_ss (n : Nat) (hI : CopyC n) (k : Int) (t : ByteArray) (a f : Int) (s : ByteArray) (r0 r1 r2 r3 : Int) (pa : Addr) (path : List Int) (pc : Nat) (ia : Addr) (ic : Nat) (items : List MD) (w : World)
    (hin : MD.In w.heap.size w (n + 1) ⟨⟨k, t, a, f, s, r0, r1, r2, r3, (some pa), path, pc⟩, (some ia), ic, items⟩) (hw : MD.wd (n + 1) ⟨⟨k, t, a, f, s, r0, r1, r2, r3, (some pa), path, pc⟩, (some ia), ic, items⟩ ≤ 5000) :
    Calls Tryd.prog 28 #[.agg #[.int .i64 k, .string t, .int .i64 a, .int .u64 f, .string s, .int .i64 r0, .int .i64 r1, .int .i64 r2, .int .i64 r3, .slice (some pa) path.length pc, .slice (some ia) items.length ic]] w (CopyP (n + 1) ⟨⟨k, t, a, f, s, r0, r1, r2, r3, (some pa), path, pc⟩, (some ia), ic, items⟩ w) := by
  have hF := hin.fine
  have hP := hin.path
  have hlen := hin.len
  have hits := hin.items
  have hwd : 1 + path.length + (items.map (MD.wd n)).sum ≤ 5000 := hw
  have hpl : path.length ≤ 5000 := by omega
  clear hin hw
  obtain ⟨W2, hW2⟩ : ∃ W2, W2 = (w.alloc (.cells #[.int .i64 k, .string t, .int .i64 a, .int .u64 f, .string s, .int .i64 r0, .int .i64 r1, .int .i64 r2, .int .i64 r3, .slice (some pa) path.length pc, .slice (some ia) items.length ic] 28)).alloc (.cells #[.int .i64 0, .string ⟨#[]⟩, .int .i64 0, .int .u64 0, .string ⟨#[]⟩, .int .i64 0, .int .i64 0, .int .i64 0, .int .i64 0, .slice none 0 0, .slice none 0 0] 28) := ⟨_, rfl⟩
  have hB2 : Below w.heap.size w W2 := by rw [hW2]; exact below2 _ _ _
  have hz2 : W2.heap.size = w.heap.size + 2 := by rw [hW2]; simp
  have HK : Hid (∀ W, Below W2.heap.size W2 W → Below w.heap.size w W ∧ W.heap[w.heap.size]? = some (.cells #[.int .i64 k, .string t, .int .i64 a, .int .u64 f, .string s, .int .i64 r0, .int .i64 r1, .int .i64 r2, .int .i64 r3, .slice (some pa) path.length pc, .slice (some ia) items.length ic] 28 (0, 0)) ∧ W.heap[w.heap.size + 1]? = some (.cells zeros 28 (0, 0))) := fun W hW =>
    ⟨hB2.trans (hW.mono (by omega)), (hW.block _ (by omega)).trans (by rw [hW2, Below.heap_alloc _ _ _ (by simp)]; exact heap_alloc_new _ _), (hW.block _ (by omega)).trans (by rw [hW2]; exact heap2_1 _ _ _)⟩
  have hil : items.length ≤ 5000 := by have := len_le_wd n items; omega
  obtain ⟨j0, hj, hjz0, hjz1, hjz2⟩ := info_parts info28z
  obtain ⟨M, hM⟩ : ∃ M, M = madeCells (Value.agg zeros).cells (((items.length : Nat) : Int).toNat * j0.size) := ⟨_, rfl⟩
  have hMs : M.size = items.length * 11 := by rw [hM, size_madeCells, hjz1]; simp
  have hmk : ∀ W : World, (Instr.makeSlice 26 (.int .i64 (items.length : Int)) (.int .i64 (items.length : Int))).run Tryd.prog W = .ok (.slice (some ⟨W.heap.size, 0, none⟩) items.length items.length) (W.alloc (.cells M 28)) := fun W => by
    have h := run_make (P := Tryd.prog) W 26 28 j0 (.agg zeros) Tryd.underlying26 hj hjz0 .i64 .i64 (items.length : Int) (items.length : Int) (by omega) (by omega) (by rw [hjz2]; omega) (by omega)
    rw [← hM] at h
    simpa using h
  clear hM hj hjz0 hjz1 hjz2
  obtain ⟨i0, hi, hz0, hz1, hz2'⟩ := info_parts info3z
  have HPC : Hid (∀ W : World, (∀ b, b < w.heap.size → W.heap[b]? = w.heap[b]?) → ∀ (j : Nat) (u : Value), (path.map (Value.int .i64))[j]? = some u → W.cell? (pa.add j) = some u) := fun W hW => path_cells hP.2 W hW
  have HA : Hid (MD.Fine ⟨k, t, a, f, s, r0, r1, r2, r3, (some pa), path, pc⟩ ∧ (∀ x ∈ path, -9223372036854775808 ≤ x ∧ x ≤ 9223372036854775807)) := ⟨hF, hP.1⟩
  have HIt : Hid (MD.ItemsIn w.heap.size w n ⟨⟨k, t, a, f, s, r0, r1, r2, r3, (some pa), path, pc⟩, some ia, ic, items⟩) := hits
  have HI : Hid (CopyC n) := hI
  have HWD : Hid ((items.map (MD.wd n)).sum ≤ 5000) := by show _ ≤ _; omega
  clear hF hP hlen hits hwd hI
  go_enter Tryd.func28, Tryd.ntmps28
  go_wp2_with fail
  rw [← hW2]
  clear hW2
  go_loopw [4] (fun i wr => CopyRel n items W2 (w.heap.size + 2) i wr) (fun i _ => items.length - (intOf i).toNat)
  case atStart =>
    refine ⟨0, [], Nat.zero_le _, rfl, rfl, (Below.refl _ _).alloc (Nat.le_refl _) _, by simp; omega, ?_, fun i hi => absurd hi (by simp), rfl⟩
    have := there_new W2 M 28 (items.length * 11) hMs
    rwa [hz2] at this
  case round =>
    obtain ⟨k', ds, hk, rfl, hds, hb', hg, hth, hc', ha⟩ := hrel
    obtain ⟨hb0, hbox, hres⟩ := HK.out wr hb'
    by_cases hlt : k' < items.length
    · have i1 : (k' : Int) < items.length := by omega
      obtain ⟨bb, o, rfl, hbB, hC, hIn⟩ : ∃ bb o, ia = ⟨bb, o, none⟩ ∧ bb < w.heap.size ∧ MD.CellsAt wr bb (o + k' * 11) items[k'] ∧ MD.In w.heap.size wr n items[k'] := by
        rcases MD.ItemsIn.below HIt.out hb0 with e | ⟨bb, o, e1, e2, e3⟩
        · have e' : items = [] := e
          rw [e'] at hlt; simp at hlt
        · exact ⟨bb, o, Option.some.inj e1, e2, e3 k' hlt⟩
      have hcb : ∀ j, wr.cell? ⟨w.heap.size, j, none⟩ = (#[.int .i64 k, .string t, .int .i64 a, .int .u64 f, .string s, .int .i64 r0, .int .i64 r1, .int .i64 r2, .int .i64 r3, .slice (some pa) path.length pc, .slice (some ⟨bb, o, none⟩) items.length ic] : Array Value)[j]? := row_at hbox
      have HN : Hid (∀ (w9 : World) (d : MD), Below wr.heap.size wr w9 → MD.In w9.heap.size w9 n d → MD.Above wr.heap.size n d → MD.same n items[k'] d = true → CopyRel n items W2 (w.heap.size + 2) (.int .i64 ((k' : Int) + 1)) (w9.setCells (w.heap.size + 2) (k' * 11) d.cells.toList)) := fun w9 d h1 h2 h3 h4 =>
        CopyRel.next hlt hds hb' (by omega) hg hth hc' ha h1 h2 h3 h4
      have HO : Hid (wr.there (w.heap.size + 2) 0 (items.length * 11)) := hth
      have HW : Hid (MD.wd n items[k'] ≤ 5000) := Nat.le_trans (wd_item hlt) HWD.out
      generalize items[k'] = kid at hC hIn HN HW
      obtain ⟨⟨k0, k1, k2, k3, k4, k5, k6, k7, k8, kp, kpath, kpc⟩, kip, kic, kit⟩ := kid
      have c0 : wr.cell? ⟨bb, o + k' * 11, none⟩ = some (.int .i64 k0) := hC 0 (by omega)
      have c1 : wr.cell? ⟨bb, o + k' * 11 + 1, none⟩ = some (.string k1) := hC 1 (by omega)
      have c2 : wr.cell? ⟨bb, o + k' * 11 + 2, none⟩ = some (.int .i64 k2) := hC 2 (by omega)
      have c3 : wr.cell? ⟨bb, o + k' * 11 + 3, none⟩ = some (.int .u64 k3) := hC 3 (by omega)
      have c4 : wr.cell? ⟨bb, o + k' * 11 + 4, none⟩ = some (.string k4) := hC 4 (by omega)
      have c5 : wr.cell? ⟨bb, o + k' * 11 + 5, none⟩ = some (.int .i64 k5) := hC 5 (by omega)
      have c6 : wr.cell? ⟨bb, o + k' * 11 + 6, none⟩ = some (.int .i64 k6) := hC 6 (by omega)
      have c7 : wr.cell? ⟨bb, o + k' * 11 + 7, none⟩ = some (.int .i64 k7) := hC 7 (by omega)
      have c8 : wr.cell? ⟨bb, o + k' * 11 + 8, none⟩ = some (.int .i64 k8) := hC 8 (by omega)
      have c9 : wr.cell? ⟨bb, o + k' * 11 + 9, none⟩ = some (.slice kp kpath.length kpc) := hC 9 (by omega)
      have c10 : wr.cell? ⟨bb, o + k' * 11 + 10, none⟩ = some (.slice kip kit.length kic) := hC 10 (by omega)
      have HC : Hid (Calls Tryd.prog 28 #[.agg #[.int .i64 k0, .string k1, .int .i64 k2, .int .u64 k3, .string k4, .int .i64 k5, .int .i64 k6, .int .i64 k7, .int .i64 k8, .slice kp kpath.length kpc, .slice kip kit.length kic]] wr (CopyP n ⟨⟨k0, k1, k2, k3, k4, k5, k6, k7, k8, kp, kpath, kpc⟩, kip, kic, kit⟩ wr)) := HI.out ⟨⟨k0, k1, k2, k3, k4, k5, k6, k7, k8, kp, kpath, kpc⟩, kip, kic, kit⟩ wr (MD.In.mono (Nat.le_trans (Nat.le_add_right _ 2) (Nat.le_of_lt hg)) n _ hIn) HW.out
      clear hC hIn HW ha hc' hb' hbox hres hb0 hth HI
      go_wp2_with (go_at_call 28; refine HC.out.mono ?_; rintro r w9 ⟨d', rfl, hd1, hd2, hd3, hd4⟩; obtain ⟨⟨l0, l1, l2, l3, l4, l5, l6, l7, l8, lp, lpath, lpc⟩, lip, lic, lit⟩ := d'; have HR := HN.out w9 ⟨⟨l0, l1, l2, l3, l4, l5, l6, l7, l8, lp, lpath, lpc⟩, lip, lic, lit⟩ hd4 hd1 hd2 hd3; have HR2 : Hid _ := HR; obtain ⟨u0, u1, u2, u3, u4, u5, u6, u7, u8, u9, u10, ⟨e0, e1, e2, e3, e4, e5, e6, e7, e8, e9, e10⟩, f0, f1, f2, f3, f4, f5, f6, f7, f8, f9, f10⟩ := old_cells (there_below HO.out hg hd4) (show k' * 11 + 11 ≤ items.length * 11 by omega); simp only [MD.val, D]; clear HR hd1 hd2 hd3 hd4)
      exact ⟨HR2.out, by simp [intOf]; omega⟩
    · have i1 : ¬ (k' : Int) < items.length := by omega
      obtain rfl : k' = items.length := by omega
      rw [List.take_of_length_le (Nat.le_refl _)] at ha
      have hcb : ∀ j, wr.cell? ⟨w.heap.size, j, none⟩ = (#[.int .i64 k, .string t, .int .i64 a, .int .u64 f, .string s, .int .i64 r0, .int .i64 r1, .int .i64 r2, .int .i64 r3, .slice (some pa) path.length pc, .slice (some ia) items.length ic] : Array Value)[j]? := row_at hbox
      have hfb : ∀ j, wr.frozen? ⟨w.heap.size, j, none⟩ = false := fun j => fz _ _ _ _ j hbox
      have hrc : ∀ j, wr.cell? ⟨w.heap.size + 1, j, none⟩ = (#[.int .i64 0, .string ⟨#[]⟩, .int .i64 0, .int .u64 0, .string ⟨#[]⟩, .int .i64 0, .int .i64 0, .int .i64 0, .int .i64 0, .slice none 0 0, .slice none 0 0] : Array Value)[j]? := row_at hres
      have hrf : ∀ j, wr.frozen? ⟨w.heap.size + 1, j, none⟩ = false := fun j => fz _ _ _ _ j hres
      have HE : Hid (ds.length = items.length ∧ Below w.heap.size w wr ∧ w.heap.size + 2 < wr.heap.size ∧ (∀ (i : Nat) (hi : i < ds.length), MD.CellsAt wr (w.heap.size + 2) (i * 11) ds[i] ∧ MD.In wr.heap.size wr n ds[i] ∧ MD.Above (w.heap.size + 2 + 1) n ds[i]) ∧ all2 (MD.same n) items ds = true) := ⟨hds, hb0, hg, hc', ha⟩
      obtain ⟨wc, hwc⟩ : ∃ wc, wc = wr.setCell ⟨w.heap.size, 10, none⟩ (.slice (some ⟨w.heap.size + 2, 0, none⟩) items.length items.length) := ⟨_, rfl⟩
      have hwz : wc.heap.size = wr.heap.size := by rw [hwc]; simp
      have HKC : Hid (∀ W, Below wc.heap.size wc W → (∀ j, W.cell? ⟨w.heap.size, j, none⟩ = (#[.int .i64 k, .string t, .int .i64 a, .int .u64 f, .string s, .int .i64 r0, .int .i64 r1, .int .i64 r2, .int .i64 r3, .slice (some pa) path.length pc, .slice (some ⟨w.heap.size + 2, 0, none⟩) items.length items.length] : Array Value)[j]?) ∧ (∀ j, W.frozen? ⟨w.heap.size, j, none⟩ = false) ∧ (∀ j, W.cell? ⟨w.heap.size + 1, j, none⟩ = (#[.int .i64 0, .string ⟨#[]⟩, .int .i64 0, .int .u64 0, .string ⟨#[]⟩, .int .i64 0, .int .i64 0, .int .i64 0, .int .i64 0, .slice none 0 0, .slice none 0 0] : Array Value)[j]?) ∧ (∀ j, W.frozen? ⟨w.heap.size + 1, j, none⟩ = false)) := fun W hW => by
        have x1 : (w.heap.size : Nat) < wc.heap.size := by omega
        have x2 : w.heap.size + 1 < wc.heap.size := by omega
        have y2 : wc.heap[w.heap.size + 1]? = wr.heap[w.heap.size + 1]? := by rw [hwc]; exact heap_setCell_other _ _ _ _ _ (by omega)
        have y1 : wc.heap[w.heap.size]? = some (.cells #[.int .i64 k, .string t, .int .i64 a, .int .u64 f, .string s, .int .i64 r0, .int .i64 r1, .int .i64 r2, .int .i64 r3, .slice (some pa) path.length pc, .slice (some ⟨w.heap.size + 2, 0, none⟩) items.length items.length] 28 (0, 0)) := by rw [hwc]; exact set10 hbox
        exact ⟨fun j => row_at ((hW.block _ x1).trans y1) j, fun j => fz _ _ _ _ j ((hW.block _ x1).trans y1), fun j => row_at ((hW.block _ x2).trans (y2.trans hres)) j, fun j => fz _ _ _ _ j ((hW.block _ x2).trans (y2.trans hres))⟩
      have hWb : ∀ b, b < w.heap.size → wc.heap[b]? = w.heap[b]? := fun b hb => by rw [hwc]; exact (heap_setCell_other _ _ _ _ _ (by omega)).trans (hb0.block b hb)
      have HWC : Hid (∀ b, w.heap.size + 2 ≤ b → wc.heap[b]? = wr.heap[b]?) := fun b hb => by rw [hwc]; exact heap_setCell_other _ _ _ _ _ (by omega)
      have HBC : Hid (Below w.heap.size w wc) := by rw [hwc]; exact hb0.setCell (p := ⟨w.heap.size, 10, none⟩) (Nat.le_refl _) _
      clear ha hc' hb' hbox hres hb0 hth HI hds
      go_wp2_with (at_builtin; rw [← hwc]; refine wpList_append_own _ rfl _ _ 23 rfl (w.heap.size + 2) 3 i0 (.int .i64 0) 1 8 Tryd.underlying23 hi hz0 hz1 hz2' rfl (by decide) _ 0 [] rfl (World.ownsRow_nil _ _ _ _) pa path.length pc (path.map (Value.int .i64)) rfl (by simp) (HPC.out wc hWb) (numsOf path) (by unfold maxLen; omega) (by omega) (by omega) ?_; intro v' w3 hown3 hgr3 hnil3; obtain ⟨⟨pp2, pc2, rfl, hq1, hq2, hq3, hq4⟩, hold, hsz, hbel⟩ := path_new hown3 hgr3 hnil3; have hc3 := (HKC.out w3 hbel).1; have hf3 := (HKC.out w3 hbel).2.1; have hr3 := (HKC.out w3 hbel).2.2.1; have hg3 := (HKC.out w3 hbel).2.2.2; have HG3 : Hid (Below wc.heap.size wc w3 ∧ path.length ≤ pc2 ∧ pc2 ≤ maxLen ∧ (path = [] ∨ ∃ g, pp2 = some ⟨g, 0, none⟩ ∧ g < w3.heap.size ∧ w.heap.size + 2 ≤ g ∧ ∀ (i : Nat) (hi : i < path.length), w3.cell? ⟨g, 0 + i, none⟩ = some (.int .i64 path[i])) ∧ ∀ b o, pp2 = some ⟨b, o, none⟩ → w.heap.size + 2 ≤ b) := ⟨hbel, hq1, hq2, hq3, hq4⟩; clear hown3 hgr3 hnil3 hold hsz hbel hq1 hq2 hq3 hq4 hcb hfb hrc hrf)
      refine bodyPost_ret (v := .agg #[.int .i64 k, .string t, .int .i64 a, .int .u64 f, .string s, .int .i64 r0, .int .i64 r1, .int .i64 r2, .int .i64 r3, .slice pp2 path.length pc2, .slice (some ⟨w.heap.size + 2, 0, none⟩) items.length items.length]) (by simp [results, Tryd.results28, go_sem, hr3]) rfl ?_
      obtain ⟨g1, g2, g3, g4, g5⟩ := HG3.out
      obtain ⟨q1, q2, q3, q4, q5⟩ := HE.out
      obtain ⟨y1, y2⟩ := HA.out
      have hsz3 := g1.size
      have hB3 : Below w.heap.size w w3 := HBC.out.trans (g1.mono (by omega))
      have hkeep := fun (b : Nat) (h1 : w.heap.size + 2 ≤ b) (h2 : b < wr.heap.size) => (eleven_after w3 w.heap.size b (by omega) (by omega) 9 (.slice pp2 path.length pc2) (.int .i64 k) (.string t) (.int .i64 a) (.int .u64 f) (.string s) (.int .i64 r0) (.int .i64 r1) (.int .i64 r2) (.int .i64 r3) (.slice pp2 path.length pc2) (.slice (some ⟨w.heap.size + 2, 0, none⟩) items.length items.length)).trans ((g1.block b (by omega)).trans (HWC.out b h1))
      obtain ⟨z1, z2⟩ := rows_kept q4 q3 hkeep (by simp; omega)
      exact copy_done pp2 pc2 (some ⟨w.heap.size + 2, 0, none⟩) items.length ds (bset (hB3.setCell (p := ⟨w.heap.size, 9, none⟩) (Nat.le_refl _) _) (by omega) _ _ _ _ _ _ _ _ _ _ _) y1 y2 g2 g3 ⟨path_kept g4 (fun b h1 h2 => eleven_other w3 w.heap.size b h1 h2 _ _ _ _ _ _ _ _ _ _ _ _) (by simp), fun b o e => (by have := g5 b o e; omega)⟩ q1 (Nat.le_refl _) (by unfold maxLen; omega) z1 ⟨fun b o e => (by cases e; omega), z2⟩ q5

theorem copied_any : ∀ n, CopyC n
  | 0 => fun _ _ h _ => h.elim
  | n + 1 => by
    intro d w hin hw
    obtain ⟨⟨k, t, a, f, s, r0, r1, r2, r3, pp, path, pc⟩, ip, ic, items⟩ := d
    cases ip with
    | none =>
      cases pp with
      | none => exact copied_nn n k t a f s r0 r1 r2 r3 path pc ic items w hin hw
      | some pa => exact copied_ns n k t a f s r0 r1 r2 r3 pa path pc ic items w hin hw
    | some ia =>
      cases pp with
      | none => exact copied_sn n (copied_any n) k t a f s r0 r1 r2 r3 path pc ia ic items w hin hw
      | some pa => exact copied_ss n (copied_any n) k t a f s r0 r1 r2 r3 pa path pc ia ic items w hin hw
end Go.Proofs.YtnhbpcmiolkllaaDoor
namespace Go.Proofs.YtnhbpcmiolkllaaDoor
open Go.RowKit

/-- A new row of m elements, or none. -/
def NewRow (w w' : World) (e : TypeId) (size m : Nat) (news : List Value) (p2 : Option Addr) (c2 : Nat) : Prop :=
  m ≤ c2 ∧ c2 ≤ maxLen ∧ Below w.heap.size w w' ∧ (∀ b o, p2 = some ⟨b, o, none⟩ → w.heap.size ≤ b) ∧
  ((m = 0 ∧ p2 = none ∧ c2 = 0) ∨ ∃ g cur, 0 < m ∧ p2 = some ⟨g, 0, none⟩ ∧ w.heap.size ≤ g ∧ g < w'.heap.size ∧ w'.heap[g]? = some (.cells cur e (0, 0)) ∧ m * size ≤ cur.size ∧ cur.toList.take (m * size) = news)

theorem run_append_new {P : Program} (w : World) (t ty e : TypeId) (i : TypeInfo) (z : Value) (size bytes : Nat) (ht : P.underlying t = some (.slice e)) (hi : P.info? e = some i) (hz : i.zero = some z)
    (hsize : i.size = size) (hby : i.bytes = bytes) (hzs : z.cells.size = size) (hsz : 0 < size) (sp : Option Addr) (m c : Nat) (news : List Value) (hl : news.length = m * size) (hn : sp = none → m = 0)
    (hnews : ∀ ad, sp = some ad → ∀ j u, news[j]? = some u → w.cell? (ad.add j) = some u) (h1 : ∀ u ∈ news, u.oneCell' = true) (h63 : m ≤ maxLen) (hbytes : m * bytes ≤ 140737488355328) :
    ∃ p2 c2 w', (Builtin.append_ #[t, t] ty #[.slice none 0 0, .slice sp m c]).run P w = .ok (.slice p2 m c2) w' ∧ NewRow w w' e size m news p2 c2 := by
  cases sp with
  | none =>
    obtain rfl := hn rfl
    refine ⟨none, 0, w, ?_, Nat.le_refl _, Nat.zero_le _, Below.refl _ _, fun _ _ h => (by cases h), .inl ⟨rfl, rfl, rfl⟩⟩
    simp [Builtin.append_, run_underlying ht, sizeOf, typeInfo, hi, Builtin.lenOf, Builtin.firstCells]
  | some ad =>
    obtain ⟨v', w', hr, h2, h3, h4⟩ := run_append_own (P := P) w w.heap.size t ty e i z size bytes ht hi hz hsize hby hzs hsz (.slice none 0 0) 0 [] (World.ownsRow_nil _ _ _ _) ad m c news hl (hnews ad rfl) h1 (by omega) (by rw [Nat.zero_add]; exact hbytes) (Nat.le_refl _)
    have hbel : Below w.heap.size w w' := Below.grown (Below.refl _ _) h3 (Nat.le_refl _) (fun j hj => by simp [Value.ownBlock] at hj)
    rw [List.nil_append, Nat.zero_add] at h2
    by_cases hm : m = 0
    · obtain rfl := h4.2 ⟨rfl, hm⟩
      subst hm
      exact ⟨none, 0, w', hr, Nat.le_refl _, Nat.zero_le _, hbel, fun _ _ h => (by cases h), .inl ⟨rfl, rfl, rfl⟩⟩
    · rcases h2.2 with ⟨_, h0⟩ | ⟨g, cap, cur, rfl, hb, hg, hc, hcm, hcs, htk⟩
      · exact absurd h0 hm
      · exact ⟨some ⟨g, 0, none⟩, cap, w', hr, hc, hcm, hbel, fun b o h => (by cases h; exact hb), .inr ⟨g, cur, by omega, rfl, hb, (Array.getElem?_eq_some_iff.1 hg).1, hg, by rw [hcs]; exact Nat.mul_le_mul_right _ hc, htk⟩⟩

theorem wpList_append_new {P : Program} {w : World} {ops : Array Oper} {rest : List Oper} {o : Oper} {a : Act} {Q : Exit → Act → World → Prop} (hgd : o.guard = none) (s x : Operand) (t : TypeId)
    (ho : o.op = .call { callee := .builtin .append, args := #[s, x], argTypes := #[t, t] })
    (e : TypeId) (i : TypeInfo) (z : Value) (size bytes : Nat) (ht : P.underlying t = some (.slice e)) (hi : P.info? e = some i) (hz : i.zero = some z)
    (hsize : i.size = size) (hby : i.bytes = bytes) (hzs : z.cells.size = size) (hsz : 0 < size) (hs : a.eval s = .slice none 0 0) (sp : Option Addr) (m c : Nat) (news : List Value) (hx : a.eval x = .slice sp m c)
    (hl : news.length = m * size) (hn : sp = none → m = 0)
    (hnews : ∀ ad, sp = some ad → ∀ j u, news[j]? = some u → w.cell? (ad.add j) = some u) (h1 : ∀ u ∈ news, u.oneCell' = true) (h63 : m ≤ maxLen) (hbytes : m * bytes ≤ 140737488355328)
    (h : ∀ p2 c2 w', NewRow w w' e size m news p2 c2 → wpList P ops Q rest (a.put o.dst (.slice p2 m c2)) w') : wpList P ops Q (o :: rest) a w := by
  refine wpList_plain hgd fun K hK => ?_
  obtain ⟨p2, c2, w', hr, h2⟩ := run_append_new (P := P) w t o.type e i z size bytes ht hi hz hsize hby hzs hsz sp m c news hl hn hnews h1 h63 hbytes
  unfold Oper.wp execOp
  simp only [ho, resolve, invoke, builtin, Sem.run_bind, Sem.run_pure, Result.andThen_ok, List.map_toArray, List.map_cons, List.map_nil, hs, hx, hr]
  exact hK _ _ (h p2 c2 w' h2)

/-- A row of data, cell by cell. -/
def rowOf : List MD → List Value
  | [] => []
  | d :: l => d.cells.toList ++ rowOf l
theorem rowOf_length : ∀ l : List MD, (rowOf l).length = l.length * 11
  | [] => rfl
  | d :: l => by
    show (d.cells.toList ++ rowOf l).length = _
    rw [List.length_append, rowOf_length l]
    show 11 + _ = (l.length + 1) * 11
    omega
theorem rowOf_get : ∀ (l : List MD) (i : Nat) (hi : i < l.length) (j : Nat), j < 11 → (rowOf l)[i * 11 + j]? = l[i].cells[j]?
  | d :: l, 0, _, j, hj => by
    show (d.cells.toList ++ rowOf l)[0 * 11 + j]? = d.cells[j]?
    rw [Nat.zero_mul, Nat.zero_add, List.getElem?_append_left (show j < 11 from hj), Array.getElem?_toList]
  | d :: l, i + 1, hi, j, hj => by
    show (d.cells.toList ++ rowOf l)[(i + 1) * 11 + j]? = (d :: l)[i + 1].cells[j]?
    rw [List.getElem?_append_right (show 11 ≤ _ by omega)]
    show (rowOf l)[(i + 1) * 11 + j - 11]? = _
    rw [show (i + 1) * 11 + j - 11 = i * 11 + j by omega]
    exact rowOf_get l i (by simpa using hi) j hj
theorem rowOf_one : ∀ (l : List MD), ∀ u ∈ rowOf l, u.oneCell' = true
  | [], _, h => by cases h
  | d :: l, u, h => by
    rcases List.mem_append.1 (show u ∈ d.cells.toList ++ rowOf l from h) with h1 | h1
    · exact MD.cells_one d u h1
    · exact rowOf_one l u h1
/-- The cells of Items that lie in memory. -/
theorem rowOf_cells {W : World} {ad : Addr} {items : List MD} (h : items = [] ∨ ∃ b o, some ad = some ⟨b, o, none⟩ ∧ ∀ (i : Nat) (hi : i < items.length), MD.CellsAt W b (o + i * 11) items[i]) :
    ∀ (j : Nat) (u : Value), (rowOf items)[j]? = some u → W.cell? (ad.add j) = some u := by
  intro j u hu
  have hj : j < items.length * 11 := by rw [← rowOf_length]; exact (List.getElem?_eq_some_iff.1 hu).1
  rcases h with e | ⟨b, o, e1, e2⟩
  · subst e; simp at hj
  · obtain rfl : ad = ⟨b, o, none⟩ := Option.some.inj e1
    have hi : j / 11 < items.length := by omega
    have hr : j % 11 < 11 := Nat.mod_lt _ (by omega)
    have ej : j / 11 * 11 + j % 11 = j := by omega
    rw [← ej, rowOf_get items _ hi _ hr] at hu
    rw [Addr.add_mid, show o + j = o + j / 11 * 11 + j % 11 by omega]
    exact (e2 _ hi _ hr).trans hu
/-- The cells of Items in a new row. -/
theorem rowOf_at {W : World} {g : Nat} {cur : Array Value} {items : List MD} (hg : W.heap[g]? = some (.cells cur 28 (0, 0))) (ht : cur.toList.take (items.length * 11) = rowOf items) (i : Nat) (hi : i < items.length) : MD.CellsAt W g (i * 11) items[i] := by
  intro j hj
  rw [row_at hg (i * 11 + j), ← rowOf_get items i hi j hj, ← ht, List.getElem?_take_of_lt (by omega), Array.getElem?_toList]
theorem there_at {W : World} {g m : Nat} {cur : Array Value} (hg : W.heap[g]? = some (.cells cur 28 (0, 0))) (hm : m ≤ cur.size) : W.there g 0 m := fun j hj => by
  refine ⟨?_, fz _ _ _ _ _ hg⟩
  rw [row_at hg (0 + j)]; simp; omega

/-- A new path. -/
theorem path_row {W w3 : World} {path : List Int} {pp2 : Option Addr} {pc2 : Nat} (h : NewRow W w3 3 1 path.length (path.map (Value.int .i64)) pp2 pc2) :
    path = [] ∨ ∃ g, pp2 = some ⟨g, 0, none⟩ ∧ g < w3.heap.size ∧ W.heap.size ≤ g ∧ ∀ (i : Nat) (hi : i < path.length), w3.cell? ⟨g, 0 + i, none⟩ = some (.int .i64 path[i]) := by
  obtain ⟨_, _, _, _, h5⟩ := h
  rcases h5 with ⟨h0, _⟩ | ⟨g, cur, _, e1, e2, e3, e4, e5, e6⟩
  · exact .inl (List.eq_nil_of_length_eq_zero h0)
  · refine .inr ⟨g, e1, e3, e2, fun i hi => ?_⟩
    rw [row_at e4 (0 + i), Nat.zero_add]
    have : (cur.toList.take (path.length * 1))[i]? = some (.int .i64 path[i]) := by rw [e6, List.getElem?_map, List.getElem?_eq_getElem hi]; rfl
    rwa [List.getElem?_take_of_lt (by omega), Array.getElem?_toList] at this
theorem path_kept2 {w W w3 F : World} {path : List Int} {pp2 : Option Addr} (h : path = [] ∨ ∃ g, pp2 = some ⟨g, 0, none⟩ ∧ g < w3.heap.size ∧ W.heap.size ≤ g ∧ ∀ (i : Nat) (hi : i < path.length), w3.cell? ⟨g, 0 + i, none⟩ = some (.int .i64 path[i]))
    (hW : w.heap.size + 2 ≤ W.heap.size) (hF : ∀ b, w.heap.size + 2 ≤ b → b < w3.heap.size → F.heap[b]? = w3.heap[b]?) (hz : w3.heap.size ≤ F.heap.size) :
    path = [] ∨ ∃ b o2, pp2 = some ⟨b, o2, none⟩ ∧ b < F.heap.size ∧ ∀ (i : Nat) (hi : i < path.length), F.cell? ⟨b, o2 + i, none⟩ = some (.int .i64 path[i]) := by
  rcases h with e | ⟨g, e1, e2, e3, e4⟩
  · exact .inl e
  · exact .inr ⟨g, 0, e1, by omega, fun i hi => (World.cell?_of_block (a := ⟨g, 0 + i, none⟩) (hF g (by omega) e2)).trans (e4 i hi)⟩
/-- The copies, where only older rows have changed. -/
theorem rows_kept2 {n lo g : Nat} {ds : List MD} {wr F : World} (hc : ∀ (i : Nat) (hi : i < ds.length), MD.CellsAt wr g (i * 11) ds[i] ∧ MD.In wr.heap.size wr n ds[i] ∧ MD.Above (g + 1) n ds[i]) (hlo : lo ≤ g) (hg : g < wr.heap.size)
    (hF : ∀ b, g ≤ b → b < wr.heap.size → F.heap[b]? = wr.heap[b]?) (hz : wr.heap.size ≤ F.heap.size) :
    (ds = [] ∨ ∃ b o, some (⟨g, 0, none⟩ : Addr) = some ⟨b, o, none⟩ ∧ b < F.heap.size ∧ ∀ (i : Nat) (hi : i < ds.length), MD.CellsAt F b (o + i * 11) ds[i] ∧ MD.In F.heap.size F n ds[i]) ∧ (∀ x ∈ ds, MD.Above lo n x) := by
  refine ⟨.inr ⟨g, 0, rfl, by omega, fun i hi => ?_⟩, fun x hx => ?_⟩
  · obtain ⟨q1, q2, q3⟩ := hc i hi
    rw [Nat.zero_add]
    exact ⟨q1.other (hF _ (Nat.le_refl _) hg), MD.In.mono hz n _ (MD.In.aloft hF n _ q2 (MD.Above.mono (by omega) n _ q3))⟩
  · obtain ⟨i, hi, rfl⟩ := List.getElem_of_mem hx
    exact MD.Above.mono (by omega) n _ (hc i hi).2.2
/-- The first k of a row are copies, the others are as they were. -/
def VRel (n : Nat) (items : List MD) (W : World) (g : Nat) (i : Value) (wr : World) : Prop :=
  ∃ k : Nat, i = .int .i64 k ∧ CopyRel n items W g (.int .i64 k) wr ∧ ∀ (j : Nat) (hj : j < items.length), k ≤ j → MD.CellsAt wr g (j * 11) items[j]
theorem VRel.rest {items : List MD} {g k : Nat} {wr w9 : World} {d : MD} (h : ∀ (j : Nat) (hj : j < items.length), k ≤ j → MD.CellsAt wr g (j * 11) items[j]) (hg : g < wr.heap.size) (h9 : Below wr.heap.size wr w9) :
    ∀ (j : Nat) (hj : j < items.length), k + 1 ≤ j → MD.CellsAt (w9.setCells g (k * 11) d.cells.toList) g (j * 11) items[j] := fun j hj hk => by
  rw [rangeAt_cells]
  refine World.rangeAt_setCells_apart (rangeAt_cells.1 ((h j hj (by omega)).below hg h9)) _ _ _ (.inr (.inr ?_))
  show k * 11 + 11 ≤ j * 11
  omega
end Go.Proofs.YtnhbpcmiolkllaaDoor
namespace Go.Proofs.YtnhbpcmiolkllaaDoor
open Go.RowKit
attribute [local go_sem] refold2 cell3_0 cell3_1 b28_0 b28_01

def uw (z : Int) : Int := IntKind.u64.wrap z
/-- A head, stirred in. -/
def stirC (h : Int) (k : Int) (t : ByteArray) (a f : Int) (s : ByteArray) (r0 : Int) (path : List Int) (il : Nat) : Int :=
  stir (stirT (stir (stirT (stir (stir (stirT (stir h (uw k)) t) (IntKind.u64.wrap a)) (nz f)) s) (IntKind.u64.wrap r0)) (strOfNums path)) il
/-- A datum, stirred in. -/
def MD.hash : Nat → Int → MD → Int
  | 0, h, _ => h
  | n + 1, h, d => d.items.foldl (MD.hash n) (stirC h d.h.k d.h.t d.h.n d.h.f d.h.s d.h.r0 d.h.path d.items.length)

theorem cvu (z : Int) (W : World) : (convert 3 22 (.int .i64 z)).run Tryd.prog W = .ok (.int .u64 (uw z)) W := by simp [go_sem, uw]
theorem full_items {n : Nat} {d : MD} (h : MD.full (n + 1) d = true) : ∀ q ∈ d.items, MD.full n q = true := by
  have h1 : (headOK d.h d.items.length && (d.h.k != 8 || (decide (d.items.length ≤ 30) && d.items.all (MD.full n)))) = true := h
  rw [Bool.and_eq_true] at h1
  by_cases h8 : d.h.k = 8
  · have := h1.2
    rw [h8] at this
    simp at this
    exact fun q hq => this.2 q hq
  · have h2 := h1.1
    unfold headOK at h2
    rw [Bool.and_eq_true, Bool.and_eq_true] at h2
    have h3 := h2.1.2
    unfold zeroK at h3
    simp only [Bool.and_eq_true, Bool.or_eq_true, beq_iff_eq] at h3
    rcases h3.2 with e | e
    · exact absurd e h8
    · have : d.items = [] := List.eq_nil_of_length_eq_zero (by exact_mod_cast e)
      rw [this]; intro q hq; cases hq

theorem full_small {n : Nat} {d : MD} (h : MD.full (n + 1) d = true) : d.h.s.size ≤ 65536 ∧ d.items.length ≤ 30 := by
  have h1 : (headOK d.h d.items.length && (d.h.k != 8 || (decide (d.items.length ≤ 30) && d.items.all (MD.full n)))) = true := h
  rw [Bool.and_eq_true] at h1
  have h2 := h1.1
  unfold headOK at h2
  rw [Bool.and_eq_true, Bool.and_eq_true] at h2
  have h3 := h2.1.2
  have h4 := h2.2
  unfold zeroK at h3
  simp only [Bool.and_eq_true, Bool.or_eq_true, beq_iff_eq] at h3
  constructor
  · by_cases k4 : d.h.k = 4
    · unfold kindB at h4
      rw [if_neg (by omega), if_neg (by omega), if_pos k4] at h4
      exact of_decide_eq_true h4
    · have e := size_of_list (h3.1.1.1.1.1.1.2.resolve_left k4)
      rw [e]; decide
  · by_cases h8 : d.h.k = 8
    · have := h1.2
      rw [h8] at this
      simp at this
      exact this.1
    · have := h3.2.resolve_left h8
      omega

def HashC (n : Nat) : Prop := ∀ (h : Int) (d : MD) (w : World), MD.In w.heap.size w n d → MD.full n d = true → Calls Tryd.prog 71 #[.int .u64 h, d.val] w fun r w' => r = .returned (.int .u64 (MD.hash n h d)) ∧ Below w.heap.size w w'
def HashRel (n : Nat) (z : Int) (items : List MD) (W : World) (x i : Value) (wr : World) : Prop :=
  ∃ (j : Nat) (y : Int), j ≤ items.length ∧ i = .int .i64 j ∧ x = .int .u64 y ∧ z = (items.drop j).foldl (MD.hash n) y ∧ Below W.heap.size W wr

set_option maxRecDepth 100000 in
set_option maxHeartbeats 8000000 in
theorem stirredIn_step (n : Nat) (hI : HashC n) : HashC (n + 1) := by
  intro h d w hin hf
  have HFi : Hid (∀ q ∈ d.items, MD.full n q = true) := full_items hf
  have HI : Hid (HashC n) := hI
  have hF := hin.fine
  have hP := hin.path
  have hits := hin.items
  obtain ⟨hs, hlen⟩ := full_small hf
  have fx2 : (headOK d.h d.items.length && (d.h.k != 8 || (decide (d.items.length ≤ 30) && d.items.all (MD.full n)))) = true := hf
  rw [Bool.and_eq_true] at fx2
  obtain ⟨hp, hb⟩ := head_path fx2.1
  have hty : tyB d.h.k d.h.t = true := by
    have := fx2.1
    unfold headOK at this
    rw [Bool.and_eq_true, Bool.and_eq_true] at this
    exact this.1.1
  have ht := ty_small hty
  clear fx2 hty hin hf hI
  obtain ⟨⟨k, t, a, f, s, r0, r1, r2, r3, pp, path, pc⟩, ip, ic, items⟩ := d
  simp only at ht hp hb hlen hs
  have hs : s.size ≤ 140737488351232 := by omega
  have hc9 := hP.2
  clear hF hP
  obtain ⟨cs, hcs⟩ : ∃ cs, cs = coreF Tryd.zeroCells138 k t a f s r0 path := ⟨_, rfl⟩
  have HC : Hid (∀ W, Below w.heap.size w W → Calls Tryd.prog 69 #[.agg #[.int .i64 k, .string t, .int .i64 a, .int .u64 f, .string s, .int .i64 r0, .int .i64 r1, .int .i64 r2, .int .i64 r3, .slice pp path.length pc, .slice ip items.length ic]] W fun r w' => r = .returned (.agg cs) ∧ Below W.heap.size W w') := fun W hW => by
    rw [hcs]
    refine coreOf_any k t a f s r0 r1 r2 r3 pp path pc ip items.length ic W hp hb ?_
    rcases hc9 with e | ⟨b, o, e1, e2, e3⟩
    · exact .inl e
    · exact .inr ⟨b, o, e1, Nat.lt_of_lt_of_le e2 hW.size, fun i hi => (hW.cell (p := ⟨b, o + i, none⟩) e2).trans (e3 i hi)⟩
  have hl := coreF_list k t a f s r0 path hp
  rw [← hcs] at hl
  have hsz : cs.size = 107 := by rw [hcs]; unfold coreF; rw [coreJ_size]; exact coreA_size _ _ _ _ _ _ _
  have hone : cs.all (·.oneCell') = true := by
    rw [hcs, Array.all_eq_true_iff_forall_mem]; exact coreJ_one path _ (Array.all_eq_true_iff_forall_mem.1 (coreA_one _ _ _ _ _ _ _)) _
  have hg : ∀ i, cs[i]? = (coreL k t a (nz f) s r0 path)[i]? := fun i => by rw [← Array.getElem?_toList, hl]
  have f0 : cs[0]? = some (.int .i64 k) := hg 0
  have f1 : cs[1]? = some (.string t) := hg 1
  have f2 : cs[2]? = some (.int .i64 a) := hg 2
  have f3 : cs[3]? = some (.int .u64 (nz f)) := hg 3
  have f4 : cs[4]? = some (.string s) := hg 4
  have f5 : cs[5]? = some (.int .i64 r0) := hg 5
  have f6 : cs[6]? = some (.int .i64 path.length) := hg 6
  have f7 : Hid (∀ i, i < path.length → cs[7 + i]? = some (.int .u8 (path.getD i 0))) := fun i hi => by
    rw [hg (7 + i)]
    unfold coreL pathV
    rw [List.getElem?_append_right (by simp), List.getElem?_map]
    have e : (List.range 100)[7 + i - 7]? = some i := by
      rw [show 7 + i - 7 = i by omega]; exact List.getElem?_range (by omega)
    show Option.map _ (List.range 100)[7 + i - 7]? = _
    rw [e]
    simp [List.getD]
  have hst : ∀ W : World, (storeCells ⟨W.heap.size, 0, none⟩ cs.toList).run Tryd.prog (W.alloc (.cells Tryd.zeroCells138 138)) = .ok () (W.alloc (.cells cs 138)) := fun W => run_storeCells_new W 138 Tryd.zeroCells138 cs (by rw [hsz]; exact info116) (by rw [hsz]; exact zero_size) hone
  clear hcs hone hl hg hc9 hb
  simp only [MD.val, D, MD.hash]
  generalize hnf : nz f = nf at f3
  have hpi : (path.length : Int) ≤ 100 := by omega
  have hii : (items.length : Int) ≤ 140737488351232 := by omega
  obtain ⟨Z, hZ⟩ : ∃ Z, Z = items.foldl (MD.hash n) (stirC h k t a f s r0 path items.length) := ⟨_, rfl⟩
  rw [← hZ]
  unfold stirC at hZ
  rw [hnf] at hZ
  have HZ : Hid (Z = items.foldl (MD.hash n) _) := hZ
  have HT : Hid (MD.ItemsIn w.heap.size w n ⟨⟨k, t, a, f, s, r0, r1, r2, r3, pp, path, pc⟩, ip, ic, items⟩) := hits
  clear hZ hits hnf
  go_enter Tryd.func71, Tryd.ntmps71
  go_wp2_with fail
  refine (HC.out _ (below1 _ _)).mono ?_
  rintro r w1 ⟨rfl, b1⟩
  have e1 : ∀ j, w1.cell? ⟨w.heap.size, j, none⟩ = (#[.int .i64 k, .string t, .int .i64 a, .int .u64 f, .string s, .int .i64 r0, .int .i64 r1, .int .i64 r2, .int .i64 r3, .slice pp path.length pc, .slice ip items.length ic] : Array Value)[j]? := fun j => row_at ((b1.block w.heap.size (by simp)).trans (heap_alloc_new _ _)) j
  have z1 : w.heap.size < w1.heap.size := by have := b1.size; simp at this; omega
  have q1 : Below w.heap.size w w1 := (below1 _ _).trans (b1.mono (by simp))
  have HQ1 : Hid _ := q1
  clear b1 q1
  go_wp2_with fail
  refine wp_region_noPanic ?_
  refine wp_region_held (S := fun W => ∀ j, W.cell? ⟨w1.heap.size, j, none⟩ = cs[j]?) (by kernel_rfl) ?_
  obtain ⟨W4, hW4⟩ : ∃ W4, W4 = (w1.alloc (.cells cs 138)).drew := ⟨_, rfl⟩
  have e4 : ({ (w1.alloc (.cells cs 138)) with drawn := (w1.alloc (.cells cs 138)).drawn + 1 } : World) = W4 := hW4.symm
  rw [e4]
  have hS : ∀ j, W4.cell? ⟨w1.heap.size, j, none⟩ = cs[j]? := fun j => by rw [hW4]; exact row_at (heap_alloc_new w1 _) j
  have hB4 : Below w.heap.size w W4 := by rw [hW4]; exact (HQ1.out.alloc HQ1.out.size _).drew
  have hI4 : ∀ j, W4.cell? ⟨w.heap.size, j, none⟩ = (#[.int .i64 k, .string t, .int .i64 a, .int .u64 f, .string s, .int .i64 r0, .int .i64 r1, .int .i64 r2, .int .i64 r3, .slice pp path.length pc, .slice ip items.length ic] : Array Value)[j]? := fun j => by rw [hW4]; exact (World.cell?_alloc_lt _ _ _ z1).trans (e1 j)
  have hz4 : w1.heap.size < W4.heap.size := by rw [hW4]; show _ < (w1.alloc _).heap.size; simp
  clear e4 hW4 e1 hst
  refine wpAnyH_take (i := 0) (v := .int .u64 h) rfl (by kernel_rfl) (by kernel_rfl) (by kernel_rfl) (fun _ _ _ h => h) (Or.inl ⟨by rfl, ?r⟩) hS ?_
  case r => intro W hW; simp [go_sem, execOp, Act.eval]
  simp only [List.getElem_toArray, List.getElem_cons_zero, Act.put, List.setIfInBounds_toArray, List.set_cons_succ, List.set_cons_zero]
  refine wpAnyH_take (i := 1) (v := .pointer (some ⟨w1.heap.size, 0, none⟩)) rfl (by kernel_rfl) (by kernel_rfl) (by kernel_rfl) (fun _ _ _ h => h) (Or.inl ⟨by rfl, ?r⟩) hS ?_
  case r => intro W hW; simp [go_sem, execOp, Act.eval]
  simp only [List.getElem_toArray, List.getElem_cons_zero, List.getElem_cons_succ, Act.put, List.setIfInBounds_toArray, List.set_cons_succ, List.set_cons_zero]
  refine wpAnyH_take (i := 2) (v := .pointer (some ⟨w1.heap.size, 0, none⟩)) rfl (by kernel_rfl) (by kernel_rfl) (by kernel_rfl) (fun _ _ _ h => h) (Or.inl ⟨by rfl, ?r⟩) hS ?_
  case r => intro W hW; simp [go_sem, execOp, Act.eval]
  simp only [List.getElem_toArray, List.getElem_cons_zero, List.getElem_cons_succ, Act.put, List.setIfInBounds_toArray, List.set_cons_succ, List.set_cons_zero]
  refine wpAnyH_take (i := 3) (v := .int .i64 k) rfl (by kernel_rfl) (by kernel_rfl) (by kernel_rfl) (fun _ _ _ h => h) (Or.inl ⟨by rfl, ?r⟩) hS ?_
  case r => intro W hW; simp [go_sem, execOp, Act.eval, hW, f0]
  simp only [List.getElem_toArray, List.getElem_cons_zero, List.getElem_cons_succ, Act.put, List.setIfInBounds_toArray, List.set_cons_succ, List.set_cons_zero]
  refine wpAnyH_take (i := 4) (v := .int .u64 (uw k)) rfl (by kernel_rfl) (by kernel_rfl) (by kernel_rfl) (fun _ _ _ h => h) (Or.inl ⟨by rfl, ?r⟩) hS ?_
  case r => intro W hW; simp [go_sem, execOp, Act.eval, cvu]
  simp only [List.getElem_toArray, List.getElem_cons_zero, List.getElem_cons_succ, Act.put, List.setIfInBounds_toArray, List.set_cons_succ, List.set_cons_zero]
  refine wpAnyH_take (i := 6) (v := .pointer (some ⟨w1.heap.size, 0, none⟩)) rfl (by kernel_rfl) (by kernel_rfl) (by kernel_rfl) (fun _ _ _ h => h) (Or.inl ⟨by rfl, ?r⟩) hS ?_
  case r => intro W hW; simp [go_sem, execOp, Act.eval]
  simp only [List.getElem_toArray, List.getElem_cons_zero, List.getElem_cons_succ, Act.put, List.setIfInBounds_toArray, List.set_cons_succ, List.set_cons_zero]
  refine wpAnyH_take (i := 7) (v := .pointer (some ⟨w1.heap.size, 1, none⟩)) rfl (by kernel_rfl) (by kernel_rfl) (by kernel_rfl) (fun _ _ _ h => h) (Or.inl ⟨by rfl, ?r⟩) hS ?_
  case r => intro W hW; simp [go_sem, execOp, Act.eval]
  simp only [List.getElem_toArray, List.getElem_cons_zero, List.getElem_cons_succ, Act.put, List.setIfInBounds_toArray, List.set_cons_succ, List.set_cons_zero]
  refine wpAnyH_take (i := 8) (v := .string t) rfl (by kernel_rfl) (by kernel_rfl) (by kernel_rfl) (fun _ _ _ h => h) (Or.inl ⟨by rfl, ?r⟩) hS ?_
  case r => intro W hW; simp [go_sem, execOp, Act.eval, hW, f1]
  simp only [List.getElem_toArray, List.getElem_cons_zero, List.getElem_cons_succ, Act.put, List.setIfInBounds_toArray, List.set_cons_succ, List.set_cons_zero]
  refine wpAnyH_all (rs := [5]) (by kernel_rfl) (by simp) (fun i2 hi2 => ?_)
  obtain rfl : i2 = 5 := by simpa using hi2
  clear hi2
  refine wpOp_step rfl (fun K hK => ite_yes rfl ?_)
  simp only [List.getElem_toArray, List.getElem_cons_zero, List.getElem_cons_succ]
  go_simp
  refine (stirred_any _ _ _).mono ?_
  rintro e w5 ⟨rfl, rfl⟩
  go_simp
  refine hK _ _ ⟨hS, ?_⟩
  clear hK K
  refine wpAnyH_all (rs := [9]) (by kernel_rfl) (by simp) (fun i2 hi2 => ?_)
  obtain rfl : i2 = 9 := by simpa using hi2
  clear hi2
  refine wpOp_step rfl (fun K hK => ite_yes rfl ?_)
  simp only [List.getElem_toArray, List.getElem_cons_zero, List.getElem_cons_succ]
  go_simp
  refine (stirredText_any _ _ _ (by omega)).mono ?_
  rintro e w6 ⟨rfl, rfl⟩
  go_simp
  refine hK _ _ ⟨hS, ?_⟩
  clear hK K
  refine wpAnyH_take (i := 10) (v := .int .u64 (stirT (stir h (uw k)) t)) rfl (by kernel_rfl) (by kernel_rfl) (by kernel_rfl) (fun _ _ _ h => h) (Or.inl ⟨by rfl, ?r⟩) hS ?_
  case r => intro W hW; simp [go_sem, execOp, Act.eval]
  simp only [List.getElem_toArray, List.getElem_cons_zero, List.getElem_cons_succ, Act.put, List.setIfInBounds_toArray, List.set_cons_zero]
  refine wpAnyH_done (by kernel_rfl) ?_ _
  refine NoPanic.normal ?_
  try simp only [Act.put]
  have g2 := (hS 2).trans f2
  have g3 := (hS 3).trans f3
  have g4 := (hS 4).trans f4
  have g5 := (hS 5).trans f5
  have g6 := (hS 6).trans f6
  have hcv : (convert 146 9 (.slice (some ⟨w1.heap.size, 7, none⟩) path.length 100)).run Tryd.prog w6 = .ok (.string (strOfNums path)) w6 :=
    run_convert_bytes_arg w6 146 5 Tryd.underlying146 Tryd.underlying5 w1.heap.size 7 path.length 100 path rfl (fun i hi => (hS (7 + i)).trans (f7.out i hi)) 9 Tryd.underlying9
  have h10 := hI4 10
  simp only [List.getElem?_toArray, List.getElem?_cons_succ, List.getElem?_cons_zero] at h10
  have HI4 : Hid _ := hI4
  have HB4 : Hid (Below w.heap.size w w6) := hB4
  clear hS hsz f0 f1 f2 f3 f4 f5 f6 HC hI4 hB4
  generalize hzz : stirT (stir h (uw k)) t = z0 at *
  have hq : (strOfNums path).size ≤ 140737488351232 := by rw [strOfNums_size]; omega
  generalize hzp : strOfNums path = sp at *
  go_wp2_with (first | (go_at_call 77; refine (stirred_any _ _ _).mono ?_; rintro r w' ⟨rfl, rfl⟩) | (go_at_call 76; refine (stirredText_any _ _ _ (by assumption)).mono ?_; rintro r w' ⟨rfl, rfl⟩))
  have HZ2 : Hid (Z = (items.drop 0).foldl (MD.hash n) (stir (stirT (stir (stirT (stir (stir z0 (IntKind.u64.wrap a)) nf) s) (IntKind.u64.wrap r0)) sp) items.length)) := by
    have h1 := HZ.out
    rw [List.drop_zero]; exact h1
  clear HZ hcv hq hzp hzz g2 g3 g4 g5 g6
  go_loopw [0, 54] (fun x i wr => HashRel n Z items w' x i wr) (fun _ i _ => items.length - (intOf i).toNat)
  case atStart => exact ⟨0, _, Nat.zero_le _, rfl, rfl, HZ2.out, Below.refl _ _⟩
  case round =>
    obtain ⟨j, y, hj, rfl, rfl, hq, hb⟩ := hrel
    have HB : Hid (Below w'.heap.size w' wr) := hb
    have HB0 : Hid (Below w.heap.size w wr) := HB4.out.trans (hb.mono HB4.out.size)
    have hz := HB0.out.size
    have HQ : Hid (Z = (items.drop j).foldl (MD.hash n) y) := hq
    clear hq hb
    by_cases hlt : j < items.length
    · have i1 : (j : Int) < items.length := by omega
      obtain ⟨bb, o, rfl, hbB, hC, hIn⟩ : ∃ bb o, ip = some ⟨bb, o, none⟩ ∧ bb < w.heap.size ∧ MD.CellsAt wr bb (o + j * 11) items[j] ∧ MD.In w.heap.size wr n items[j] := by
        rcases MD.ItemsIn.below HT.out HB0.out with e | ⟨bb, o, e1, e2, e3⟩
        · have e' : items = [] := e
          rw [e'] at hlt; simp at hlt
        · exact ⟨bb, o, e1, e2, e3 j hlt⟩
      have HQ2 : Hid (Z = (items.drop (j + 1)).foldl (MD.hash n) (MD.hash n y items[j])) := by
        have h1 := HQ.out
        rw [List.drop_eq_getElem_cons hlt, List.foldl_cons] at h1
        exact h1
      have HFk := HFi.out _ (List.getElem_mem hlt)
      generalize items[j] = kid at hC hIn HQ2 HFk
      have HK : Hid (∀ W, Below wr.heap.size wr W → Calls Tryd.prog 71 #[.int .u64 y, kid.val] W fun r w' => r = .returned (.int .u64 (MD.hash n y kid)) ∧ Below W.heap.size W w') := fun W hW => HI.out y kid W (MD.In.later hIn hz hW) HFk
      generalize MD.hash n y kid = y2 at HQ2 HK
      obtain ⟨⟨k0, k1, k2, k3, k4, k5, k6, k7, k8, kp, kpath, kpc⟩, kip, kic, kit⟩ := kid
      have c0 : wr.cell? ⟨bb, o + j * 11, none⟩ = some (.int .i64 k0) := hC 0 (by omega)
      have c1 : wr.cell? ⟨bb, o + j * 11 + 1, none⟩ = some (.string k1) := hC 1 (by omega)
      have c2 : wr.cell? ⟨bb, o + j * 11 + 2, none⟩ = some (.int .i64 k2) := hC 2 (by omega)
      have c3 : wr.cell? ⟨bb, o + j * 11 + 3, none⟩ = some (.int .u64 k3) := hC 3 (by omega)
      have c4 : wr.cell? ⟨bb, o + j * 11 + 4, none⟩ = some (.string k4) := hC 4 (by omega)
      have c5 : wr.cell? ⟨bb, o + j * 11 + 5, none⟩ = some (.int .i64 k5) := hC 5 (by omega)
      have c6 : wr.cell? ⟨bb, o + j * 11 + 6, none⟩ = some (.int .i64 k6) := hC 6 (by omega)
      have c7 : wr.cell? ⟨bb, o + j * 11 + 7, none⟩ = some (.int .i64 k7) := hC 7 (by omega)
      have c8 : wr.cell? ⟨bb, o + j * 11 + 8, none⟩ = some (.int .i64 k8) := hC 8 (by omega)
      have c9 : wr.cell? ⟨bb, o + j * 11 + 9, none⟩ = some (.slice kp kpath.length kpc) := hC 9 (by omega)
      have c10 : wr.cell? ⟨bb, o + j * 11 + 10, none⟩ = some (.slice kip kit.length kic) := hC 10 (by omega)
      clear hC hIn HI HFk HFi HT HI4 h10 HQ
      simp only [MD.val, D] at HK
      go_wp2_with (go_at_call 71; refine (HK.out _ (below1 _ _)).mono ?_; rintro r w2 ⟨rfl, b2⟩; have HX : Hid (Below wr.heap.size wr w2) := (below1 _ _).trans (b2.mono (by simp)); clear b2)
      exact ⟨⟨j + 1, _, hlt, by go_num, rfl, HQ2.out, HB.out.trans (HX.out.mono HB.out.size)⟩, by simp [intOf]; omega⟩
    · have i1 : ¬ (j : Int) < items.length := by omega
      have e : Z = y := by
        have h1 := HQ.out
        rw [List.drop_of_length_le (by omega)] at h1
        exact h1
      subst e
      clear HQ HZ2
      go_wp2_with fail
      go_ret
      exact ⟨rfl, HB0.out⟩

theorem stirredIn_any : ∀ n, HashC n
  | 0 => fun _ _ _ h _ => h.elim
  | n + 1 => stirredIn_step n (stirredIn_any n)

set_option maxRecDepth 100000 in
set_option maxHeartbeats 2000000 in
theorem hashed_any (n : Nat) (d : MD) (w : World) (hin : MD.In w.heap.size w n d) (hf : MD.full n d = true) : Calls Tryd.prog 50 #[d.val] w fun r w' => r = .returned (.int .u64 (MD.hash n 14695981039346656037 d)) ∧ Below w.heap.size w w' := by
  have HI : Hid (∀ (h : Int) (W : World), Below w.heap.size w W → Calls Tryd.prog 71 #[.int .u64 h, d.val] W fun r w' => r = .returned (.int .u64 (MD.hash n h d)) ∧ Below W.heap.size W w') := fun h W hW => stirredIn_any n h d W (hin.later (Nat.le_refl _) hW) hf
  have HI2 : Hid (∀ (W : World), Below w.heap.size w W → Calls Tryd.prog 71 #[.int .u64 14695981039346656037, d.val] W fun r w' => r = .returned (.int .u64 (MD.hash n 14695981039346656037 d)) ∧ Below W.heap.size W w') := fun W hW => HI.out _ W hW
  clear HI
  generalize MD.hash n 14695981039346656037 d = z at HI2 ⊢
  obtain ⟨⟨k, t, a, f, s, r0, r1, r2, r3, pp, path, pc⟩, ip, ic, items⟩ := d
  simp only [MD.val, D] at HI2 ⊢
  clear hin hf
  go_enter Tryd.func50, Tryd.ntmps50
  go_wp2_with (go_at_call 71; refine (HI2.out _ (below1 _ _)).mono ?_; rintro r w' ⟨rfl, hb⟩)
  go_ret
  exact ⟨rfl, (below1 _ _).trans (hb.mono (by simp))⟩
end Go.Proofs.YtnhbpcmiolkllaaDoor
namespace Go.Proofs.YtnhbpcmiolkllaaDoor
open Go.RowKit
attribute [local go_sem] refold2 cell3_0 cell3_1 b28_0 b28_01

def VCopyC (n : Nat) : Prop := ∀ (d : MD) (w : World), MD.In w.heap.size w n d → MD.full n d = true → Calls Tryd.prog 35 #[d.val] w (CopyP n d w)

set_option maxRecDepth 100000 in
set_option maxHeartbeats 8000000 in
theorem copiedV_e (n : Nat) (k : Int) (t : ByteArray) (a f : Int) (s : ByteArray) (r0 r1 r2 r3 : Int) (pp : Option Addr) (path : List Int) (pc : Nat) (ip : Option Addr) (ic : Nat) (items : List MD) (w : World) (HE0 : Hid (items = []))
    (hin : MD.In w.heap.size w (n + 1) ⟨⟨k, t, a, f, s, r0, r1, r2, r3, pp, path, pc⟩, ip, ic, items⟩) (hf : MD.full (n + 1) ⟨⟨k, t, a, f, s, r0, r1, r2, r3, pp, path, pc⟩, ip, ic, items⟩ = true) :
    Calls Tryd.prog 35 #[.agg #[.int .i64 k, .string t, .int .i64 a, .int .u64 f, .string s, .int .i64 r0, .int .i64 r1, .int .i64 r2, .int .i64 r3, .slice pp path.length pc, .slice ip items.length ic]] w (CopyP (n + 1) ⟨⟨k, t, a, f, s, r0, r1, r2, r3, pp, path, pc⟩, ip, ic, items⟩ w) := by
  have hF := hin.fine
  have hP := hin.path
  have hits := hin.items
  have hlen := hin.len
  have fx2 : (headOK ⟨k, t, a, f, s, r0, r1, r2, r3, pp, path, pc⟩ items.length && (k != 8 || (decide (items.length ≤ 30) && items.all (MD.full n)))) = true := hf
  rw [Bool.and_eq_true] at fx2
  obtain ⟨hp100, _⟩ := head_path fx2.1
  have hty : tyB k t = true := by
    have := fx2.1
    unfold headOK at this
    rw [Bool.and_eq_true, Bool.and_eq_true] at this
    exact this.1.1
  have ht40 := ty_small hty
  obtain ⟨hs65, hi30⟩ := full_small hf
  have HFi : Hid (∀ q ∈ items, MD.full n q = true) := full_items hf
  simp only at hp100 hs65 hi30
  have ht : t.size ≤ 140737488351232 := by omega
  have hs : s.size ≤ 140737488351232 := by omega
  have HPn : Hid (pp = none → path.length = 0) := fun e => by
    rcases hP.2 with e1 | ⟨b, o, e1, _⟩
    · have e1' : path = [] := e1
      rw [e1']; rfl
    · exact absurd (e.symm.trans e1) (by simp)
  have HIn : Hid (ip = none → items.length = 0) := fun e => by
    rcases hits with e1 | ⟨b, o, e1, _⟩
    · have e1' : items = [] := e1
      rw [e1']; rfl
    · exact absurd (e.symm.trans e1) (by simp)
  have HPC : Hid (∀ W : World, (∀ b, b < w.heap.size → W.heap[b]? = w.heap[b]?) → ∀ ad, pp = some ad → ∀ (j : Nat) (u : Value), (path.map (Value.int .i64))[j]? = some u → W.cell? (ad.add j) = some u) := fun W hW ad e => path_cells (by rw [← e]; exact hP.2) W hW
  have HIC : Hid (∀ W : World, (∀ b, b < w.heap.size → W.heap[b]? = w.heap[b]?) → ∀ ad, ip = some ad → ∀ (j : Nat) (u : Value), (rowOf items)[j]? = some u → W.cell? (ad.add j) = some u) := fun W hW ad e => rowOf_cells (by
    rcases hits with e1 | ⟨b, o, e1, e2, e3⟩
    · exact .inl e1
    · exact .inr ⟨b, o, e ▸ e1, fun i hi => (e3 i hi).1.other (hW b e2)⟩)
  have HIt : Hid (MD.ItemsIn w.heap.size w n ⟨⟨k, t, a, f, s, r0, r1, r2, r3, pp, path, pc⟩, ip, ic, items⟩) := hits
  have HA : Hid (MD.Fine ⟨k, t, a, f, s, r0, r1, r2, r3, pp, path, pc⟩ ∧ (∀ x ∈ path, -9223372036854775808 ≤ x ∧ x ≤ 9223372036854775807)) := ⟨hF, hP.1⟩
  obtain ⟨i3, hi3, hz30, hz31, hz32⟩ := info_parts info3z
  obtain ⟨i28, hi28, hz280, hz281, hz282⟩ := info_parts info28z
  clear fx2 hty hin hf hF hP hits hlen
  obtain ⟨W2, hW2⟩ : ∃ W2, W2 = (w.alloc (.cells #[.int .i64 k, .string t, .int .i64 a, .int .u64 f, .string s, .int .i64 r0, .int .i64 r1, .int .i64 r2, .int .i64 r3, .slice pp path.length pc, .slice ip items.length ic] 28)).alloc (.cells #[.int .i64 0, .string ⟨#[]⟩, .int .i64 0, .int .u64 0, .string ⟨#[]⟩, .int .i64 0, .int .i64 0, .int .i64 0, .int .i64 0, .slice none 0 0, .slice none 0 0] 28) := ⟨_, rfl⟩
  have hB2 : Below w.heap.size w W2 := by rw [hW2]; exact below2 _ _ _
  have hz2 : W2.heap.size = w.heap.size + 2 := by rw [hW2]; simp
  have hrow0 : Hid (W2.heap[w.heap.size]? = some (.cells #[.int .i64 k, .string t, .int .i64 a, .int .u64 f, .string s, .int .i64 r0, .int .i64 r1, .int .i64 r2, .int .i64 r3, .slice pp path.length pc, .slice ip items.length ic] 28 (0, 0))) := by rw [hW2, Below.heap_alloc _ _ _ (by simp)]; exact heap_alloc_new _ _
  have hrow1 : Hid (W2.heap[w.heap.size + 1]? = some (.cells zeros 28 (0, 0))) := by rw [hW2]; exact heap2_1 _ _ _
  have HK : Hid (∀ W, Below W2.heap.size W2 W → (∀ j, W.cell? ⟨w.heap.size, j, none⟩ = (#[.int .i64 k, .string t, .int .i64 a, .int .u64 f, .string s, .int .i64 r0, .int .i64 r1, .int .i64 r2, .int .i64 r3, .slice pp path.length pc, .slice ip items.length ic] : Array Value)[j]?)) := fun W hW j => row_at ((hW.block w.heap.size (by omega)).trans hrow0.out) j
  have HC : Hid (∀ (u : ByteArray) (W : World), u.size ≤ 140737488351232 → Calls Tryd.prog 66 #[.string u] W fun r w' => r = .returned (.string u) ∧ Below W.heap.size W w') := fun u W h => clone_any u W h
  go_enter Tryd.func35, Tryd.ntmps35
  go_wp2_with fail
  rw [← hW2]
  clear hW2
  refine wp_region_noPanic ?_
  refine wp_region_held (S := fun W => ∀ j, W.cell? ⟨w.heap.size, j, none⟩ = (#[.int .i64 k, .string t, .int .i64 a, .int .u64 f, .string s, .int .i64 r0, .int .i64 r1, .int .i64 r2, .int .i64 r3, .slice pp path.length pc, .slice ip items.length ic] : Array Value)[j]?) (by kernel_rfl) ?_
  obtain ⟨W4, hW4⟩ : ∃ W4, W4 = W2.drew := ⟨_, rfl⟩
  have e4 : ({ W2 with drawn := W2.drawn + 1 } : World) = W4 := hW4.symm
  rw [e4]
  have hB4 : Below W2.heap.size W2 W4 := by rw [hW4]; exact (Below.refl _ _).drew
  have hS := HK.out W4 hB4
  clear e4 hW4
  refine wpAnyH_take (i := 0) (v := .pointer (some ⟨w.heap.size, 1, none⟩)) rfl (by kernel_rfl) (by kernel_rfl) (by kernel_rfl) (fun _ _ _ h => h) (Or.inl ⟨by rfl, ?r⟩) hS ?_
  case r => intro W hW; simp [go_sem, execOp, Act.eval]
  simp only [List.getElem_toArray, List.getElem_cons_zero, Act.put, List.setIfInBounds_toArray, List.set_cons_succ, List.set_cons_zero]
  refine wpAnyH_take (i := 1) (v := .string t) rfl (by kernel_rfl) (by kernel_rfl) (by kernel_rfl) (fun _ _ _ h => h) (Or.inl ⟨by rfl, ?r⟩) hS ?_
  case r => intro W hW; simp [go_sem, execOp, Act.eval, hW]
  simp only [List.getElem_toArray, List.getElem_cons_zero, List.getElem_cons_succ, Act.put, List.setIfInBounds_toArray, List.set_cons_succ, List.set_cons_zero]
  refine wpAnyH_take (i := 3) (v := .pointer (some ⟨w.heap.size, 4, none⟩)) rfl (by kernel_rfl) (by kernel_rfl) (by kernel_rfl) (fun _ _ _ h => h) (Or.inl ⟨by rfl, ?r⟩) hS ?_
  case r => intro W hW; simp [go_sem, execOp, Act.eval]
  simp only [List.getElem_toArray, List.getElem_cons_zero, List.getElem_cons_succ, Act.put, List.setIfInBounds_toArray, List.set_cons_succ, List.set_cons_zero]
  refine wpAnyH_take (i := 4) (v := .string s) rfl (by kernel_rfl) (by kernel_rfl) (by kernel_rfl) (fun _ _ _ h => h) (Or.inl ⟨by rfl, ?r⟩) hS ?_
  case r => intro W hW; simp [go_sem, execOp, Act.eval, hW]
  simp only [List.getElem_toArray, List.getElem_cons_zero, List.getElem_cons_succ, Act.put, List.setIfInBounds_toArray, List.set_cons_succ, List.set_cons_zero]
  refine wpAnyH_all (rs := [2]) (by kernel_rfl) (by simp) (fun i2 hi2 => ?_)
  obtain rfl : i2 = 2 := by simpa using hi2
  clear hi2
  refine wpOp_step rfl (fun K hK => ite_yes rfl ?_)
  simp only [List.getElem_toArray, List.getElem_cons_zero, List.getElem_cons_succ]
  go_simp
  refine (HC.out _ _ ht).mono ?_
  rintro e w5 ⟨rfl, b5⟩
  have hb5 : Below W2.heap.size W2 w5 := hB4.trans (b5.mono hB4.size)
  go_simp
  refine hK _ _ ⟨HK.out _ hb5, ?_⟩
  clear hK K hS
  have hS := HK.out _ hb5
  refine wpAnyH_take (i := 6) (v := .pointer (some ⟨w.heap.size, 1, none⟩)) rfl (by kernel_rfl) (by kernel_rfl) (by kernel_rfl) (fun _ _ _ h => h) (Or.inl ⟨by rfl, ?r⟩) hS ?_
  case r => intro W hW; simp [go_sem, execOp, Act.eval]
  simp only [List.getElem_toArray, List.getElem_cons_zero, List.getElem_cons_succ, Act.put, List.setIfInBounds_toArray, List.set_cons_succ, List.set_cons_zero]
  refine wpAnyH_all (rs := [5]) (by kernel_rfl) (by simp) (fun i2 hi2 => ?_)
  obtain rfl : i2 = 5 := by simpa using hi2
  clear hi2
  refine wpOp_step rfl (fun K hK => ite_yes rfl ?_)
  simp only [List.getElem_toArray, List.getElem_cons_zero, List.getElem_cons_succ]
  go_simp
  refine (HC.out _ _ hs).mono ?_
  rintro e w6 ⟨rfl, b6⟩
  have hb6 : Below W2.heap.size W2 w6 := hb5.trans (b6.mono hb5.size)
  go_simp
  refine hK _ _ ⟨HK.out _ hb6, ?_⟩
  clear hK K hS
  have hS := HK.out _ hb6
  have hfr : ∀ j, w6.frozen? ⟨w.heap.size, j, none⟩ = false := fun j => fz _ _ _ _ j ((hb6.block w.heap.size (by omega)).trans hrow0.out)
  refine wpAnyH_all (rs := [7]) (by kernel_rfl) (by simp) (fun i2 hi2 => ?_)
  obtain rfl : i2 = 7 := by simpa using hi2
  clear hi2
  refine wpOp_step rfl (fun K hK => ite_yes rfl ?_)
  simp only [List.getElem_toArray, List.getElem_cons_zero, List.getElem_cons_succ]
  have c1 : w6.cell? ⟨w.heap.size, 1, none⟩ = some (.string t) := hS 1
  go_simp
  have hS7 := set_same (o := 1) (v := .string t) hS rfl
  refine hK _ _ ⟨hS7, ?_⟩
  clear hK K hS
  have hS := hS7
  refine wpAnyH_take (i := 8) (v := .pointer (some ⟨w.heap.size, 4, none⟩)) rfl (by kernel_rfl) (by kernel_rfl) (by kernel_rfl) (fun _ _ _ h => h) (Or.inl ⟨by rfl, ?r⟩) hS ?_
  case r => intro W hW; simp [go_sem, execOp, Act.eval]
  simp only [List.getElem_toArray, List.getElem_cons_zero, List.getElem_cons_succ, Act.put, List.setIfInBounds_toArray, List.set_cons_succ, List.set_cons_zero]
  refine wpAnyH_all (rs := [9]) (by kernel_rfl) (by simp) (fun i2 hi2 => ?_)
  obtain rfl : i2 = 9 := by simpa using hi2
  clear hi2
  refine wpOp_step rfl (fun K hK => ite_yes rfl ?_)
  simp only [List.getElem_toArray, List.getElem_cons_zero, List.getElem_cons_succ]
  have c4 : w6.cell? ⟨w.heap.size, 4, none⟩ = some (.string s) := HK.out _ hb6 4
  go_simp
  have hS9 := set_same (o := 4) (v := .string s) hS7 rfl
  refine hK _ _ ⟨hS9, ?_⟩
  clear hK K hS
  refine wpAnyH_done (by kernel_rfl) ?_ _
  refine NoPanic.normal ?_
  try simp only [Act.put]
  obtain ⟨W9, hW9⟩ : ∃ W9, W9 = ((w6.setCell ⟨w.heap.size, 1, none⟩ (.string t)).setCell ⟨w.heap.size, 4, none⟩ (.string s)) := ⟨_, rfl⟩
  have hB9 : Below w.heap.size w W9 := by rw [hW9]; exact ((hB2.trans (hb6.mono (by omega))).setCell (p := ⟨w.heap.size, 1, none⟩) (Nat.le_refl _) _).setCell (p := ⟨w.heap.size, 4, none⟩) (Nat.le_refl _) _
  have hf9 : ∀ j, W9.frozen? ⟨w.heap.size, j, none⟩ = false := fun j => by rw [hW9]; simp [go_sem, hfr]
  have hr9 : W9.heap[w.heap.size + 1]? = some (.cells zeros 28 (0, 0)) := by
    rw [hW9, Below.heap_setCell _ _ _ _ (by simp), Below.heap_setCell _ _ _ _ (by simp)]; exact (hb6.block (w.heap.size + 1) (by omega)).trans hrow1.out
  have hz9 : w.heap.size + 1 < W9.heap.size := row_ltT hr9
  have hbx9 : W9.heap[w.heap.size]? = some (.cells #[.int .i64 k, .string t, .int .i64 a, .int .u64 f, .string s, .int .i64 r0, .int .i64 r1, .int .i64 r2, .int .i64 r3, .slice pp path.length pc, .slice ip items.length ic] 28 (0, 0)) := by
    rw [hW9]; exact row_set (row_set ((hb6.block w.heap.size (by omega)).trans hrow0.out) 1 _) 4 _
  rw [← hW9] at hS9 ⊢
  obtain ⟨⟨d0, d1, d2, d3, d4, d5, d6, d7, d8, d9, d10⟩, hf2⟩ := box_keptD hr9
  clear hW9 hfr c1 c4 hS7 HK HC hrow0 hrow1
  have HR9 : Hid _ := hr9
  have hw9 : ∀ b, b < w.heap.size → W9.heap[b]? = w.heap[b]? := fun b hb => hB9.block b hb
  have HX9 : Hid (W9.heap[w.heap.size]? = some (.cells #[.int .i64 k, .string t, .int .i64 a, .int .u64 f, .string s, .int .i64 r0, .int .i64 r1, .int .i64 r2, .int .i64 r3, .slice pp path.length pc, .slice ip items.length ic] 28 (0, 0))) := hbx9
  have HB9 : Hid _ := hB9
  clear hr9 hbx9 hB9 d0 d1 d2 d3 d4 d5 d6 d7 d8 d9 d10 hf2
  go_wp2_with (first
    | (at_builtin; refine wpList_append_new rfl _ _ 23 rfl 3 i3 (.int .i64 0) 1 8 Tryd.underlying23 hi3 hz30 hz31 hz32 rfl (by decide) rfl pp path.length pc (path.map (Value.int .i64)) rfl (by simp) HPn.out (HPC.out W9 hw9) (numsOf path) (by unfold maxLen; omega) (by omega) ?_; intro pp2 pc2 w3 hN3; obtain ⟨w3s, hw3s⟩ : ∃ w3s, w3s = w3.setCell ⟨w.heap.size, 9, none⟩ (.slice pp2 path.length pc2) := ⟨_, rfl⟩; have HN3 : Hid (NewRow W9 w3 3 1 path.length (path.map (Value.int .i64)) pp2 pc2) := hN3; have hX3 := (hN3.2.2.1.block w.heap.size (by omega)).trans HX9.out; have hc3 := row_at hX3; have hf3 := fun j => fz _ _ _ _ j hX3; have HX3 : Hid _ := hX3; have hBz3 := hN3.2.2.1.size; have HW3 : Hid (w3s = w3.setCell ⟨w.heap.size, 9, none⟩ (.slice pp2 path.length pc2)) := hw3s; have hw3b : ∀ b, b < w.heap.size → w3s.heap[b]? = w.heap[b]? := (fun b hb => by rw [hw3s]; exact (heap_setCell_other _ _ _ _ _ (by omega)).trans ((hN3.2.2.1.block b (by omega)).trans (hw9 b hb))); clear hN3 hX3)
    | (at_builtin; rw [← hw3s]; refine wpList_append_new rfl _ _ 26 rfl 28 i28 (.agg zeros) 11 136 Tryd.underlying26 hi28 hz280 hz281 hz282 rfl (by decide) rfl ip items.length ic (rowOf items) rfl (rowOf_length items) HIn.out (HIC.out w3s hw3b) (rowOf_one items) (by unfold maxLen; omega) (by omega) ?_; intro ip2 ic2 w4 hN4; have HN4 : Hid (NewRow w3s w4 28 11 items.length (rowOf items) ip2 ic2) := hN4; clear hN4))
  have hz3s : w3s.heap.size = w3.heap.size := by rw [HW3.out]; simp
  have hX3s : w3s.heap[w.heap.size]? = some (.cells #[.int .i64 k, .string t, .int .i64 a, .int .u64 f, .string s, .int .i64 r0, .int .i64 r1, .int .i64 r2, .int .i64 r3, .slice pp2 path.length pc2, .slice ip items.length ic] 28 (0, 0)) := by
    rw [HW3.out]; exact row_set HX3.out 9 _
  have hR3s : w3s.heap[w.heap.size + 1]? = some (.cells zeros 28 (0, 0)) := by
    rw [HW3.out, heap_setCell_other _ _ _ _ _ (by omega)]; exact (HN3.out.2.2.1.block _ hz9).trans HR9.out
  have HPr : Hid (path = [] ∨ ∃ g, pp2 = some ⟨g, 0, none⟩ ∧ g < w3s.heap.size ∧ W9.heap.size ≤ g ∧ ∀ (i : Nat) (hi : i < path.length), w3s.cell? ⟨g, 0 + i, none⟩ = some (.int .i64 path[i])) := by
    rcases path_row HN3.out with e | ⟨g, e1, e2, e3, e4⟩
    · exact .inl e
    · refine .inr ⟨g, e1, by omega, e3, fun i hi => ?_⟩
      refine (World.cell?_of_block (a := ⟨g, 0 + i, none⟩) ?_).trans (e4 i hi)
      rw [HW3.out]; exact heap_setCell_other _ _ _ _ _ (show g ≠ w.heap.size by omega)
  have HPa : Hid (path.length ≤ pc2 ∧ pc2 ≤ maxLen ∧ ∀ b o, pp2 = some ⟨b, o, none⟩ → w.heap.size ≤ b) := ⟨HN3.out.1, HN3.out.2.1, fun b o e => by have := HN3.out.2.2.2.1 b o e; omega⟩
  have HB3 : Hid (Below w.heap.size w w3s) := by rw [HW3.out]; exact (HB9.out.trans (HN3.out.2.2.1.mono HB9.out.size)).setCell (p := ⟨w.heap.size, 9, none⟩) (Nat.le_refl _) _
  have HXR : Hid (∀ W, Below w3s.heap.size w3s W → W.heap[w.heap.size]? = some (.cells #[.int .i64 k, .string t, .int .i64 a, .int .u64 f, .string s, .int .i64 r0, .int .i64 r1, .int .i64 r2, .int .i64 r3, .slice pp2 path.length pc2, .slice ip items.length ic] 28 (0, 0)) ∧ W.heap[w.heap.size + 1]? = some (.cells zeros 28 (0, 0))) := fun W hW => ⟨(hW.block _ (by omega)).trans hX3s, (hW.block _ (by omega)).trans hR3s⟩
  clear HX3 HN3 HW3 hw3s hX3s hR3s hw3b HX9 HR9 hw9 HPC HIC HPn HIn hc3 hf3 HB9
  have hwz : w.heap.size + 2 ≤ W9.heap.size := by omega
  obtain rfl := HE0.out
  clear HE0
  obtain ⟨_, _, hb4, _, h4⟩ := HN4.out
  obtain ⟨rfl, rfl⟩ : ip2 = none ∧ ic2 = 0 := by
    rcases h4 with ⟨_, e1, e2⟩ | ⟨g, cur, e, _⟩
    · exact ⟨e1, e2⟩
    · simp at e
  obtain ⟨hX4, hR4⟩ := HXR.out w4 hb4
  have hc4 := row_at hX4
  have hf4 := fun j => fz _ _ _ _ j hX4
  have hr4 : ∀ j, w4.cell? ⟨w.heap.size + 1, j, none⟩ = (#[.int .i64 0, .string ⟨#[]⟩, .int .i64 0, .int .u64 0, .string ⟨#[]⟩, .int .i64 0, .int .i64 0, .int .i64 0, .int .i64 0, .slice none 0 0, .slice none 0 0] : Array Value)[j]? := row_at hR4
  have hg4 := fun j => fz _ _ _ _ j hR4
  have HB4 : Hid (Below w3s.heap.size w3s w4) := hb4
  clear h4 hb4 hX4 hR4 HN4
  go_wp2_with fail
  go_rounds 1
  refine bodyPost_ret (v := .agg #[.int .i64 k, .string t, .int .i64 a, .int .u64 f, .string s, .int .i64 r0, .int .i64 r1, .int .i64 r2, .int .i64 r3, .slice pp2 path.length pc2, .slice none 0 0]) (by simp [results, Tryd.results35, go_sem, hr4]) rfl ?_
  obtain ⟨q1, q2⟩ := HA.out
  obtain ⟨p1, p2, p3⟩ := HPa.out
  have hBF : Below w.heap.size w w4 := HB3.out.trans (HB4.out.mono HB3.out.size)
  have hz4 := HB4.out.size
  refine copy_done (ip := ip) (ic := ic) (items := []) pp2 pc2 none 0 [] (bset (hBF.setCell (p := ⟨w.heap.size, 10, none⟩) (Nat.le_refl _) _) (by omega) _ _ _ _ _ _ _ _ _ _ _) q1 q2 p1 p2 ⟨path_kept2 HPr.out hwz (fun b h1 h2 => (eleven_after w4 w.heap.size b (by omega) (by omega) 10 _ _ _ _ _ _ _ _ _ _ _ _).trans (HB4.out.block b h2)) (by simp; omega), p3⟩ rfl (Nat.le_refl _) (Nat.zero_le _) (.inl rfl) ⟨fun _ _ e => (by cases e), fun x hx => (by cases hx)⟩ rfl
set_option maxRecDepth 100000 in
set_option maxHeartbeats 8000000 in
theorem copiedV_i (n : Nat) (k : Int) (t : ByteArray) (a f : Int) (s : ByteArray) (r0 r1 r2 r3 : Int) (pp : Option Addr) (path : List Int) (pc : Nat) (ip : Option Addr) (ic : Nat) (items : List MD) (w : World) (hI : VCopyC n) (hne : 0 < items.length)
    (hin : MD.In w.heap.size w (n + 1) ⟨⟨k, t, a, f, s, r0, r1, r2, r3, pp, path, pc⟩, ip, ic, items⟩) (hf : MD.full (n + 1) ⟨⟨k, t, a, f, s, r0, r1, r2, r3, pp, path, pc⟩, ip, ic, items⟩ = true) :
    Calls Tryd.prog 35 #[.agg #[.int .i64 k, .string t, .int .i64 a, .int .u64 f, .string s, .int .i64 r0, .int .i64 r1, .int .i64 r2, .int .i64 r3, .slice pp path.length pc, .slice ip items.length ic]] w (CopyP (n + 1) ⟨⟨k, t, a, f, s, r0, r1, r2, r3, pp, path, pc⟩, ip, ic, items⟩ w) := by
  have hF := hin.fine
  have hP := hin.path
  have hits := hin.items
  have hlen := hin.len
  have fx2 : (headOK ⟨k, t, a, f, s, r0, r1, r2, r3, pp, path, pc⟩ items.length && (k != 8 || (decide (items.length ≤ 30) && items.all (MD.full n)))) = true := hf
  rw [Bool.and_eq_true] at fx2
  obtain ⟨hp100, _⟩ := head_path fx2.1
  have hty : tyB k t = true := by
    have := fx2.1
    unfold headOK at this
    rw [Bool.and_eq_true, Bool.and_eq_true] at this
    exact this.1.1
  have ht40 := ty_small hty
  obtain ⟨hs65, hi30⟩ := full_small hf
  have HFi : Hid (∀ q ∈ items, MD.full n q = true) := full_items hf
  simp only at hp100 hs65 hi30
  have ht : t.size ≤ 140737488351232 := by omega
  have hs : s.size ≤ 140737488351232 := by omega
  have HPn : Hid (pp = none → path.length = 0) := fun e => by
    rcases hP.2 with e1 | ⟨b, o, e1, _⟩
    · have e1' : path = [] := e1
      rw [e1']; rfl
    · exact absurd (e.symm.trans e1) (by simp)
  have HIn : Hid (ip = none → items.length = 0) := fun e => by
    rcases hits with e1 | ⟨b, o, e1, _⟩
    · have e1' : items = [] := e1
      rw [e1']; rfl
    · exact absurd (e.symm.trans e1) (by simp)
  have HPC : Hid (∀ W : World, (∀ b, b < w.heap.size → W.heap[b]? = w.heap[b]?) → ∀ ad, pp = some ad → ∀ (j : Nat) (u : Value), (path.map (Value.int .i64))[j]? = some u → W.cell? (ad.add j) = some u) := fun W hW ad e => path_cells (by rw [← e]; exact hP.2) W hW
  have HIC : Hid (∀ W : World, (∀ b, b < w.heap.size → W.heap[b]? = w.heap[b]?) → ∀ ad, ip = some ad → ∀ (j : Nat) (u : Value), (rowOf items)[j]? = some u → W.cell? (ad.add j) = some u) := fun W hW ad e => rowOf_cells (by
    rcases hits with e1 | ⟨b, o, e1, e2, e3⟩
    · exact .inl e1
    · exact .inr ⟨b, o, e ▸ e1, fun i hi => (e3 i hi).1.other (hW b e2)⟩)
  have HIt : Hid (MD.ItemsIn w.heap.size w n ⟨⟨k, t, a, f, s, r0, r1, r2, r3, pp, path, pc⟩, ip, ic, items⟩) := hits
  have HA : Hid (MD.Fine ⟨k, t, a, f, s, r0, r1, r2, r3, pp, path, pc⟩ ∧ (∀ x ∈ path, -9223372036854775808 ≤ x ∧ x ≤ 9223372036854775807)) := ⟨hF, hP.1⟩
  obtain ⟨i3, hi3, hz30, hz31, hz32⟩ := info_parts info3z
  obtain ⟨i28, hi28, hz280, hz281, hz282⟩ := info_parts info28z
  clear fx2 hty hin hf hF hP hits hlen
  obtain ⟨W2, hW2⟩ : ∃ W2, W2 = (w.alloc (.cells #[.int .i64 k, .string t, .int .i64 a, .int .u64 f, .string s, .int .i64 r0, .int .i64 r1, .int .i64 r2, .int .i64 r3, .slice pp path.length pc, .slice ip items.length ic] 28)).alloc (.cells #[.int .i64 0, .string ⟨#[]⟩, .int .i64 0, .int .u64 0, .string ⟨#[]⟩, .int .i64 0, .int .i64 0, .int .i64 0, .int .i64 0, .slice none 0 0, .slice none 0 0] 28) := ⟨_, rfl⟩
  have hB2 : Below w.heap.size w W2 := by rw [hW2]; exact below2 _ _ _
  have hz2 : W2.heap.size = w.heap.size + 2 := by rw [hW2]; simp
  have hrow0 : Hid (W2.heap[w.heap.size]? = some (.cells #[.int .i64 k, .string t, .int .i64 a, .int .u64 f, .string s, .int .i64 r0, .int .i64 r1, .int .i64 r2, .int .i64 r3, .slice pp path.length pc, .slice ip items.length ic] 28 (0, 0))) := by rw [hW2, Below.heap_alloc _ _ _ (by simp)]; exact heap_alloc_new _ _
  have hrow1 : Hid (W2.heap[w.heap.size + 1]? = some (.cells zeros 28 (0, 0))) := by rw [hW2]; exact heap2_1 _ _ _
  have HK : Hid (∀ W, Below W2.heap.size W2 W → (∀ j, W.cell? ⟨w.heap.size, j, none⟩ = (#[.int .i64 k, .string t, .int .i64 a, .int .u64 f, .string s, .int .i64 r0, .int .i64 r1, .int .i64 r2, .int .i64 r3, .slice pp path.length pc, .slice ip items.length ic] : Array Value)[j]?)) := fun W hW j => row_at ((hW.block w.heap.size (by omega)).trans hrow0.out) j
  have HC : Hid (∀ (u : ByteArray) (W : World), u.size ≤ 140737488351232 → Calls Tryd.prog 66 #[.string u] W fun r w' => r = .returned (.string u) ∧ Below W.heap.size W w') := fun u W h => clone_any u W h
  go_enter Tryd.func35, Tryd.ntmps35
  go_wp2_with fail
  rw [← hW2]
  clear hW2
  refine wp_region_noPanic ?_
  refine wp_region_held (S := fun W => ∀ j, W.cell? ⟨w.heap.size, j, none⟩ = (#[.int .i64 k, .string t, .int .i64 a, .int .u64 f, .string s, .int .i64 r0, .int .i64 r1, .int .i64 r2, .int .i64 r3, .slice pp path.length pc, .slice ip items.length ic] : Array Value)[j]?) (by kernel_rfl) ?_
  obtain ⟨W4, hW4⟩ : ∃ W4, W4 = W2.drew := ⟨_, rfl⟩
  have e4 : ({ W2 with drawn := W2.drawn + 1 } : World) = W4 := hW4.symm
  rw [e4]
  have hB4 : Below W2.heap.size W2 W4 := by rw [hW4]; exact (Below.refl _ _).drew
  have hS := HK.out W4 hB4
  clear e4 hW4
  refine wpAnyH_take (i := 0) (v := .pointer (some ⟨w.heap.size, 1, none⟩)) rfl (by kernel_rfl) (by kernel_rfl) (by kernel_rfl) (fun _ _ _ h => h) (Or.inl ⟨by rfl, ?r⟩) hS ?_
  case r => intro W hW; simp [go_sem, execOp, Act.eval]
  simp only [List.getElem_toArray, List.getElem_cons_zero, Act.put, List.setIfInBounds_toArray, List.set_cons_succ, List.set_cons_zero]
  refine wpAnyH_take (i := 1) (v := .string t) rfl (by kernel_rfl) (by kernel_rfl) (by kernel_rfl) (fun _ _ _ h => h) (Or.inl ⟨by rfl, ?r⟩) hS ?_
  case r => intro W hW; simp [go_sem, execOp, Act.eval, hW]
  simp only [List.getElem_toArray, List.getElem_cons_zero, List.getElem_cons_succ, Act.put, List.setIfInBounds_toArray, List.set_cons_succ, List.set_cons_zero]
  refine wpAnyH_take (i := 3) (v := .pointer (some ⟨w.heap.size, 4, none⟩)) rfl (by kernel_rfl) (by kernel_rfl) (by kernel_rfl) (fun _ _ _ h => h) (Or.inl ⟨by rfl, ?r⟩) hS ?_
  case r => intro W hW; simp [go_sem, execOp, Act.eval]
  simp only [List.getElem_toArray, List.getElem_cons_zero, List.getElem_cons_succ, Act.put, List.setIfInBounds_toArray, List.set_cons_succ, List.set_cons_zero]
  refine wpAnyH_take (i := 4) (v := .string s) rfl (by kernel_rfl) (by kernel_rfl) (by kernel_rfl) (fun _ _ _ h => h) (Or.inl ⟨by rfl, ?r⟩) hS ?_
  case r => intro W hW; simp [go_sem, execOp, Act.eval, hW]
  simp only [List.getElem_toArray, List.getElem_cons_zero, List.getElem_cons_succ, Act.put, List.setIfInBounds_toArray, List.set_cons_succ, List.set_cons_zero]
  refine wpAnyH_all (rs := [2]) (by kernel_rfl) (by simp) (fun i2 hi2 => ?_)
  obtain rfl : i2 = 2 := by simpa using hi2
  clear hi2
  refine wpOp_step rfl (fun K hK => ite_yes rfl ?_)
  simp only [List.getElem_toArray, List.getElem_cons_zero, List.getElem_cons_succ]
  go_simp
  refine (HC.out _ _ ht).mono ?_
  rintro e w5 ⟨rfl, b5⟩
  have hb5 : Below W2.heap.size W2 w5 := hB4.trans (b5.mono hB4.size)
  go_simp
  refine hK _ _ ⟨HK.out _ hb5, ?_⟩
  clear hK K hS
  have hS := HK.out _ hb5
  refine wpAnyH_take (i := 6) (v := .pointer (some ⟨w.heap.size, 1, none⟩)) rfl (by kernel_rfl) (by kernel_rfl) (by kernel_rfl) (fun _ _ _ h => h) (Or.inl ⟨by rfl, ?r⟩) hS ?_
  case r => intro W hW; simp [go_sem, execOp, Act.eval]
  simp only [List.getElem_toArray, List.getElem_cons_zero, List.getElem_cons_succ, Act.put, List.setIfInBounds_toArray, List.set_cons_succ, List.set_cons_zero]
  refine wpAnyH_all (rs := [5]) (by kernel_rfl) (by simp) (fun i2 hi2 => ?_)
  obtain rfl : i2 = 5 := by simpa using hi2
  clear hi2
  refine wpOp_step rfl (fun K hK => ite_yes rfl ?_)
  simp only [List.getElem_toArray, List.getElem_cons_zero, List.getElem_cons_succ]
  go_simp
  refine (HC.out _ _ hs).mono ?_
  rintro e w6 ⟨rfl, b6⟩
  have hb6 : Below W2.heap.size W2 w6 := hb5.trans (b6.mono hb5.size)
  go_simp
  refine hK _ _ ⟨HK.out _ hb6, ?_⟩
  clear hK K hS
  have hS := HK.out _ hb6
  have hfr : ∀ j, w6.frozen? ⟨w.heap.size, j, none⟩ = false := fun j => fz _ _ _ _ j ((hb6.block w.heap.size (by omega)).trans hrow0.out)
  refine wpAnyH_all (rs := [7]) (by kernel_rfl) (by simp) (fun i2 hi2 => ?_)
  obtain rfl : i2 = 7 := by simpa using hi2
  clear hi2
  refine wpOp_step rfl (fun K hK => ite_yes rfl ?_)
  simp only [List.getElem_toArray, List.getElem_cons_zero, List.getElem_cons_succ]
  have c1 : w6.cell? ⟨w.heap.size, 1, none⟩ = some (.string t) := hS 1
  go_simp
  have hS7 := set_same (o := 1) (v := .string t) hS rfl
  refine hK _ _ ⟨hS7, ?_⟩
  clear hK K hS
  have hS := hS7
  refine wpAnyH_take (i := 8) (v := .pointer (some ⟨w.heap.size, 4, none⟩)) rfl (by kernel_rfl) (by kernel_rfl) (by kernel_rfl) (fun _ _ _ h => h) (Or.inl ⟨by rfl, ?r⟩) hS ?_
  case r => intro W hW; simp [go_sem, execOp, Act.eval]
  simp only [List.getElem_toArray, List.getElem_cons_zero, List.getElem_cons_succ, Act.put, List.setIfInBounds_toArray, List.set_cons_succ, List.set_cons_zero]
  refine wpAnyH_all (rs := [9]) (by kernel_rfl) (by simp) (fun i2 hi2 => ?_)
  obtain rfl : i2 = 9 := by simpa using hi2
  clear hi2
  refine wpOp_step rfl (fun K hK => ite_yes rfl ?_)
  simp only [List.getElem_toArray, List.getElem_cons_zero, List.getElem_cons_succ]
  have c4 : w6.cell? ⟨w.heap.size, 4, none⟩ = some (.string s) := HK.out _ hb6 4
  go_simp
  have hS9 := set_same (o := 4) (v := .string s) hS7 rfl
  refine hK _ _ ⟨hS9, ?_⟩
  clear hK K hS
  refine wpAnyH_done (by kernel_rfl) ?_ _
  refine NoPanic.normal ?_
  try simp only [Act.put]
  obtain ⟨W9, hW9⟩ : ∃ W9, W9 = ((w6.setCell ⟨w.heap.size, 1, none⟩ (.string t)).setCell ⟨w.heap.size, 4, none⟩ (.string s)) := ⟨_, rfl⟩
  have hB9 : Below w.heap.size w W9 := by rw [hW9]; exact ((hB2.trans (hb6.mono (by omega))).setCell (p := ⟨w.heap.size, 1, none⟩) (Nat.le_refl _) _).setCell (p := ⟨w.heap.size, 4, none⟩) (Nat.le_refl _) _
  have hf9 : ∀ j, W9.frozen? ⟨w.heap.size, j, none⟩ = false := fun j => by rw [hW9]; simp [go_sem, hfr]
  have hr9 : W9.heap[w.heap.size + 1]? = some (.cells zeros 28 (0, 0)) := by
    rw [hW9, Below.heap_setCell _ _ _ _ (by simp), Below.heap_setCell _ _ _ _ (by simp)]; exact (hb6.block (w.heap.size + 1) (by omega)).trans hrow1.out
  have hz9 : w.heap.size + 1 < W9.heap.size := row_ltT hr9
  have hbx9 : W9.heap[w.heap.size]? = some (.cells #[.int .i64 k, .string t, .int .i64 a, .int .u64 f, .string s, .int .i64 r0, .int .i64 r1, .int .i64 r2, .int .i64 r3, .slice pp path.length pc, .slice ip items.length ic] 28 (0, 0)) := by
    rw [hW9]; exact row_set (row_set ((hb6.block w.heap.size (by omega)).trans hrow0.out) 1 _) 4 _
  rw [← hW9] at hS9 ⊢
  obtain ⟨⟨d0, d1, d2, d3, d4, d5, d6, d7, d8, d9, d10⟩, hf2⟩ := box_keptD hr9
  clear hW9 hfr c1 c4 hS7 HK HC hrow0 hrow1
  have HR9 : Hid _ := hr9
  have hw9 : ∀ b, b < w.heap.size → W9.heap[b]? = w.heap[b]? := fun b hb => hB9.block b hb
  have HX9 : Hid (W9.heap[w.heap.size]? = some (.cells #[.int .i64 k, .string t, .int .i64 a, .int .u64 f, .string s, .int .i64 r0, .int .i64 r1, .int .i64 r2, .int .i64 r3, .slice pp path.length pc, .slice ip items.length ic] 28 (0, 0))) := hbx9
  have HB9 : Hid _ := hB9
  clear hr9 hbx9 hB9 d0 d1 d2 d3 d4 d5 d6 d7 d8 d9 d10 hf2
  go_wp2_with (first
    | (at_builtin; refine wpList_append_new rfl _ _ 23 rfl 3 i3 (.int .i64 0) 1 8 Tryd.underlying23 hi3 hz30 hz31 hz32 rfl (by decide) rfl pp path.length pc (path.map (Value.int .i64)) rfl (by simp) HPn.out (HPC.out W9 hw9) (numsOf path) (by unfold maxLen; omega) (by omega) ?_; intro pp2 pc2 w3 hN3; obtain ⟨w3s, hw3s⟩ : ∃ w3s, w3s = w3.setCell ⟨w.heap.size, 9, none⟩ (.slice pp2 path.length pc2) := ⟨_, rfl⟩; have HN3 : Hid (NewRow W9 w3 3 1 path.length (path.map (Value.int .i64)) pp2 pc2) := hN3; have hX3 := (hN3.2.2.1.block w.heap.size (by omega)).trans HX9.out; have hc3 := row_at hX3; have hf3 := fun j => fz _ _ _ _ j hX3; have HX3 : Hid _ := hX3; have hBz3 := hN3.2.2.1.size; have HW3 : Hid (w3s = w3.setCell ⟨w.heap.size, 9, none⟩ (.slice pp2 path.length pc2)) := hw3s; have hw3b : ∀ b, b < w.heap.size → w3s.heap[b]? = w.heap[b]? := (fun b hb => by rw [hw3s]; exact (heap_setCell_other _ _ _ _ _ (by omega)).trans ((hN3.2.2.1.block b (by omega)).trans (hw9 b hb))); clear hN3 hX3)
    | (at_builtin; rw [← hw3s]; refine wpList_append_new rfl _ _ 26 rfl 28 i28 (.agg zeros) 11 136 Tryd.underlying26 hi28 hz280 hz281 hz282 rfl (by decide) rfl ip items.length ic (rowOf items) rfl (rowOf_length items) HIn.out (HIC.out w3s hw3b) (rowOf_one items) (by unfold maxLen; omega) (by omega) ?_; intro ip2 ic2 w4 hN4; have HN4 : Hid (NewRow w3s w4 28 11 items.length (rowOf items) ip2 ic2) := hN4; clear hN4))
  have hz3s : w3s.heap.size = w3.heap.size := by rw [HW3.out]; simp
  have hX3s : w3s.heap[w.heap.size]? = some (.cells #[.int .i64 k, .string t, .int .i64 a, .int .u64 f, .string s, .int .i64 r0, .int .i64 r1, .int .i64 r2, .int .i64 r3, .slice pp2 path.length pc2, .slice ip items.length ic] 28 (0, 0)) := by
    rw [HW3.out]; exact row_set HX3.out 9 _
  have hR3s : w3s.heap[w.heap.size + 1]? = some (.cells zeros 28 (0, 0)) := by
    rw [HW3.out, heap_setCell_other _ _ _ _ _ (by omega)]; exact (HN3.out.2.2.1.block _ hz9).trans HR9.out
  have HPr : Hid (path = [] ∨ ∃ g, pp2 = some ⟨g, 0, none⟩ ∧ g < w3s.heap.size ∧ W9.heap.size ≤ g ∧ ∀ (i : Nat) (hi : i < path.length), w3s.cell? ⟨g, 0 + i, none⟩ = some (.int .i64 path[i])) := by
    rcases path_row HN3.out with e | ⟨g, e1, e2, e3, e4⟩
    · exact .inl e
    · refine .inr ⟨g, e1, by omega, e3, fun i hi => ?_⟩
      refine (World.cell?_of_block (a := ⟨g, 0 + i, none⟩) ?_).trans (e4 i hi)
      rw [HW3.out]; exact heap_setCell_other _ _ _ _ _ (show g ≠ w.heap.size by omega)
  have HPa : Hid (path.length ≤ pc2 ∧ pc2 ≤ maxLen ∧ ∀ b o, pp2 = some ⟨b, o, none⟩ → w.heap.size ≤ b) := ⟨HN3.out.1, HN3.out.2.1, fun b o e => by have := HN3.out.2.2.2.1 b o e; omega⟩
  have HB3 : Hid (Below w.heap.size w w3s) := by rw [HW3.out]; exact (HB9.out.trans (HN3.out.2.2.1.mono HB9.out.size)).setCell (p := ⟨w.heap.size, 9, none⟩) (Nat.le_refl _) _
  have HXR : Hid (∀ W, Below w3s.heap.size w3s W → W.heap[w.heap.size]? = some (.cells #[.int .i64 k, .string t, .int .i64 a, .int .u64 f, .string s, .int .i64 r0, .int .i64 r1, .int .i64 r2, .int .i64 r3, .slice pp2 path.length pc2, .slice ip items.length ic] 28 (0, 0)) ∧ W.heap[w.heap.size + 1]? = some (.cells zeros 28 (0, 0))) := fun W hW => ⟨(hW.block _ (by omega)).trans hX3s, (hW.block _ (by omega)).trans hR3s⟩
  clear HX3 HN3 HW3 hw3s hX3s hR3s hw3b HX9 HR9 hw9 HPC HIC HPn HIn hc3 hf3 HB9
  have hwz : w.heap.size + 2 ≤ W9.heap.size := by omega
  obtain ⟨hi1, hi2, hb4, _, h4⟩ := HN4.out
  obtain ⟨g, cur, rfl, hgl, hgw, hg4, hgs, hgt⟩ : ∃ g cur, ip2 = some ⟨g, 0, none⟩ ∧ w3s.heap.size ≤ g ∧ g < w4.heap.size ∧ w4.heap[g]? = some (.cells cur 28 (0, 0)) ∧ items.length * 11 ≤ cur.size ∧ cur.toList.take (items.length * 11) = rowOf items := by
    rcases h4 with ⟨e, _⟩ | ⟨g, cur, _, e1, e2, e3, e4, e5, e6⟩
    · omega
    · exact ⟨g, cur, e1, e2, e3, e4, e5, e6⟩
  have HC4 : Hid (∀ (j : Nat) (hj : j < items.length), 0 ≤ j → MD.CellsAt w4 g (j * 11) items[j]) := fun j hj _ => rowOf_at hg4 hgt j hj
  have HT4 : Hid (w4.there g 0 (items.length * 11)) := there_at hg4 hgs
  have HB4 : Hid (Below w3s.heap.size w3s w4) := hb4
  have HI : Hid (VCopyC n) := hI
  clear h4 hb4 HN4 hg4 hgs hgt hI
  go_wp2_with fail
  go_loopw [25] (fun i wr => VRel n items w3s g i wr) (fun i _ => items.length - (intOf i).toNat)
  case atStart => exact ⟨0, rfl, ⟨0, [], Nat.zero_le _, rfl, rfl, HB4.out, hgw, HT4.out, fun i hi => absurd hi (by simp), rfl⟩, HC4.out⟩
  case round =>
    obtain ⟨k', rfl, ⟨k'', ds, hk, e, hds, hb', hg, hth, hc', ha⟩, hrest⟩ := hrel
    obtain rfl : k' = k'' := by injection e with _ e2; omega
    obtain ⟨hbox, hres⟩ := HXR.out wr hb'
    have hb0 : Below w.heap.size w wr := HB3.out.trans (hb'.mono HB3.out.size)
    by_cases hlt : k' < items.length
    · have i1 : (k' : Int) < items.length := by omega
      have hIn : MD.In w.heap.size wr n items[k'] := by
        rcases MD.ItemsIn.below HIt.out hb0 with e | ⟨bb, o, e1, e2, e3⟩
        · have e' : items = [] := e
          rw [e'] at hlt; simp at hlt
        · exact (e3 k' hlt).2
      have hC := hrest k' hlt (Nat.le_refl _)
      have HN : Hid (∀ (w9 : World) (d : MD), Below wr.heap.size wr w9 → MD.In w9.heap.size w9 n d → MD.Above wr.heap.size n d → MD.same n items[k'] d = true → VRel n items w3s g (.int .i64 ((k' : Int) + 1)) (w9.setCells g (k' * 11) d.cells.toList)) := fun w9 d h1 h2 h3 h4 =>
        ⟨k' + 1, by simp, by
          have := CopyRel.next hlt hds hb' hgl hg hth hc' ha h1 h2 h3 h4
          simpa using this, VRel.rest hrest hg h1⟩
      have HO : Hid (wr.there g 0 (items.length * 11)) := hth
      have HFk := HFi.out _ (List.getElem_mem hlt)
      generalize items[k'] = kid at hC hIn HN HFk
      obtain ⟨⟨k0, k1, k2, k3, k4, k5, k6, k7, k8, kp, kpath, kpc⟩, kip, kic, kit⟩ := kid
      have c0 : wr.cell? ⟨g, k' * 11, none⟩ = some (.int .i64 k0) := hC 0 (by omega)
      have c1 : wr.cell? ⟨g, k' * 11 + 1, none⟩ = some (.string k1) := hC 1 (by omega)
      have c2 : wr.cell? ⟨g, k' * 11 + 2, none⟩ = some (.int .i64 k2) := hC 2 (by omega)
      have c3 : wr.cell? ⟨g, k' * 11 + 3, none⟩ = some (.int .u64 k3) := hC 3 (by omega)
      have c4 : wr.cell? ⟨g, k' * 11 + 4, none⟩ = some (.string k4) := hC 4 (by omega)
      have c5 : wr.cell? ⟨g, k' * 11 + 5, none⟩ = some (.int .i64 k5) := hC 5 (by omega)
      have c6 : wr.cell? ⟨g, k' * 11 + 6, none⟩ = some (.int .i64 k6) := hC 6 (by omega)
      have c7 : wr.cell? ⟨g, k' * 11 + 7, none⟩ = some (.int .i64 k7) := hC 7 (by omega)
      have c8 : wr.cell? ⟨g, k' * 11 + 8, none⟩ = some (.int .i64 k8) := hC 8 (by omega)
      have c9 : wr.cell? ⟨g, k' * 11 + 9, none⟩ = some (.slice kp kpath.length kpc) := hC 9 (by omega)
      have c10 : wr.cell? ⟨g, k' * 11 + 10, none⟩ = some (.slice kip kit.length kic) := hC 10 (by omega)
      have HC : Hid (∀ W, Below wr.heap.size wr W → Calls Tryd.prog 35 #[.agg #[.int .i64 k0, .string k1, .int .i64 k2, .int .u64 k3, .string k4, .int .i64 k5, .int .i64 k6, .int .i64 k7, .int .i64 k8, .slice kp kpath.length kpc, .slice kip kit.length kic]] W (CopyP n ⟨⟨k0, k1, k2, k3, k4, k5, k6, k7, k8, kp, kpath, kpc⟩, kip, kic, kit⟩ W)) := fun W hW => HI.out ⟨⟨k0, k1, k2, k3, k4, k5, k6, k7, k8, kp, kpath, kpc⟩, kip, kic, kit⟩ W (MD.In.later hIn hb0.size hW) HFk
      clear hC hIn HFk ha hc' hb' hbox hres hb0 hth HI hrest
      go_wp2_with (go_at_call 35; refine (HC.out _ (below1 _ _)).mono ?_; rintro r w9 ⟨d', rfl, hd1, hd2, hd3, hd4⟩; obtain ⟨⟨l0, l1, l2, l3, l4, l5, l6, l7, l8, lp, lpath, lpc⟩, lip, lic, lit⟩ := d'; have hd5 : Below wr.heap.size wr w9 := (below1 _ _).trans (hd4.mono (by simp)); have HR := HN.out w9 ⟨⟨l0, l1, l2, l3, l4, l5, l6, l7, l8, lp, lpath, lpc⟩, lip, lic, lit⟩ hd5 hd1 (MD.Above.mono (by simp) n _ hd2) hd3; have HR2 : Hid _ := HR; obtain ⟨u0, u1, u2, u3, u4, u5, u6, u7, u8, u9, u10, ⟨e0, e1, e2, e3, e4, e5, e6, e7, e8, e9, e10⟩, f0, f1, f2, f3, f4, f5, f6, f7, f8, f9, f10⟩ := old_cells (there_below HO.out hg hd5) (show k' * 11 + 11 ≤ items.length * 11 by omega); simp only [MD.val, D]; clear HR hd1 hd2 hd3 hd4 hd5)
      exact ⟨HR2.out, by simp [intOf]; omega⟩
    · have i1 : ¬ (k' : Int) < items.length := by omega
      obtain rfl : k' = items.length := by omega
      rw [List.take_of_length_le (Nat.le_refl _)] at ha
      have hcb := row_at hbox
      have hfb := fun j => fz _ _ _ _ j hbox
      have hrc : ∀ j, wr.cell? ⟨w.heap.size + 1, j, none⟩ = (#[.int .i64 0, .string ⟨#[]⟩, .int .i64 0, .int .u64 0, .string ⟨#[]⟩, .int .i64 0, .int .i64 0, .int .i64 0, .int .i64 0, .slice none 0 0, .slice none 0 0] : Array Value)[j]? := row_at hres
      have hrf := fun j => fz _ _ _ _ j hres
      have HE : Hid (ds.length = items.length ∧ Below w3s.heap.size w3s wr ∧ g < wr.heap.size ∧ (∀ (i : Nat) (hi : i < ds.length), MD.CellsAt wr g (i * 11) ds[i] ∧ MD.In wr.heap.size wr n ds[i] ∧ MD.Above (g + 1) n ds[i]) ∧ all2 (MD.same n) items ds = true) := ⟨hds, hb', hg, hc', ha⟩
      have hwr : w3s.heap.size ≤ wr.heap.size := hb'.size
      clear ha hc' hb' hbox hres hb0 hth HI hds hrest e
      go_wp2_with fail
      refine bodyPost_ret (v := .agg #[.int .i64 k, .string t, .int .i64 a, .int .u64 f, .string s, .int .i64 r0, .int .i64 r1, .int .i64 r2, .int .i64 r3, .slice pp2 path.length pc2, .slice (some ⟨g, 0, none⟩) items.length ic2]) (by simp [results, Tryd.results35, go_sem, hrc]) rfl ?_
      obtain ⟨q1, q2⟩ := HA.out
      obtain ⟨p1, p2, p3⟩ := HPa.out
      obtain ⟨x1, x2, x3, x4, x5⟩ := HE.out
      have hBF : Below w.heap.size w wr := HB3.out.trans (x2.mono HB3.out.size)
      have hkeep := fun (b : Nat) (h1 : w.heap.size + 2 ≤ b) => eleven_after wr w.heap.size b (by omega) (by omega) 10 (.slice (some ⟨g, 0, none⟩) items.length ic2) (.int .i64 k) (.string t) (.int .i64 a) (.int .u64 f) (.string s) (.int .i64 r0) (.int .i64 r1) (.int .i64 r2) (.int .i64 r3) (.slice pp2 path.length pc2) (.slice (some ⟨g, 0, none⟩) items.length ic2)
      obtain ⟨z1, z2⟩ := rows_kept2 (lo := w.heap.size) x4 (by omega) x3 (fun b h1 h2 => hkeep b (by omega)) (by simp)
      exact copy_done pp2 pc2 (some ⟨g, 0, none⟩) ic2 ds (bset (hBF.setCell (p := ⟨w.heap.size, 10, none⟩) (Nat.le_refl _) _) (by omega) _ _ _ _ _ _ _ _ _ _ _) q1 q2 p1 p2 ⟨path_kept2 HPr.out hwz (fun b h1 h2 => (hkeep b h1).trans (x2.block b h2)) (by simp; omega), p3⟩ x1 hi1 hi2 z1 ⟨fun b o e => (by cases e; omega), z2⟩ x5

theorem copiedV_any : ∀ n, VCopyC n
  | 0 => fun _ _ h _ => h.elim
  | n + 1 => by
    intro d w hin hf
    obtain ⟨⟨k, t, a, f, s, r0, r1, r2, r3, pp, path, pc⟩, ip, ic, items⟩ := d
    by_cases he : items = []
    · exact copiedV_e n k t a f s r0 r1 r2 r3 pp path pc ip ic items w he hin hf
    · exact copiedV_i n k t a f s r0 r1 r2 r3 pp path pc ip ic items w (copiedV_any n) (List.length_pos_iff.2 he) hin hf
end Go.Proofs.YtnhbpcmiolkllaaDoor
namespace Go.Proofs.YtnhbpcmiolkllaaDoor
open Go.RowKit
attribute [local go_sem] refold2 cell3_0 cell3_1 b28_0 b28_01

set_option maxRecDepth 100000 in
set_option maxHeartbeats 2000000 in
theorem incomparable_any (n : Nat) (x : MD) (w : World) (hx : MD.In w.heap.size w n x) (hf : MD.full n x = true) :
    Calls Tryd.prog 37 #[x.val] w fun r w' => r = .returned (.string (MD.eqv n x x).2) ∧ Below w.heap.size w w' := by
  have HE : Hid (∀ W, Below w.heap.size w W → Calls Tryd.prog 48 #[x.val, x.val] W fun r w' => r = .returned (.tuple #[.bool (MD.eqv n x x).1, .string (MD.eqv n x x).2]) ∧ Below W.heap.size W w') := fun W hW => eqv_any n x x W (hx.later (Nat.le_refl _) hW) (hx.later (Nat.le_refl _) hW) hf hf
  clear hx hf
  generalize (MD.eqv n x x).1 = q at HE
  generalize (MD.eqv n x x).2 = c at HE ⊢
  obtain ⟨⟨k, t, a, f, s, r0, r1, r2, r3, pp, path, pc⟩, ip, ic, items⟩ := x
  simp only [MD.val, D] at *
  go_enter Tryd.func37, Tryd.ntmps37
  go_wp2_with (go_at_call 48; refine (HE.out _ (below1 _ _)).mono ?_; rintro r w' ⟨rfl, hb⟩)
  go_ret
  exact ⟨rfl, (below1 _ _).trans (hb.mono (by simp))⟩
set_option maxRecDepth 100000 in
set_option maxHeartbeats 2000000 in
theorem Key_wrong (n : Nat) (x : MD) (w : World) (hN : NamesAt w) (hx : MD.In w.heap.size w n x) (h : MD.right n x = false) : Calls Tryd.prog 25 #[x.val] w fun r w' => ∃ m, r = .returned (.iface 79 (.pointer (some ⟨m, 0, none⟩))) ∧ w.heap.size ≤ m ∧ w'.heap[m]? = some (.cells #[.int .i64 1, .int .i64 0, .string ⟨#[]⟩] 83 (0, 0)) ∧ Below w.heap.size w w' := by
  have HR : Hid (∀ W, Below w.heap.size w W → Calls Tryd.prog 10 #[x.val] W fun r w' => r = .returned (.bool (MD.right n x)) ∧ Below W.heap.size W w') := fun W hW => Right_any n x W (hN.kept hW) (hx.later (Nat.le_refl _) hW)
  rw [h] at HR
  clear hx h
  obtain ⟨⟨k, t, a, f, s, r0, r1, r2, r3, pp, path, pc⟩, ip, ic, items⟩ := x
  simp only [MD.val, D] at *
  go_enter Tryd.func25, Tryd.ntmps25
  go_wp2_with fail
  refine (HR.out _ (below1 _ _)).mono ?_
  rintro r w1 ⟨rfl, b1⟩
  have e1 := one_kept _ _ _ b1
  have q1 : Below w.heap.size w w1 := (below1 _ _).trans (b1.mono (by simp))
  clear e1
  go_wp2_with (go_at_call 34; refine (wrong_any _).mono ?_; rintro r w4 ⟨rfl, rfl⟩)
  go_ret
  exact ⟨_, rfl, q1.size, heap_alloc_new _ _, q1.alloc q1.size _⟩
set_option maxRecDepth 100000 in
set_option maxHeartbeats 2000000 in
theorem Key_good (n : Nat) (x : MD) (w : World) (hN : NamesAt w) (hx : MD.In w.heap.size w n x) (h : MD.right n x = true) (hc : (MD.eqv n x x).2 = ⟨#[]⟩) : Calls Tryd.prog 25 #[x.val] w fun r w' => r = .returned .nilIface ∧ Below w.heap.size w w' := by
  have HR : Hid (∀ W, Below w.heap.size w W → Calls Tryd.prog 10 #[x.val] W fun r w' => r = .returned (.bool (MD.right n x)) ∧ Below W.heap.size W w') := fun W hW => Right_any n x W (hN.kept hW) (hx.later (Nat.le_refl _) hW)
  rw [h] at HR
  have HI : Hid (∀ W, Below w.heap.size w W → Calls Tryd.prog 37 #[x.val] W fun r w' => r = .returned (.string (MD.eqv n x x).2) ∧ Below W.heap.size W w') := fun W hW => incomparable_any n x W (hx.later (Nat.le_refl _) hW) (right_full h)
  rw [hc] at HI
  clear hx h hc
  obtain ⟨⟨k, t, a, f, s, r0, r1, r2, r3, pp, path, pc⟩, ip, ic, items⟩ := x
  simp only [MD.val, D] at *
  go_enter Tryd.func25, Tryd.ntmps25
  go_wp2_with fail
  refine (HR.out _ (below1 _ _)).mono ?_
  rintro r w1 ⟨rfl, b1⟩
  have e1 := one_kept _ _ _ b1
  have q1 : Below w.heap.size w w1 := (below1 _ _).trans (b1.mono (by simp))
  go_wp2_with fail
  refine (HI.out _ q1).mono ?_
  rintro r w2 ⟨rfl, b2⟩
  have q2 := q1.trans (b2.mono q1.size)
  clear e1
  go_wp2
  go_ret
  exact ⟨rfl, q2⟩
set_option maxRecDepth 100000 in
set_option maxHeartbeats 2000000 in
theorem Key_fault (n : Nat) (x : MD) (w : World) (hN : NamesAt w) (hx : MD.In w.heap.size w n x) (h : MD.right n x = true) (hc : (MD.eqv n x x).2.size ≠ 0) : Calls Tryd.prog 25 #[x.val] w fun r w' => ∃ m, r = .returned (.iface 103 (.pointer (some ⟨m, 0, none⟩))) ∧ w.heap.size ≤ m ∧ w'.heap[m]? = some (.cells #[.string ⟨#[107, 101, 121]⟩, .string (MD.eqv n x x).2] 53 (0, 0)) ∧ Below w.heap.size w w' := by
  have HR : Hid (∀ W, Below w.heap.size w W → Calls Tryd.prog 10 #[x.val] W fun r w' => r = .returned (.bool (MD.right n x)) ∧ Below W.heap.size W w') := fun W hW => Right_any n x W (hN.kept hW) (hx.later (Nat.le_refl _) hW)
  rw [h] at HR
  have HI : Hid (∀ W, Below w.heap.size w W → Calls Tryd.prog 37 #[x.val] W fun r w' => r = .returned (.string (MD.eqv n x x).2) ∧ Below W.heap.size W w') := fun W hW => incomparable_any n x W (hx.later (Nat.le_refl _) hW) (right_full h)
  generalize (MD.eqv n x x).2 = c at HI hc ⊢
  have he := ne_empty hc
  clear hx h hc
  obtain ⟨⟨k, t, a, f, s, r0, r1, r2, r3, pp, path, pc⟩, ip, ic, items⟩ := x
  simp only [MD.val, D] at *
  go_enter Tryd.func25, Tryd.ntmps25
  go_wp2_with fail
  refine (HR.out _ (below1 _ _)).mono ?_
  rintro r w1 ⟨rfl, b1⟩
  have e1 := one_kept _ _ _ b1
  have q1 : Below w.heap.size w w1 := (below1 _ _).trans (b1.mono (by simp))
  go_wp2_with fail
  refine (HI.out _ q1).mono ?_
  rintro r w2 ⟨rfl, b2⟩
  have q2 := q1.trans (b2.mono q1.size)
  clear e1
  go_wp2_with (go_at_call 49; refine (fault_any _ _ _).mono ?_; rintro r w3 ⟨rfl, rfl⟩)
  go_ret
  exact ⟨_, rfl, q2.size, heap_alloc_new _ _, q2.alloc q2.size _⟩
end Go.Proofs.YtnhbpcmiolkllaaDoor
