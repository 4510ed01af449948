/-
  .
  .
  .
  .
  .
-/
import Derived.Test.YtdbijkgnddcneaaGreatDoorIa2J
import Derived.Test.YtdbijkgnddcneaaGreatDoorHd2J
import Derived.Test.YtdbijkgnddcneaaGreatDoorIJ
import Derived.Test.YtdbijkgnddcneaaGreatDoorSq
import Derived.Test.YtdbijkgnddcneaaGreatDoorGf2J
import Derived.Test.YtdbijkgnddcneaaGreatDoorMaJ
namespace Go.Proofs.YtdbijkgnddcneaaGreatDoor
open Go.RowKit
def Good (lo hi : Nat) (w : World) : Nat → MD → Prop
 | 0, _ => False
 | n + 1, d => (d.h.path.length ≤ d.h.pc ∧ d.h.pc ≤ maxLen) ∧ (d.items.length ≤ d.ic ∧ d.ic ≤ maxLen) ∧
  (d.h.path.length = 0 ∨ ∃ g cur, d.h.pp = some ⟨g, 0, none⟩ ∧ lo ≤ g ∧ g < hi ∧ w.heap[g]? = some (.cells cur 3 (0, 0)) ∧ d.h.path.length ≤ cur.size) ∧
  (d.items.length = 0 ∨ ∃ g cur, d.ip = some ⟨g, 0, none⟩ ∧ lo ≤ g ∧ g < hi ∧ w.heap[g]? = some (.cells cur 32 (0, 0)) ∧ d.items.length * 11 ≤ cur.size ∧ ∀ i, i < d.items.length → ∃ x, MD.CellsAt w g (i * 11) x ∧ Good lo hi w n x)
theorem Good.mono {lo hi lo' hi' : Nat} {w : World} (h1 : lo' ≤ lo) (h2 : hi ≤ hi') : ∀ (n : Nat) (d : MD), Good lo hi w n d → Good lo' hi' w n d
 | 0, _, h => h
 | n + 1, d, ⟨a, b, p, q⟩ => by
  refine ⟨a, b, ?_, ?_⟩
  ·rcases p with e | ⟨g, cur, e1, e2, e3, e4, e5⟩
   ·exact .inl e
   ·exact .inr ⟨g, cur, e1, by omega, by omega, e4, e5⟩
  ·rcases q with e | ⟨g, cur, e1, e2, e3, e4, e5, e6⟩
   ·exact .inl e
   ·exact .inr ⟨g, cur, e1, by omega, by omega, e4, e5, fun i hi => by
     obtain ⟨x, y1, y2⟩ := e6 i hi
     exact ⟨x, y1, Good.mono h1 h2 n x y2⟩⟩
theorem Good.same {lo hi : Nat} {w w' : World} (hh : ∀ b, lo ≤ b → b < hi → w'.heap[b]? = w.heap[b]?) : ∀ (n : Nat) (d : MD), Good lo hi w n d → Good lo hi w' n d
 | 0, _, h => h
 | n + 1, d, ⟨a, b, p, q⟩ => by
  refine ⟨a, b, ?_, ?_⟩
  ·rcases p with e | ⟨g, cur, e1, e2, e3, e4, e5⟩
   ·exact .inl e
   ·exact .inr ⟨g, cur, e1, e2, e3, (hh g e2 e3).trans e4, e5⟩
  ·rcases q with e | ⟨g, cur, e1, e2, e3, e4, e5, e6⟩
   ·exact .inl e
   ·exact .inr ⟨g, cur, e1, e2, e3, (hh g e2 e3).trans e4, e5, fun i hi => by
     obtain ⟨x, y1, y2⟩ := e6 i hi
     exact ⟨x, y1.other (hh g e2 e3), Good.same hh n x y2⟩⟩
theorem row_setCells {g : Nat} {t : TypeId} : ∀ (vs : List Value) (o : Nat) (w : World) (cur : Array Value), w.heap[g]? = some (.cells cur t (0, 0)) → ∃ cur', (w.setCells g o vs).heap[g]? = some (.cells cur' t (0, 0)) ∧ cur'.size = cur.size
 | [], _, _, cur, h => ⟨cur, h, rfl⟩
 | v :: r, o, w, cur, h => by
  obtain ⟨c, h1, h2⟩ := row_setCells r (o + 1) (w.setCell ⟨g, o, none⟩ v) _ (row_set h o v)
  exact ⟨c, h1, h2.trans (by simp)⟩
structure Sp (lo hi : Nat) (w w' : World) : Prop where
 os : w'.os = w.os
 tape : w'.tape = w.tape
 output : w'.output = w.output
 size : w.heap.size ≤ w'.heap.size
 block : ∀ b, b < w.heap.size → b < lo ∨ hi ≤ b → w'.heap[b]? = w.heap[b]?
 good : ∀ n d, Good lo hi w n d → Good lo hi w' n d
def Marks (w : World) : Nat → MD → Prop
 | 0, _ => True
 | n + 1, o => (o.h.pp = none ∨ ∃ g, o.h.pp = some ⟨g, 0, none⟩ ∧ o.h.pc = o.h.path.length + 2 ∧ w.cell? ⟨g, o.h.path.length, none⟩ = some (.int .i64 (-71)) ∧ w.cell? ⟨g, o.h.path.length + 1, none⟩ = some (.int .i64 (-72))) ∧
  (o.ip = none ∨ ∃ g, o.ip = some ⟨g, 0, none⟩ ∧ o.ic = o.items.length + 2 ∧ w.cell? ⟨g, o.items.length * 11, none⟩ = some (.int .i64 (-71)) ∧ w.cell? ⟨g, (o.items.length + 1) * 11, none⟩ = some (.int .i64 (-72))) ∧ ∀ x ∈ o.items, Marks w n x
theorem Marks.aloft {lo : Nat} {w w' : World} (hh : ∀ b, lo ≤ b → b < w.heap.size → w'.heap[b]? = w.heap[b]?) : ∀ (n : Nat) (d : MD), Marks w n d → MD.Above lo n d → Marks w' n d
 | 0, _, _, _ => trivial
 | n + 1, d, ⟨p, q, r⟩, ⟨a1, a2, a3⟩ => by
  refine ⟨?_, ?_, fun x hx => Marks.aloft hh n x (r x hx) (a3 x hx)⟩
  ·rcases p with e | ⟨g, e1, e2, e3, e4⟩
   ·exact .inl e
   ·have hk := hh g (a1 _ _ e1) (block_of_cell e3)
    exact .inr ⟨g, e1, e2, (World.cell?_of_block (a := ⟨g, _, none⟩) hk).trans e3, (World.cell?_of_block (a := ⟨g, _, none⟩) hk).trans e4⟩
  ·rcases q with e | ⟨g, e1, e2, e3, e4⟩
   ·exact .inl e
   ·have hk := hh g (a2 _ _ e1) (block_of_cell e3)
    exact .inr ⟨g, e1, e2, (World.cell?_of_block (a := ⟨g, _, none⟩) hk).trans e3, (World.cell?_of_block (a := ⟨g, _, none⟩) hk).trans e4⟩
def GRel (mk : Prop) (m n : Nat) (items : List MD) (W : World) (g : Nat) (i : Value) (wr : World) : Prop :=
 ∃ (k : Nat) (ds : List MD), k ≤ items.length ∧ i = .int .i64 k ∧ ds.length = k ∧ Below W.heap.size W wr ∧ g < wr.heap.size ∧ (∃ cur, wr.heap[g]? = some (.cells cur 32 (0, 0)) ∧ cur.size = m) ∧
  (∀ (i : Nat) (hi : i < ds.length), MD.CellsAt wr g (i * 11) ds[i] ∧ MD.In wr.heap.size wr n ds[i] ∧ MD.Above (g + 1) n ds[i] ∧ Good (g + 1) wr.heap.size wr n ds[i] ∧ (mk → Marks wr n ds[i])) ∧ all2 (MD.same n) (items.take k) ds = true
theorem GRel.next {mk : Prop} {m n : Nat} {items : List MD} {W : World} {g k : Nat} {ds : List MD} {wr w9 : World} {d : MD} (hk : k < items.length) (hm : items.length * 11 ≤ m) (hds : ds.length = k) (hB : Below W.heap.size W wr) (hWg : W.heap.size ≤ g) (hg : g < wr.heap.size)
  (hrow : ∃ cur, wr.heap[g]? = some (.cells cur 32 (0, 0)) ∧ cur.size = m) (hc : ∀ (i : Nat) (hi : i < ds.length), MD.CellsAt wr g (i * 11) ds[i] ∧ MD.In wr.heap.size wr n ds[i] ∧ MD.Above (g + 1) n ds[i] ∧ Good (g + 1) wr.heap.size wr n ds[i] ∧ (mk → Marks wr n ds[i])) (ha : all2 (MD.same n) (items.take k) ds = true)
  (h9 : Below wr.heap.size wr w9) (hd : MD.In w9.heap.size w9 n d) (hda : MD.Above wr.heap.size n d) (hs : MD.same n items[k] d = true) (hdg : Good wr.heap.size w9.heap.size w9 n d) (hdm : mk → Marks w9 n d) :
  GRel mk m n items W g (.int .i64 ((k : Int) + 1)) (w9.setCells g (k * 11) d.cells.toList) := by
 obtain ⟨cur, hcur, hcs⟩ := hrow
 have hcur9 : w9.heap[g]? = some (.cells cur 32 (0, 0)) := (h9.block g hg).trans hcur
 have hth9 : w9.there g 0 m := there_at hcur9 (Nat.le_of_eq hcs.symm)
 have hg9 : g < w9.heap.size := Nat.lt_of_lt_of_le hg h9.size
 have hoth : ∀ b, b ≠ g → b < w9.heap.size → (w9.setCells g (k * 11) d.cells.toList).heap[b]? = w9.heap[b]? := fun b hb hb2 => World.heap_setCells_other _ _ _ _ hb2 hb
 obtain ⟨c', hc', hs'⟩ := row_setCells d.cells.toList (k * 11) w9 cur hcur9
 refine ⟨k + 1, ds ++ [d], hk, by simp, by simp [hds], below_setCells hWg _ _ _ (hB.trans (h9.mono hB.size)), by rw [size_setCells']; exact hg9, ⟨c', hc', hs'.trans hcs⟩, fun i hi => ?_, ?_⟩
 ·rw [size_setCells']
  by_cases hik : i < k
  ·have hi' : i < ds.length := by omega
   rw [List.getElem_append_left hi']
   obtain ⟨q1, q2, q3, q4, q5⟩ := hc i hi'
   refine ⟨?_, MD.In.other hoth n _ (q2.later (Nat.le_refl _) h9) q3, q3, Good.mono (Nat.le_refl _) h9.size n _ (Good.same (fun b hb1 hb2 => (hoth b (by omega) (Nat.lt_of_lt_of_le hb2 h9.size)).trans (h9.block b hb2)) n _ q4), fun hmk => Marks.aloft (fun b hb1 hb2 => (hoth b (by omega) (Nat.lt_of_lt_of_le hb2 h9.size)).trans (h9.block b hb2)) n _ (q5 hmk) q3⟩
   rw [rangeAt_cells]
   refine World.rangeAt_setCells_apart (rangeAt_cells.1 (q1.below hg h9)) _ _ _ (.inr (.inl ?_))
   show i * 11 + 11 ≤ k * 11
   omega
  ·obtain rfl : i = ds.length := by simp at hi; omega
   rw [List.getElem_append_right (Nat.le_refl _)]
   simp only [Nat.sub_self, List.getElem_cons_zero]
   have hda' := MD.Above.mono (show g + 1 ≤ wr.heap.size from hg) n d hda
   refine ⟨?_, MD.In.other hoth n _ hd hda', hda', Good.mono hg (Nat.le_refl _) n _ (Good.same (fun b hb1 hb2 => hoth b (by omega) hb2) n _ hdg), fun hmk => Marks.aloft (fun b hb1 hb2 => hoth b (by omega) hb2) n _ (hdm hmk) hda'⟩
   rw [rangeAt_cells, hds]
   refine World.rangeAt_setCells_same _ _ _ _ (there_part hth9 ?_)
   show k * 11 + 11 ≤ _
   omega
 ·rw [all2_snoc' _ _ _ _ hk hds, ha, hs]; rfl
def CopyG (n : Nat) (d : MD) (w : World) (r : Ending) (w' : World) : Prop := ∃ d' : MD, r = .returned d'.val ∧ MD.In w'.heap.size w' n d' ∧ MD.Above w.heap.size n d' ∧ MD.same n d d' = true ∧ Below w.heap.size w w' ∧ Good w.heap.size w'.heap.size w' n d'
end Go.Proofs.YtdbijkgnddcneaaGreatDoor
namespace Go.Proofs.YtdbijkgnddcneaaGreatDoor
open Go.RowKit
set_option maxRecDepth 100000
set_option maxHeartbeats 8000000
attribute [local go_sem] refold2 cell3_0 cell3_1 b28_0 b28_01
theorem copy_doneG {n : Nat} {w F : World} {k : Int} {t : ByteArray} {a f : Int} {s : ByteArray} {r0 r1 r2 r3 : Int} {pp : Option Addr} {path : List Int} {pc : Nat} {ip : Option Addr} {ic : Nat} {items : List MD} (pp2 : Option Addr) (pc2 : Nat) (ip2 : Option Addr) (ic2 : Nat) (items2 : List MD)
  (hB : Below w.heap.size w F) (hF : MD.Fine ⟨k, t, a, f, s, r0, r1, r2, r3, pp, path, pc⟩) (hb : ∀ x ∈ path, -9223372036854775808 ≤ x ∧ x ≤ 9223372036854775807) (hp1 : path.length ≤ pc2) (hp2 : pc2 ≤ maxLen)
  (hP : (path = [] ∨ ∃ b o, pp2 = some ⟨b, o, none⟩ ∧ b < F.heap.size ∧ ∀ (i : Nat) (hi : i < path.length), F.cell? ⟨b, o + i, none⟩ = some (.int .i64 path[i])) ∧ ∀ b o, pp2 = some ⟨b, o, none⟩ → w.heap.size ≤ b)
  (hil : items2.length = items.length) (hi1 : items.length ≤ ic2) (hi2 : ic2 ≤ maxLen)
  (hI : items2 = [] ∨ ∃ b o, ip2 = some ⟨b, o, none⟩ ∧ b < F.heap.size ∧ ∀ (i : Nat) (hi : i < items2.length), MD.CellsAt F b (o + i * 11) items2[i] ∧ MD.In F.heap.size F n items2[i])
  (hA : (∀ b o, ip2 = some ⟨b, o, none⟩ → w.heap.size ≤ b) ∧ ∀ x ∈ items2, MD.Above w.heap.size n x) (hs : all2 (MD.same n) items items2 = true)
  (hPG : path.length = 0 ∨ ∃ g cur, pp2 = some ⟨g, 0, none⟩ ∧ w.heap.size ≤ g ∧ g < F.heap.size ∧ F.heap[g]? = some (.cells cur 3 (0, 0)) ∧ path.length ≤ cur.size)
  (hIG : items2.length = 0 ∨ ∃ g cur, ip2 = some ⟨g, 0, none⟩ ∧ w.heap.size ≤ g ∧ g < F.heap.size ∧ F.heap[g]? = some (.cells cur 32 (0, 0)) ∧ items2.length * 11 ≤ cur.size ∧ ∀ i, i < items2.length → ∃ x, MD.CellsAt F g (i * 11) x ∧ Good w.heap.size F.heap.size F n x) :
  CopyG (n + 1) ⟨⟨k, t, a, f, s, r0, r1, r2, r3, pp, path, pc⟩, ip, ic, items⟩ w (.returned (.agg #[.int .i64 k, .string t, .int .i64 a, .int .u64 f, .string s, .int .i64 r0, .int .i64 r1, .int .i64 r2, .int .i64 r3, .slice pp2 path.length pc2, .slice ip2 items.length ic2])) F := by
 refine ⟨⟨⟨k, t, a, f, s, r0, r1, r2, r3, pp2, path, pc2⟩, ip2, ic2, items2⟩, ?_, ⟨⟨hF.k0, hF.k1, hF.n0, hF.n1, hF.f0, hF.f1, hF.o0, hF.o1, hF.a0, hF.a1, hF.b0, hF.b1, hF.c0, hF.c1, hF.t0, hF.s0, hp1, hp2⟩, ⟨hb, hP.1⟩, by rw [hil]; exact hi1, hi2, hI⟩, ⟨hP.2, hA.1, hA.2⟩, ?_, hB, ⟨⟨hp1, hp2⟩, ⟨by rw [hil]; exact hi1, hi2⟩, hPG, hIG⟩⟩
 ·simp only [MD.val, D]; rw [hil]
 ·show (sameH _ _ _ _ && _ && _) = true
  have e1 : sameH ⟨k, t, a, f, s, r0, r1, r2, r3, pp, path, pc⟩ ⟨k, t, a, f, s, r0, r1, r2, r3, pp2, path, pc2⟩ items.length items2.length = true := decide_eq_true ⟨rfl, rfl, rfl, rfl, rfl, rfl, rfl, rfl, rfl, rfl, hil.symm⟩
  rw [e1, hs, decide_eq_true (show path = path from rfl)]; rfl
theorem path_good {w w3 F : World} {path : List Int} {pp2 : Option Addr} (h : path.length = 0 ∨ ∃ g cur, pp2 = some ⟨g, 0, none⟩ ∧ w.heap.size + 2 ≤ g ∧ g < w3.heap.size ∧ w3.heap[g]? = some (.cells cur 3 (0, 0)) ∧ path.length ≤ cur.size)
  (hF : ∀ b, w.heap.size + 2 ≤ b → b < w3.heap.size → F.heap[b]? = w3.heap[b]?) (hz : w3.heap.size ≤ F.heap.size) :
  path.length = 0 ∨ ∃ g cur, pp2 = some ⟨g, 0, none⟩ ∧ w.heap.size ≤ g ∧ g < F.heap.size ∧ F.heap[g]? = some (.cells cur 3 (0, 0)) ∧ path.length ≤ cur.size := by
 rcases h with e | ⟨g, cur, e1, e2, e3, e4, e5⟩
 ·exact .inl e
 ·exact .inr ⟨g, cur, e1, by omega, by omega, (hF g e2 e3).trans e4, e5⟩
theorem rows_good {n lo g m : Nat} {ds : List MD} {wr F : World} (hc : ∀ (i : Nat) (hi : i < ds.length), MD.CellsAt wr g (i * 11) ds[i] ∧ Good (g + 1) wr.heap.size wr n ds[i]) (hrow : ∃ c, wr.heap[g]? = some (.cells c 32 (0, 0)) ∧ c.size = m) (hm : ds.length * 11 ≤ m) (hlo : lo ≤ g) (hg : g < wr.heap.size)
  (hF : ∀ b, g ≤ b → b < wr.heap.size → F.heap[b]? = wr.heap[b]?) (hz : wr.heap.size ≤ F.heap.size) :
  ds.length = 0 ∨ ∃ g' cur, some (⟨g, 0, none⟩ : Addr) = some ⟨g', 0, none⟩ ∧ lo ≤ g' ∧ g' < F.heap.size ∧ F.heap[g']? = some (.cells cur 32 (0, 0)) ∧ ds.length * 11 ≤ cur.size ∧ ∀ i, i < ds.length → ∃ x, MD.CellsAt F g' (i * 11) x ∧ Good lo F.heap.size F n x := by
 obtain ⟨c, h1, h2⟩ := hrow
 refine .inr ⟨g, c, rfl, hlo, by omega, (hF g (Nat.le_refl _) hg).trans h1, by omega, fun i hi => ⟨ds[i], (hc i hi).1.other (hF g (Nat.le_refl _) hg), ?_⟩⟩
 exact Good.mono (by omega) hz n _ (Good.same (fun b b1 b2 => hF b (by omega) b2) n _ (hc i hi).2)
def VRelG (n m : Nat) (items : List MD) (W : World) (g : Nat) (i : Value) (wr : World) : Prop :=
 ∃ k : Nat, i = .int .i64 k ∧ GRel False m n items W g (.int .i64 k) wr ∧ ∀ (j : Nat) (hj : j < items.length), k ≤ j → MD.CellsAt wr g (j * 11) items[j]
def GCopyC (n : Nat) : Prop := ∀ (d : MD) (w : World), MD.In w.heap.size w n d → MD.full n d = true → Calls Tryz.prog 84 #[d.val] w (CopyG n d w)
theorem copiedG_e (n : Nat) (k : Int) (t : ByteArray) (a f : Int) (s : ByteArray) (r0 r1 r2 r3 : Int) (pp : Option Addr) (path : List Int) (pc : Nat) (ip : Option Addr) (ic : Nat) (items : List MD) (w : World) (HE0 : Hid (items = []))
  (hin : MD.In w.heap.size w (n + 1) ⟨⟨k, t, a, f, s, r0, r1, r2, r3, pp, path, pc⟩, ip, ic, items⟩) (hf : MD.full (n + 1) ⟨⟨k, t, a, f, s, r0, r1, r2, r3, pp, path, pc⟩, ip, ic, items⟩ = true) :
  Calls Tryz.prog 84 #[.agg #[.int .i64 k, .string t, .int .i64 a, .int .u64 f, .string s, .int .i64 r0, .int .i64 r1, .int .i64 r2, .int .i64 r3, .slice pp path.length pc, .slice ip items.length ic]] w (CopyG (n + 1) ⟨⟨k, t, a, f, s, r0, r1, r2, r3, pp, path, pc⟩, ip, ic, items⟩ w) := by
 have hF := hin.fine
 have hP := hin.path
 have hits := hin.items
 have hlen := hin.len
 have fx2 : (headOK ⟨k, t, a, f, s, r0, r1, r2, r3, pp, path, pc⟩ items.length && (k != 8 || (decide (items.length ≤ 30) && items.all (MD.full n)))) = true := hf
 rw [Bool.and_eq_true] at fx2
 obtain ⟨hp100, _⟩ := head_path fx2.1
 have hty : tyB k t = true := by
  have := fx2.1
  unfold headOK at this
  rw [Bool.and_eq_true, Bool.and_eq_true] at this
  exact this.1.1
 have ht40 := ty_small hty
 obtain ⟨hs65, hi30⟩ := full_small hf
 have HFi : Hid (∀ q ∈ items, MD.full n q = true) := full_items hf
 simp only at hp100 hs65 hi30
 have ht : t.size ≤ 140737488351232 := by omega
 have hs : s.size ≤ 140737488351232 := by omega
 have HPn : Hid (pp = none → path.length = 0) := fun e => by
  rcases hP.2 with e1 | ⟨b, o, e1, _⟩
  ·have e1' : path = [] := e1
   rw [e1']; rfl
  ·exact absurd (e.symm.trans e1) (by simp)
 have HIn : Hid (ip = none → items.length = 0) := fun e => by
  rcases hits with e1 | ⟨b, o, e1, _⟩
  ·have e1' : items = [] := e1
   rw [e1']; rfl
  ·exact absurd (e.symm.trans e1) (by simp)
 have HPC : Hid (∀ W : World, (∀ b, b < w.heap.size → W.heap[b]? = w.heap[b]?) → ∀ ad, pp = some ad → ∀ (j : Nat) (u : Value), (path.map (Value.int .i64))[j]? = some u → W.cell? (ad.add j) = some u) := fun W hW ad e => path_cells (by rw [← e]; exact hP.2) W hW
 have HIC : Hid (∀ W : World, (∀ b, b < w.heap.size → W.heap[b]? = w.heap[b]?) → ∀ ad, ip = some ad → ∀ (j : Nat) (u : Value), (rowOf items)[j]? = some u → W.cell? (ad.add j) = some u) := fun W hW ad e => rowOf_cells (by
  rcases hits with e1 | ⟨b, o, e1, e2, e3⟩
  ·exact .inl e1
  ·exact .inr ⟨b, o, e ▸ e1, fun i hi => (e3 i hi).1.other (hW b e2)⟩)
 have HIt : Hid (MD.ItemsIn w.heap.size w n ⟨⟨k, t, a, f, s, r0, r1, r2, r3, pp, path, pc⟩, ip, ic, items⟩) := hits
 have HA : Hid (MD.Fine ⟨k, t, a, f, s, r0, r1, r2, r3, pp, path, pc⟩ ∧ (∀ x ∈ path, -9223372036854775808 ≤ x ∧ x ≤ 9223372036854775807)) := ⟨hF, hP.1⟩
 obtain ⟨i3, hi3, hz30, hz31, hz32⟩ := info_parts info3z
 obtain ⟨i28, hi28, hz280, hz281, hz282⟩ := info_parts info28z
 clear fx2 hty hin hf hF hP hits hlen
 obtain ⟨W2, hW2⟩ : ∃ W2, W2 = (w.alloc (.cells #[.int .i64 k, .string t, .int .i64 a, .int .u64 f, .string s, .int .i64 r0, .int .i64 r1, .int .i64 r2, .int .i64 r3, .slice pp path.length pc, .slice ip items.length ic] 32)).alloc (.cells #[.int .i64 0, .string ⟨#[]⟩, .int .i64 0, .int .u64 0, .string ⟨#[]⟩, .int .i64 0, .int .i64 0, .int .i64 0, .int .i64 0, .slice none 0 0, .slice none 0 0] 32) := ⟨_, rfl⟩
 have hB2 : Below w.heap.size w W2 := by rw [hW2]; exact below2 _ _ _
 have hz2 : W2.heap.size = w.heap.size + 2 := by rw [hW2]; simp
 have hrow0 : Hid (W2.heap[w.heap.size]? = some (.cells #[.int .i64 k, .string t, .int .i64 a, .int .u64 f, .string s, .int .i64 r0, .int .i64 r1, .int .i64 r2, .int .i64 r3, .slice pp path.length pc, .slice ip items.length ic] 32 (0, 0))) := by rw [hW2, Below.heap_alloc _ _ _ (by simp)]; exact heap_alloc_new _ _
 have hrow1 : Hid (W2.heap[w.heap.size + 1]? = some (.cells zeros 32 (0, 0))) := by rw [hW2]; exact heap2_1 _ _ _
 have HK : Hid (∀ W, Below W2.heap.size W2 W → (∀ j, W.cell? ⟨w.heap.size, j, none⟩ = (#[.int .i64 k, .string t, .int .i64 a, .int .u64 f, .string s, .int .i64 r0, .int .i64 r1, .int .i64 r2, .int .i64 r3, .slice pp path.length pc, .slice ip items.length ic] : Array Value)[j]?)) := fun W hW j => row_at ((hW.block w.heap.size (by omega)).trans hrow0.out) j
 have HC : Hid (∀ (u : ByteArray) (W : World), u.size ≤ 140737488351232 → Calls Tryz.prog 66 #[.string u] W fun r w' => r = .returned (.string u) ∧ Below W.heap.size W w') := fun u W h => clone_any u W h
 go_enter Tryz.func84, Tryz.ntmps84
 go_wp2_with fail
 rw [← hW2]
 clear hW2
 refine wp_region_noPanic ?_
 refine wp_region_held (S := fun W => ∀ j, W.cell? ⟨w.heap.size, j, none⟩ = (#[.int .i64 k, .string t, .int .i64 a, .int .u64 f, .string s, .int .i64 r0, .int .i64 r1, .int .i64 r2, .int .i64 r3, .slice pp path.length pc, .slice ip items.length ic] : Array Value)[j]?) (by kernel_rfl) ?_
 obtain ⟨W4, hW4⟩ : ∃ W4, W4 = W2.drew := ⟨_, rfl⟩
 have e4 : ({ W2 with drawn := W2.drawn + 1 } : World) = W4 := hW4.symm
 rw [e4]
 have hB4 : Below W2.heap.size W2 W4 := by rw [hW4]; exact (Below.refl _ _).drew
 have hS := HK.out W4 hB4
 clear e4 hW4
 refine tq 0 (.pointer (some ⟨w.heap.size, 1, none⟩)) rfl hS ?_
 simp only [sa, sb, Act.put, sd, se, sf]
 refine tk 1 (.string t) rfl (.inl ⟨by rfl, ?r⟩) hS ?_
 case r => intro W hW; simp [go_sem, execOp, Act.eval, hW]
 simp only [sa, sb, sc, Act.put, sd, se, sf]
 refine tq 3 (.pointer (some ⟨w.heap.size, 4, none⟩)) rfl hS ?_
 simp only [sa, sb, sc, Act.put, sd, se, sf]
 refine tk 4 (.string s) rfl (.inl ⟨by rfl, ?r⟩) hS ?_
 case r => intro W hW; simp [go_sem, execOp, Act.eval, hW]
 simp only [sa, sb, sc, Act.put, sd, se, sf]
 refine one 2 rfl (fun K hK => ?_)
 simp only [sa, sb, sc]
 go_simp
 refine (HC.out _ _ ht).mono ?_
 rintro e w5 ⟨rfl, b5⟩
 have hb5 : Below W2.heap.size W2 w5 := hB4.trans (b5.mono hB4.size)
 go_simp
 refine hK _ _ ⟨HK.out _ hb5, ?_⟩
 clear hK K hS
 have hS := HK.out _ hb5
 refine tq 6 (.pointer (some ⟨w.heap.size, 1, none⟩)) rfl hS ?_
 simp only [sa, sb, sc, Act.put, sd, se, sf]
 refine one 5 rfl (fun K hK => ?_)
 simp only [sa, sb, sc]
 go_simp
 refine (HC.out _ _ hs).mono ?_
 rintro e w6 ⟨rfl, b6⟩
 have hb6 : Below W2.heap.size W2 w6 := hb5.trans (b6.mono hb5.size)
 go_simp
 refine hK _ _ ⟨HK.out _ hb6, ?_⟩
 clear hK K hS
 have hS := HK.out _ hb6
 have hfr : ∀ j, w6.frozen? ⟨w.heap.size, j, none⟩ = false := fun j => fz _ _ _ _ j ((hb6.block w.heap.size (by omega)).trans hrow0.out)
 refine one 7 rfl (fun K hK => ?_)
 simp only [sa, sb, sc]
 have c1 : w6.cell? ⟨w.heap.size, 1, none⟩ = some (.string t) := hS 1
 go_simp
 have hS7 := set_same (o := 1) (v := .string t) hS rfl
 refine hK _ _ ⟨hS7, ?_⟩
 clear hK K hS
 have hS := hS7
 refine tq 8 (.pointer (some ⟨w.heap.size, 4, none⟩)) rfl hS ?_
 simp only [sa, sb, sc, Act.put, sd, se, sf]
 refine one 9 rfl (fun K hK => ?_)
 simp only [sa, sb, sc]
 have c4 : w6.cell? ⟨w.heap.size, 4, none⟩ = some (.string s) := HK.out _ hb6 4
 go_simp
 have hS9 := set_same (o := 4) (v := .string s) hS7 rfl
 refine hK _ _ ⟨hS9, ?_⟩
 clear hK K hS
 refine dn ?_
 try simp only [Act.put]
 obtain ⟨W9, hW9⟩ : ∃ W9, W9 = ((w6.setCell ⟨w.heap.size, 1, none⟩ (.string t)).setCell ⟨w.heap.size, 4, none⟩ (.string s)) := ⟨_, rfl⟩
 have hB9 : Below w.heap.size w W9 := by rw [hW9]; exact ((hB2.trans (hb6.mono (by omega))).setCell (p := ⟨w.heap.size, 1, none⟩) (Nat.le_refl _) _).setCell (p := ⟨w.heap.size, 4, none⟩) (Nat.le_refl _) _
 have hf9 : ∀ j, W9.frozen? ⟨w.heap.size, j, none⟩ = false := fun j => by rw [hW9]; simp [go_sem, hfr]
 have hr9 : W9.heap[w.heap.size + 1]? = some (.cells zeros 32 (0, 0)) := by
  rw [hW9, Below.heap_setCell _ _ _ _ (by simp), Below.heap_setCell _ _ _ _ (by simp)]; exact (hb6.block (w.heap.size + 1) (by omega)).trans hrow1.out
 have hz9 : w.heap.size + 1 < W9.heap.size := row_ltT hr9
 have hbx9 : W9.heap[w.heap.size]? = some (.cells #[.int .i64 k, .string t, .int .i64 a, .int .u64 f, .string s, .int .i64 r0, .int .i64 r1, .int .i64 r2, .int .i64 r3, .slice pp path.length pc, .slice ip items.length ic] 32 (0, 0)) := by
  rw [hW9]; exact row_set (row_set ((hb6.block w.heap.size (by omega)).trans hrow0.out) 1 _) 4 _
 rw [← hW9] at hS9 ⊢
 obtain ⟨⟨d0, d1, d2, d3, d4, d5, d6, d7, d8, d9, d10⟩, hf2⟩ := box_keptD hr9
 clear hW9 hfr c1 c4 hS7 HK HC hrow0 hrow1
 have HR9 : Hid _ := hr9
 have hw9 : ∀ b, b < w.heap.size → W9.heap[b]? = w.heap[b]? := fun b hb => hB9.block b hb
 have HX9 : Hid (W9.heap[w.heap.size]? = some (.cells #[.int .i64 k, .string t, .int .i64 a, .int .u64 f, .string s, .int .i64 r0, .int .i64 r1, .int .i64 r2, .int .i64 r3, .slice pp path.length pc, .slice ip items.length ic] 32 (0, 0))) := hbx9
 have HB9 : Hid _ := hB9
 clear hr9 hbx9 hB9 d0 d1 d2 d3 d4 d5 d6 d7 d8 d9 d10 hf2
 go_wp2_with (first
  | (at_builtin; refine wpList_append_new rfl _ _ 22 rfl 3 i3 (.int .i64 0) 1 8 Tryz.underlying22 hi3 hz30 hz31 hz32 rfl (by decide) rfl pp path.length pc (path.map (Value.int .i64)) rfl (by simp) HPn.out (HPC.out W9 hw9) (numsOf path) (by unfold maxLen; omega) (by omega) ?_; intro pp2 pc2 w3 hN3; obtain ⟨w3s, hw3s⟩ : ∃ w3s, w3s = w3.setCell ⟨w.heap.size, 9, none⟩ (.slice pp2 path.length pc2) := ⟨_, rfl⟩; have HN3 : Hid (NewRow W9 w3 3 1 path.length (path.map (Value.int .i64)) pp2 pc2) := hN3; have hX3 := (hN3.2.2.1.block w.heap.size (by omega)).trans HX9.out; have hc3 := row_at hX3; have hf3 := fun j => fz _ _ _ _ j hX3; have HX3 : Hid _ := hX3; have hBz3 := hN3.2.2.1.size; have HW3 : Hid (w3s = w3.setCell ⟨w.heap.size, 9, none⟩ (.slice pp2 path.length pc2)) := hw3s; have hw3b : ∀ b, b < w.heap.size → w3s.heap[b]? = w.heap[b]? := (fun b hb => by rw [hw3s]; exact (heap_setCell_other _ _ _ _ _ (by omega)).trans ((hN3.2.2.1.block b (by omega)).trans (hw9 b hb))); clear hN3 hX3)
  | (at_builtin; rw [← hw3s]; refine wpList_append_new rfl _ _ 27 rfl 32 i28 (.agg zeros) 11 136 Tryz.underlying27 hi28 hz280 hz281 hz282 rfl (by decide) rfl ip items.length ic (rowOf items) rfl (rowOf_length items) HIn.out (HIC.out w3s hw3b) (rowOf_one items) (by unfold maxLen; omega) (by omega) ?_; intro ip2 ic2 w4 hN4; have HN4 : Hid (NewRow w3s w4 32 11 items.length (rowOf items) ip2 ic2) := hN4; clear hN4))
 have hz3s : w3s.heap.size = w3.heap.size := by rw [HW3.out]; simp
 have hX3s : w3s.heap[w.heap.size]? = some (.cells #[.int .i64 k, .string t, .int .i64 a, .int .u64 f, .string s, .int .i64 r0, .int .i64 r1, .int .i64 r2, .int .i64 r3, .slice pp2 path.length pc2, .slice ip items.length ic] 32 (0, 0)) := by
  rw [HW3.out]; exact row_set HX3.out 9 _
 have hR3s : w3s.heap[w.heap.size + 1]? = some (.cells zeros 32 (0, 0)) := by
  rw [HW3.out, heap_setCell_other _ _ _ _ _ (by omega)]; exact (HN3.out.2.2.1.block _ hz9).trans HR9.out
 have HPr : Hid (path = [] ∨ ∃ g, pp2 = some ⟨g, 0, none⟩ ∧ g < w3s.heap.size ∧ W9.heap.size ≤ g ∧ ∀ (i : Nat) (hi : i < path.length), w3s.cell? ⟨g, 0 + i, none⟩ = some (.int .i64 path[i])) := by
  rcases path_row HN3.out with e | ⟨g, e1, e2, e3, e4⟩
  ·exact .inl e
  ·refine .inr ⟨g, e1, by omega, e3, fun i hi => ?_⟩
   refine (World.cell?_of_block (a := ⟨g, 0 + i, none⟩) ?_).trans (e4 i hi)
   rw [HW3.out]; exact heap_setCell_other _ _ _ _ _ (show g ≠ w.heap.size by omega)
 have hwz : w.heap.size + 2 ≤ W9.heap.size := by omega
 have HPg : Hid (path.length = 0 ∨ ∃ g cur, pp2 = some ⟨g, 0, none⟩ ∧ w.heap.size + 2 ≤ g ∧ g < w3s.heap.size ∧ w3s.heap[g]? = some (.cells cur 3 (0, 0)) ∧ path.length ≤ cur.size) := by
  rcases HN3.out.2.2.2.2 with ⟨e, _⟩ | ⟨g, cur, _, e1, e2, e3, e4, e5, _⟩
  ·exact .inl e
  ·exact .inr ⟨g, cur, e1, by omega, by omega, by rw [HW3.out]; exact (heap_setCell_other _ _ _ _ _ (show g ≠ w.heap.size by omega)).trans e4, by omega⟩
 have HPa : Hid (path.length ≤ pc2 ∧ pc2 ≤ maxLen ∧ ∀ b o, pp2 = some ⟨b, o, none⟩ → w.heap.size ≤ b) := ⟨HN3.out.1, HN3.out.2.1, fun b o e => by have := HN3.out.2.2.2.1 b o e; omega⟩
 have HB3 : Hid (Below w.heap.size w w3s) := by rw [HW3.out]; exact (HB9.out.trans (HN3.out.2.2.1.mono HB9.out.size)).setCell (p := ⟨w.heap.size, 9, none⟩) (Nat.le_refl _) _
 have HXR : Hid (∀ W, Below w3s.heap.size w3s W → W.heap[w.heap.size]? = some (.cells #[.int .i64 k, .string t, .int .i64 a, .int .u64 f, .string s, .int .i64 r0, .int .i64 r1, .int .i64 r2, .int .i64 r3, .slice pp2 path.length pc2, .slice ip items.length ic] 32 (0, 0)) ∧ W.heap[w.heap.size + 1]? = some (.cells zeros 32 (0, 0))) := fun W hW => ⟨(hW.block _ (by omega)).trans hX3s, (hW.block _ (by omega)).trans hR3s⟩
 clear HX3 HN3 HW3 hw3s hX3s hR3s hw3b HX9 HR9 hw9 HPC HIC HPn HIn hc3 hf3 HB9
 obtain rfl := HE0.out
 clear HE0
 obtain ⟨_, _, hb4, _, h4⟩ := HN4.out
 obtain ⟨rfl, rfl⟩ : ip2 = none ∧ ic2 = 0 := by
  rcases h4 with ⟨_, e1, e2⟩ | ⟨g, cur, e, _⟩
  ·exact ⟨e1, e2⟩
  ·simp at e
 obtain ⟨hX4, hR4⟩ := HXR.out w4 hb4
 have hc4 := row_at hX4
 have hf4 := fun j => fz _ _ _ _ j hX4
 have hr4 : ∀ j, w4.cell? ⟨w.heap.size + 1, j, none⟩ = (#[.int .i64 0, .string ⟨#[]⟩, .int .i64 0, .int .u64 0, .string ⟨#[]⟩, .int .i64 0, .int .i64 0, .int .i64 0, .int .i64 0, .slice none 0 0, .slice none 0 0] : Array Value)[j]? := row_at hR4
 have hg4 := fun j => fz _ _ _ _ j hR4
 have HB4 : Hid (Below w3s.heap.size w3s w4) := hb4
 clear h4 hb4 hX4 hR4 HN4
 go_wp2_with fail
 go_rounds 1
 refine bodyPost_ret (v := .agg #[.int .i64 k, .string t, .int .i64 a, .int .u64 f, .string s, .int .i64 r0, .int .i64 r1, .int .i64 r2, .int .i64 r3, .slice pp2 path.length pc2, .slice none 0 0]) (by simp [results, Tryz.results84, go_sem, hr4]) rfl ?_
 obtain ⟨q1, q2⟩ := HA.out
 obtain ⟨p1, p2, p3⟩ := HPa.out
 have hBF : Below w.heap.size w w4 := HB3.out.trans (HB4.out.mono HB3.out.size)
 have hz4 := HB4.out.size
 refine copy_doneG (ip := ip) (ic := ic) (items := []) pp2 pc2 none 0 [] (bset (hBF.setCell (p := ⟨w.heap.size, 10, none⟩) (Nat.le_refl _) _) (by omega) _ _ _ _ _ _ _ _ _ _ _) q1 q2 p1 p2 ⟨path_kept2 HPr.out hwz (fun b h1 h2 => (eleven_after w4 w.heap.size b (by omega) (by omega) 10 _ _ _ _ _ _ _ _ _ _ _ _).trans (HB4.out.block b h2)) (by simp; omega), p3⟩ rfl (Nat.le_refl _) (Nat.zero_le _) (.inl rfl) ⟨fun _ _ e => (by cases e), fun x hx => (by cases hx)⟩ rfl (path_good HPg.out (fun b h1 h2 => (eleven_after w4 w.heap.size b (by omega) (by omega) 10 _ _ _ _ _ _ _ _ _ _ _ _).trans (HB4.out.block b h2)) (by simp; omega)) (.inl rfl)
theorem copiedG_i (n : Nat) (k : Int) (t : ByteArray) (a f : Int) (s : ByteArray) (r0 r1 r2 r3 : Int) (pp : Option Addr) (path : List Int) (pc : Nat) (ip : Option Addr) (ic : Nat) (items : List MD) (w : World) (hI : GCopyC n) (hne : 0 < items.length)
  (hin : MD.In w.heap.size w (n + 1) ⟨⟨k, t, a, f, s, r0, r1, r2, r3, pp, path, pc⟩, ip, ic, items⟩) (hf : MD.full (n + 1) ⟨⟨k, t, a, f, s, r0, r1, r2, r3, pp, path, pc⟩, ip, ic, items⟩ = true) :
  Calls Tryz.prog 84 #[.agg #[.int .i64 k, .string t, .int .i64 a, .int .u64 f, .string s, .int .i64 r0, .int .i64 r1, .int .i64 r2, .int .i64 r3, .slice pp path.length pc, .slice ip items.length ic]] w (CopyG (n + 1) ⟨⟨k, t, a, f, s, r0, r1, r2, r3, pp, path, pc⟩, ip, ic, items⟩ w) := by
 have hF := hin.fine
 have hP := hin.path
 have hits := hin.items
 have hlen := hin.len
 have fx2 : (headOK ⟨k, t, a, f, s, r0, r1, r2, r3, pp, path, pc⟩ items.length && (k != 8 || (decide (items.length ≤ 30) && items.all (MD.full n)))) = true := hf
 rw [Bool.and_eq_true] at fx2
 obtain ⟨hp100, _⟩ := head_path fx2.1
 have hty : tyB k t = true := by
  have := fx2.1
  unfold headOK at this
  rw [Bool.and_eq_true, Bool.and_eq_true] at this
  exact this.1.1
 have ht40 := ty_small hty
 obtain ⟨hs65, hi30⟩ := full_small hf
 have HFi : Hid (∀ q ∈ items, MD.full n q = true) := full_items hf
 simp only at hp100 hs65 hi30
 have ht : t.size ≤ 140737488351232 := by omega
 have hs : s.size ≤ 140737488351232 := by omega
 have HPn : Hid (pp = none → path.length = 0) := fun e => by
  rcases hP.2 with e1 | ⟨b, o, e1, _⟩
  ·have e1' : path = [] := e1
   rw [e1']; rfl
  ·exact absurd (e.symm.trans e1) (by simp)
 have HIn : Hid (ip = none → items.length = 0) := fun e => by
  rcases hits with e1 | ⟨b, o, e1, _⟩
  ·have e1' : items = [] := e1
   rw [e1']; rfl
  ·exact absurd (e.symm.trans e1) (by simp)
 have HPC : Hid (∀ W : World, (∀ b, b < w.heap.size → W.heap[b]? = w.heap[b]?) → ∀ ad, pp = some ad → ∀ (j : Nat) (u : Value), (path.map (Value.int .i64))[j]? = some u → W.cell? (ad.add j) = some u) := fun W hW ad e => path_cells (by rw [← e]; exact hP.2) W hW
 have HIC : Hid (∀ W : World, (∀ b, b < w.heap.size → W.heap[b]? = w.heap[b]?) → ∀ ad, ip = some ad → ∀ (j : Nat) (u : Value), (rowOf items)[j]? = some u → W.cell? (ad.add j) = some u) := fun W hW ad e => rowOf_cells (by
  rcases hits with e1 | ⟨b, o, e1, e2, e3⟩
  ·exact .inl e1
  ·exact .inr ⟨b, o, e ▸ e1, fun i hi => (e3 i hi).1.other (hW b e2)⟩)
 have HIt : Hid (MD.ItemsIn w.heap.size w n ⟨⟨k, t, a, f, s, r0, r1, r2, r3, pp, path, pc⟩, ip, ic, items⟩) := hits
 have HA : Hid (MD.Fine ⟨k, t, a, f, s, r0, r1, r2, r3, pp, path, pc⟩ ∧ (∀ x ∈ path, -9223372036854775808 ≤ x ∧ x ≤ 9223372036854775807)) := ⟨hF, hP.1⟩
 obtain ⟨i3, hi3, hz30, hz31, hz32⟩ := info_parts info3z
 obtain ⟨i28, hi28, hz280, hz281, hz282⟩ := info_parts info28z
 clear fx2 hty hin hf hF hP hits hlen
 obtain ⟨W2, hW2⟩ : ∃ W2, W2 = (w.alloc (.cells #[.int .i64 k, .string t, .int .i64 a, .int .u64 f, .string s, .int .i64 r0, .int .i64 r1, .int .i64 r2, .int .i64 r3, .slice pp path.length pc, .slice ip items.length ic] 32)).alloc (.cells #[.int .i64 0, .string ⟨#[]⟩, .int .i64 0, .int .u64 0, .string ⟨#[]⟩, .int .i64 0, .int .i64 0, .int .i64 0, .int .i64 0, .slice none 0 0, .slice none 0 0] 32) := ⟨_, rfl⟩
 have hB2 : Below w.heap.size w W2 := by rw [hW2]; exact below2 _ _ _
 have hz2 : W2.heap.size = w.heap.size + 2 := by rw [hW2]; simp
 have hrow0 : Hid (W2.heap[w.heap.size]? = some (.cells #[.int .i64 k, .string t, .int .i64 a, .int .u64 f, .string s, .int .i64 r0, .int .i64 r1, .int .i64 r2, .int .i64 r3, .slice pp path.length pc, .slice ip items.length ic] 32 (0, 0))) := by rw [hW2, Below.heap_alloc _ _ _ (by simp)]; exact heap_alloc_new _ _
 have hrow1 : Hid (W2.heap[w.heap.size + 1]? = some (.cells zeros 32 (0, 0))) := by rw [hW2]; exact heap2_1 _ _ _
 have HK : Hid (∀ W, Below W2.heap.size W2 W → (∀ j, W.cell? ⟨w.heap.size, j, none⟩ = (#[.int .i64 k, .string t, .int .i64 a, .int .u64 f, .string s, .int .i64 r0, .int .i64 r1, .int .i64 r2, .int .i64 r3, .slice pp path.length pc, .slice ip items.length ic] : Array Value)[j]?)) := fun W hW j => row_at ((hW.block w.heap.size (by omega)).trans hrow0.out) j
 have HC : Hid (∀ (u : ByteArray) (W : World), u.size ≤ 140737488351232 → Calls Tryz.prog 66 #[.string u] W fun r w' => r = .returned (.string u) ∧ Below W.heap.size W w') := fun u W h => clone_any u W h
 go_enter Tryz.func84, Tryz.ntmps84
 go_wp2_with fail
 rw [← hW2]
 clear hW2
 refine wp_region_noPanic ?_
 refine wp_region_held (S := fun W => ∀ j, W.cell? ⟨w.heap.size, j, none⟩ = (#[.int .i64 k, .string t, .int .i64 a, .int .u64 f, .string s, .int .i64 r0, .int .i64 r1, .int .i64 r2, .int .i64 r3, .slice pp path.length pc, .slice ip items.length ic] : Array Value)[j]?) (by kernel_rfl) ?_
 obtain ⟨W4, hW4⟩ : ∃ W4, W4 = W2.drew := ⟨_, rfl⟩
 have e4 : ({ W2 with drawn := W2.drawn + 1 } : World) = W4 := hW4.symm
 rw [e4]
 have hB4 : Below W2.heap.size W2 W4 := by rw [hW4]; exact (Below.refl _ _).drew
 have hS := HK.out W4 hB4
 clear e4 hW4
 refine tq 0 (.pointer (some ⟨w.heap.size, 1, none⟩)) rfl hS ?_
 simp only [sa, sb, Act.put, sd, se, sf]
 refine tk 1 (.string t) rfl (.inl ⟨by rfl, ?r⟩) hS ?_
 case r => intro W hW; simp [go_sem, execOp, Act.eval, hW]
 simp only [sa, sb, sc, Act.put, sd, se, sf]
 refine tq 3 (.pointer (some ⟨w.heap.size, 4, none⟩)) rfl hS ?_
 simp only [sa, sb, sc, Act.put, sd, se, sf]
 refine tk 4 (.string s) rfl (.inl ⟨by rfl, ?r⟩) hS ?_
 case r => intro W hW; simp [go_sem, execOp, Act.eval, hW]
 simp only [sa, sb, sc, Act.put, sd, se, sf]
 refine one 2 rfl (fun K hK => ?_)
 simp only [sa, sb, sc]
 go_simp
 refine (HC.out _ _ ht).mono ?_
 rintro e w5 ⟨rfl, b5⟩
 have hb5 : Below W2.heap.size W2 w5 := hB4.trans (b5.mono hB4.size)
 go_simp
 refine hK _ _ ⟨HK.out _ hb5, ?_⟩
 clear hK K hS
 have hS := HK.out _ hb5
 refine tq 6 (.pointer (some ⟨w.heap.size, 1, none⟩)) rfl hS ?_
 simp only [sa, sb, sc, Act.put, sd, se, sf]
 refine one 5 rfl (fun K hK => ?_)
 simp only [sa, sb, sc]
 go_simp
 refine (HC.out _ _ hs).mono ?_
 rintro e w6 ⟨rfl, b6⟩
 have hb6 : Below W2.heap.size W2 w6 := hb5.trans (b6.mono hb5.size)
 go_simp
 refine hK _ _ ⟨HK.out _ hb6, ?_⟩
 clear hK K hS
 have hS := HK.out _ hb6
 have hfr : ∀ j, w6.frozen? ⟨w.heap.size, j, none⟩ = false := fun j => fz _ _ _ _ j ((hb6.block w.heap.size (by omega)).trans hrow0.out)
 refine one 7 rfl (fun K hK => ?_)
 simp only [sa, sb, sc]
 have c1 : w6.cell? ⟨w.heap.size, 1, none⟩ = some (.string t) := hS 1
 go_simp
 have hS7 := set_same (o := 1) (v := .string t) hS rfl
 refine hK _ _ ⟨hS7, ?_⟩
 clear hK K hS
 have hS := hS7
 refine tq 8 (.pointer (some ⟨w.heap.size, 4, none⟩)) rfl hS ?_
 simp only [sa, sb, sc, Act.put, sd, se, sf]
 refine one 9 rfl (fun K hK => ?_)
 simp only [sa, sb, sc]
 have c4 : w6.cell? ⟨w.heap.size, 4, none⟩ = some (.string s) := HK.out _ hb6 4
 go_simp
 have hS9 := set_same (o := 4) (v := .string s) hS7 rfl
 refine hK _ _ ⟨hS9, ?_⟩
 clear hK K hS
 refine dn ?_
 try simp only [Act.put]
 obtain ⟨W9, hW9⟩ : ∃ W9, W9 = ((w6.setCell ⟨w.heap.size, 1, none⟩ (.string t)).setCell ⟨w.heap.size, 4, none⟩ (.string s)) := ⟨_, rfl⟩
 have hB9 : Below w.heap.size w W9 := by rw [hW9]; exact ((hB2.trans (hb6.mono (by omega))).setCell (p := ⟨w.heap.size, 1, none⟩) (Nat.le_refl _) _).setCell (p := ⟨w.heap.size, 4, none⟩) (Nat.le_refl _) _
 have hf9 : ∀ j, W9.frozen? ⟨w.heap.size, j, none⟩ = false := fun j => by rw [hW9]; simp [go_sem, hfr]
 have hr9 : W9.heap[w.heap.size + 1]? = some (.cells zeros 32 (0, 0)) := by
  rw [hW9, Below.heap_setCell _ _ _ _ (by simp), Below.heap_setCell _ _ _ _ (by simp)]; exact (hb6.block (w.heap.size + 1) (by omega)).trans hrow1.out
 have hz9 : w.heap.size + 1 < W9.heap.size := row_ltT hr9
 have hbx9 : W9.heap[w.heap.size]? = some (.cells #[.int .i64 k, .string t, .int .i64 a, .int .u64 f, .string s, .int .i64 r0, .int .i64 r1, .int .i64 r2, .int .i64 r3, .slice pp path.length pc, .slice ip items.length ic] 32 (0, 0)) := by
  rw [hW9]; exact row_set (row_set ((hb6.block w.heap.size (by omega)).trans hrow0.out) 1 _) 4 _
 rw [← hW9] at hS9 ⊢
 obtain ⟨⟨d0, d1, d2, d3, d4, d5, d6, d7, d8, d9, d10⟩, hf2⟩ := box_keptD hr9
 clear hW9 hfr c1 c4 hS7 HK HC hrow0 hrow1
 have HR9 : Hid _ := hr9
 have hw9 : ∀ b, b < w.heap.size → W9.heap[b]? = w.heap[b]? := fun b hb => hB9.block b hb
 have HX9 : Hid (W9.heap[w.heap.size]? = some (.cells #[.int .i64 k, .string t, .int .i64 a, .int .u64 f, .string s, .int .i64 r0, .int .i64 r1, .int .i64 r2, .int .i64 r3, .slice pp path.length pc, .slice ip items.length ic] 32 (0, 0))) := hbx9
 have HB9 : Hid _ := hB9
 clear hr9 hbx9 hB9 d0 d1 d2 d3 d4 d5 d6 d7 d8 d9 d10 hf2
 go_wp2_with (first
  | (at_builtin; refine wpList_append_new rfl _ _ 22 rfl 3 i3 (.int .i64 0) 1 8 Tryz.underlying22 hi3 hz30 hz31 hz32 rfl (by decide) rfl pp path.length pc (path.map (Value.int .i64)) rfl (by simp) HPn.out (HPC.out W9 hw9) (numsOf path) (by unfold maxLen; omega) (by omega) ?_; intro pp2 pc2 w3 hN3; obtain ⟨w3s, hw3s⟩ : ∃ w3s, w3s = w3.setCell ⟨w.heap.size, 9, none⟩ (.slice pp2 path.length pc2) := ⟨_, rfl⟩; have HN3 : Hid (NewRow W9 w3 3 1 path.length (path.map (Value.int .i64)) pp2 pc2) := hN3; have hX3 := (hN3.2.2.1.block w.heap.size (by omega)).trans HX9.out; have hc3 := row_at hX3; have hf3 := fun j => fz _ _ _ _ j hX3; have HX3 : Hid _ := hX3; have hBz3 := hN3.2.2.1.size; have HW3 : Hid (w3s = w3.setCell ⟨w.heap.size, 9, none⟩ (.slice pp2 path.length pc2)) := hw3s; have hw3b : ∀ b, b < w.heap.size → w3s.heap[b]? = w.heap[b]? := (fun b hb => by rw [hw3s]; exact (heap_setCell_other _ _ _ _ _ (by omega)).trans ((hN3.2.2.1.block b (by omega)).trans (hw9 b hb))); clear hN3 hX3)
  | (at_builtin; rw [← hw3s]; refine wpList_append_new rfl _ _ 27 rfl 32 i28 (.agg zeros) 11 136 Tryz.underlying27 hi28 hz280 hz281 hz282 rfl (by decide) rfl ip items.length ic (rowOf items) rfl (rowOf_length items) HIn.out (HIC.out w3s hw3b) (rowOf_one items) (by unfold maxLen; omega) (by omega) ?_; intro ip2 ic2 w4 hN4; have HN4 : Hid (NewRow w3s w4 32 11 items.length (rowOf items) ip2 ic2) := hN4; clear hN4))
 have hz3s : w3s.heap.size = w3.heap.size := by rw [HW3.out]; simp
 have hX3s : w3s.heap[w.heap.size]? = some (.cells #[.int .i64 k, .string t, .int .i64 a, .int .u64 f, .string s, .int .i64 r0, .int .i64 r1, .int .i64 r2, .int .i64 r3, .slice pp2 path.length pc2, .slice ip items.length ic] 32 (0, 0)) := by
  rw [HW3.out]; exact row_set HX3.out 9 _
 have hR3s : w3s.heap[w.heap.size + 1]? = some (.cells zeros 32 (0, 0)) := by
  rw [HW3.out, heap_setCell_other _ _ _ _ _ (by omega)]; exact (HN3.out.2.2.1.block _ hz9).trans HR9.out
 have HPr : Hid (path = [] ∨ ∃ g, pp2 = some ⟨g, 0, none⟩ ∧ g < w3s.heap.size ∧ W9.heap.size ≤ g ∧ ∀ (i : Nat) (hi : i < path.length), w3s.cell? ⟨g, 0 + i, none⟩ = some (.int .i64 path[i])) := by
  rcases path_row HN3.out with e | ⟨g, e1, e2, e3, e4⟩
  ·exact .inl e
  ·refine .inr ⟨g, e1, by omega, e3, fun i hi => ?_⟩
   refine (World.cell?_of_block (a := ⟨g, 0 + i, none⟩) ?_).trans (e4 i hi)
   rw [HW3.out]; exact heap_setCell_other _ _ _ _ _ (show g ≠ w.heap.size by omega)
 have hwz : w.heap.size + 2 ≤ W9.heap.size := by omega
 have HPg : Hid (path.length = 0 ∨ ∃ g cur, pp2 = some ⟨g, 0, none⟩ ∧ w.heap.size + 2 ≤ g ∧ g < w3s.heap.size ∧ w3s.heap[g]? = some (.cells cur 3 (0, 0)) ∧ path.length ≤ cur.size) := by
  rcases HN3.out.2.2.2.2 with ⟨e, _⟩ | ⟨g, cur, _, e1, e2, e3, e4, e5, _⟩
  ·exact .inl e
  ·exact .inr ⟨g, cur, e1, by omega, by omega, by rw [HW3.out]; exact (heap_setCell_other _ _ _ _ _ (show g ≠ w.heap.size by omega)).trans e4, by omega⟩
 have HPa : Hid (path.length ≤ pc2 ∧ pc2 ≤ maxLen ∧ ∀ b o, pp2 = some ⟨b, o, none⟩ → w.heap.size ≤ b) := ⟨HN3.out.1, HN3.out.2.1, fun b o e => by have := HN3.out.2.2.2.1 b o e; omega⟩
 have HB3 : Hid (Below w.heap.size w w3s) := by rw [HW3.out]; exact (HB9.out.trans (HN3.out.2.2.1.mono HB9.out.size)).setCell (p := ⟨w.heap.size, 9, none⟩) (Nat.le_refl _) _
 have HXR : Hid (∀ W, Below w3s.heap.size w3s W → W.heap[w.heap.size]? = some (.cells #[.int .i64 k, .string t, .int .i64 a, .int .u64 f, .string s, .int .i64 r0, .int .i64 r1, .int .i64 r2, .int .i64 r3, .slice pp2 path.length pc2, .slice ip items.length ic] 32 (0, 0)) ∧ W.heap[w.heap.size + 1]? = some (.cells zeros 32 (0, 0))) := fun W hW => ⟨(hW.block _ (by omega)).trans hX3s, (hW.block _ (by omega)).trans hR3s⟩
 clear HX3 HN3 HW3 hw3s hX3s hR3s hw3b HX9 HR9 hw9 HPC HIC HPn HIn hc3 hf3 HB9
 obtain ⟨hi1, hi2, hb4, _, h4⟩ := HN4.out
 obtain ⟨g, cur, rfl, hgl, hgw, hg4, hgs, hgt⟩ : ∃ g cur, ip2 = some ⟨g, 0, none⟩ ∧ w3s.heap.size ≤ g ∧ g < w4.heap.size ∧ w4.heap[g]? = some (.cells cur 32 (0, 0)) ∧ items.length * 11 ≤ cur.size ∧ cur.toList.take (items.length * 11) = rowOf items := by
  rcases h4 with ⟨e, _⟩ | ⟨g, cur, _, e1, e2, e3, e4, e5, e6⟩
  ·omega
  ·exact ⟨g, cur, e1, e2, e3, e4, e5, e6⟩
 have HC4 : Hid (∀ (j : Nat) (hj : j < items.length), 0 ≤ j → MD.CellsAt w4 g (j * 11) items[j]) := fun j hj _ => rowOf_at hg4 hgt j hj
 obtain ⟨m, hm⟩ : ∃ m, m = cur.size := ⟨_, rfl⟩
 have HT4 : Hid (∃ c, w4.heap[g]? = some (.cells c 32 (0, 0)) ∧ c.size = m) := ⟨cur, hg4, hm.symm⟩
 have HM : Hid (items.length * 11 ≤ m) := by show _ ≤ _; omega
 have HB4 : Hid (Below w3s.heap.size w3s w4) := hb4
 have HI : Hid (GCopyC n) := hI
 clear h4 hb4 HN4 hg4 hgs hgt hI hm
 go_wp2_with fail
 go_loopw [25] (fun i wr => VRelG n m items w3s g i wr) (fun i _ => items.length - (intOf i).toNat)
 case atStart => exact ⟨0, rfl, ⟨0, [], Nat.zero_le _, rfl, rfl, HB4.out, hgw, HT4.out, fun i hi => absurd hi (by simp), rfl⟩, HC4.out⟩
 case round =>
  obtain ⟨k', rfl, ⟨k'', ds, hk, e, hds, hb', hg, hth, hc', ha⟩, hrest⟩ := hrel
  obtain rfl : k' = k'' := by injection e with _ e2; omega
  obtain ⟨hbox, hres⟩ := HXR.out wr hb'
  have hb0 : Below w.heap.size w wr := HB3.out.trans (hb'.mono HB3.out.size)
  by_cases hlt : k' < items.length
  ·have i1 : (k' : Int) < items.length := by omega
   have hIn : MD.In w.heap.size wr n items[k'] := by
    rcases MD.ItemsIn.below HIt.out hb0 with e | ⟨bb, o, e1, e2, e3⟩
    ·have e' : items = [] := e
     rw [e'] at hlt; simp at hlt
    ·exact (e3 k' hlt).2
   have hC := hrest k' hlt (Nat.le_refl _)
   have HN : Hid (∀ (w9 : World) (d : MD), Below wr.heap.size wr w9 → MD.In w9.heap.size w9 n d → MD.Above wr.heap.size n d → MD.same n items[k'] d = true → Good wr.heap.size w9.heap.size w9 n d → VRelG n m items w3s g (.int .i64 ((k' : Int) + 1)) (w9.setCells g (k' * 11) d.cells.toList)) := fun w9 d h1 h2 h3 h4 h5 =>
    ⟨k' + 1, by simp, by
     have := GRel.next (mk := False) hlt HM.out hds hb' hgl hg hth hc' ha h1 h2 h3 h4 h5 (fun h => h.elim)
     simpa using this, VRel.rest hrest hg h1⟩
   have HO : Hid (wr.there g 0 (items.length * 11)) := by
    obtain ⟨c, x1, x2⟩ := hth
    exact there_at x1 (by have := HM.out; omega)
   have HFk := HFi.out _ (List.getElem_mem hlt)
   generalize items[k'] = kid at hC hIn HN HFk
   obtain ⟨⟨k0, k1, k2, k3, k4, k5, k6, k7, k8, kp, kpath, kpc⟩, kip, kic, kit⟩ := kid
   have c0 : wr.cell? ⟨g, k' * 11, none⟩ = some (.int .i64 k0) := hC 0 (by omega)
   have c1 : wr.cell? ⟨g, k' * 11 + 1, none⟩ = some (.string k1) := hC 1 (by omega)
   have c2 : wr.cell? ⟨g, k' * 11 + 2, none⟩ = some (.int .i64 k2) := hC 2 (by omega)
   have c3 : wr.cell? ⟨g, k' * 11 + 3, none⟩ = some (.int .u64 k3) := hC 3 (by omega)
   have c4 : wr.cell? ⟨g, k' * 11 + 4, none⟩ = some (.string k4) := hC 4 (by omega)
   have c5 : wr.cell? ⟨g, k' * 11 + 5, none⟩ = some (.int .i64 k5) := hC 5 (by omega)
   have c6 : wr.cell? ⟨g, k' * 11 + 6, none⟩ = some (.int .i64 k6) := hC 6 (by omega)
   have c7 : wr.cell? ⟨g, k' * 11 + 7, none⟩ = some (.int .i64 k7) := hC 7 (by omega)
   have c8 : wr.cell? ⟨g, k' * 11 + 8, none⟩ = some (.int .i64 k8) := hC 8 (by omega)
   have c9 : wr.cell? ⟨g, k' * 11 + 9, none⟩ = some (.slice kp kpath.length kpc) := hC 9 (by omega)
   have c10 : wr.cell? ⟨g, k' * 11 + 10, none⟩ = some (.slice kip kit.length kic) := hC 10 (by omega)
   have HC : Hid (∀ W, Below wr.heap.size wr W → Calls Tryz.prog 84 #[.agg #[.int .i64 k0, .string k1, .int .i64 k2, .int .u64 k3, .string k4, .int .i64 k5, .int .i64 k6, .int .i64 k7, .int .i64 k8, .slice kp kpath.length kpc, .slice kip kit.length kic]] W (CopyG n ⟨⟨k0, k1, k2, k3, k4, k5, k6, k7, k8, kp, kpath, kpc⟩, kip, kic, kit⟩ W)) := fun W hW => HI.out ⟨⟨k0, k1, k2, k3, k4, k5, k6, k7, k8, kp, kpath, kpc⟩, kip, kic, kit⟩ W (MD.In.later hIn hb0.size hW) HFk
   clear hC hIn HFk ha hc' hb' hbox hres hb0 hth HI hrest
   go_wp2_with (go_at_call 84; refine (HC.out _ (below1 _ _)).mono ?_; rintro r w9 ⟨d', rfl, hd1, hd2, hd3, hd4, hd6⟩; obtain ⟨⟨l0, l1, l2, l3, l4, l5, l6, l7, l8, lp, lpath, lpc⟩, lip, lic, lit⟩ := d'; have hd5 : Below wr.heap.size wr w9 := (below1 _ _).trans (hd4.mono (by simp)); have HR := HN.out w9 ⟨⟨l0, l1, l2, l3, l4, l5, l6, l7, l8, lp, lpath, lpc⟩, lip, lic, lit⟩ hd5 hd1 (MD.Above.mono (by simp) n _ hd2) hd3 (Good.mono (by simp) (Nat.le_refl _) n _ hd6); have HR2 : Hid _ := HR; obtain ⟨u0, u1, u2, u3, u4, u5, u6, u7, u8, u9, u10, ⟨e0, e1, e2, e3, e4, e5, e6, e7, e8, e9, e10⟩, f0, f1, f2, f3, f4, f5, f6, f7, f8, f9, f10⟩ := old_cells (there_below HO.out hg hd5) (show k' * 11 + 11 ≤ items.length * 11 by omega); simp only [MD.val, D]; clear HR hd1 hd2 hd3 hd4 hd5 hd6)
   exact ⟨HR2.out, by simp [intOf]; omega⟩
  ·have i1 : ¬ (k' : Int) < items.length := by omega
   obtain rfl : k' = items.length := by omega
   rw [List.take_of_length_le (Nat.le_refl _)] at ha
   have hcb := row_at hbox
   have hfb := fun j => fz _ _ _ _ j hbox
   have hrc : ∀ j, wr.cell? ⟨w.heap.size + 1, j, none⟩ = (#[.int .i64 0, .string ⟨#[]⟩, .int .i64 0, .int .u64 0, .string ⟨#[]⟩, .int .i64 0, .int .i64 0, .int .i64 0, .int .i64 0, .slice none 0 0, .slice none 0 0] : Array Value)[j]? := row_at hres
   have hrf := fun j => fz _ _ _ _ j hres
   have HE : Hid (ds.length = items.length ∧ Below w3s.heap.size w3s wr ∧ g < wr.heap.size ∧ (∀ (i : Nat) (hi : i < ds.length), MD.CellsAt wr g (i * 11) ds[i] ∧ MD.In wr.heap.size wr n ds[i] ∧ MD.Above (g + 1) n ds[i] ∧ Good (g + 1) wr.heap.size wr n ds[i] ∧ (False → Marks wr n ds[i])) ∧ all2 (MD.same n) items ds = true ∧ (∃ c, wr.heap[g]? = some (.cells c 32 (0, 0)) ∧ c.size = m)) := ⟨hds, hb', hg, hc', ha, hth⟩
   have hwr : w3s.heap.size ≤ wr.heap.size := hb'.size
   clear ha hc' hb' hbox hres hb0 hth HI hds hrest e
   go_wp2_with fail
   refine bodyPost_ret (v := .agg #[.int .i64 k, .string t, .int .i64 a, .int .u64 f, .string s, .int .i64 r0, .int .i64 r1, .int .i64 r2, .int .i64 r3, .slice pp2 path.length pc2, .slice (some ⟨g, 0, none⟩) items.length ic2]) (by simp [results, Tryz.results84, go_sem, hrc]) rfl ?_
   obtain ⟨q1, q2⟩ := HA.out
   obtain ⟨p1, p2, p3⟩ := HPa.out
   obtain ⟨x1, x2, x3, x4, x5, x6⟩ := HE.out
   have hBF : Below w.heap.size w wr := HB3.out.trans (x2.mono HB3.out.size)
   have hkeep := fun (b : Nat) (h1 : w.heap.size + 2 ≤ b) => eleven_after wr w.heap.size b (by omega) (by omega) 10 (.slice (some ⟨g, 0, none⟩) items.length ic2) (.int .i64 k) (.string t) (.int .i64 a) (.int .u64 f) (.string s) (.int .i64 r0) (.int .i64 r1) (.int .i64 r2) (.int .i64 r3) (.slice pp2 path.length pc2) (.slice (some ⟨g, 0, none⟩) items.length ic2)
   obtain ⟨z1, z2⟩ := rows_kept2 (lo := w.heap.size) (fun i hi => ⟨(x4 i hi).1, (x4 i hi).2.1, (x4 i hi).2.2.1⟩) (by omega) x3 (fun b h1 h2 => hkeep b (by omega)) (by simp)
   exact copy_doneG pp2 pc2 (some ⟨g, 0, none⟩) ic2 ds (bset (hBF.setCell (p := ⟨w.heap.size, 10, none⟩) (Nat.le_refl _) _) (by omega) _ _ _ _ _ _ _ _ _ _ _) q1 q2 p1 p2 ⟨path_kept2 HPr.out hwz (fun b h1 h2 => (hkeep b h1).trans (x2.block b h2)) (by simp; omega), p3⟩ x1 hi1 hi2 z1 ⟨fun b o e => (by cases e; omega), z2⟩ x5 (path_good HPg.out (fun b h1 h2 => (hkeep b h1).trans (x2.block b h2)) (by simp; omega)) (rows_good (fun i hi => ⟨(x4 i hi).1, (x4 i hi).2.2.2.1⟩) x6 (by rw [x1]; exact HM.out) (by omega) x3 (fun b h1 h2 => hkeep b (by omega)) (by simp))
theorem copiedG_any : ∀ n, GCopyC n
 | 0 => fun _ _ h _ => h.elim
 | n + 1 => by
  intro d w hin hf
  obtain ⟨⟨k, t, a, f, s, r0, r1, r2, r3, pp, path, pc⟩, ip, ic, items⟩ := d
  by_cases he : items = []
  ·exact copiedG_e n k t a f s r0 r1 r2 r3 pp path pc ip ic items w he hin hf
  ·exact copiedG_i n k t a f s r0 r1 r2 r3 pp path pc ip ic items w (copiedG_any n) (List.length_pos_iff.2 he) hin hf
end Go.Proofs.YtdbijkgnddcneaaGreatDoor
namespace Go.Proofs.YtdbijkgnddcneaaGreatDoor
open Go.RowKit
attribute [local go_sem] refold2 cell3_0 cell3_1 b28_0 b28_01
theorem sameH_all {h h' : Hd} {i i' : Nat} (e : sameH h h' i i' = true) : h'.k = h.k ∧ h'.t = h.t ∧ h'.n = h.n ∧ h'.f = h.f ∧ h'.s = h.s ∧ h'.r0 = h.r0 ∧ h'.r1 = h.r1 ∧ h'.r2 = h.r2 ∧ h'.r3 = h.r3 ∧ i' = i := by
 have := of_decide_eq_true e
 simp only [this, and_self]
theorem all2_full (n : Nat) (hI : ∀ x d : MD, MD.same n x d = true → MD.full n x = MD.full n d) : ∀ (xs ds : List MD), all2 (MD.same n) xs ds = true → xs.length = ds.length → xs.all (MD.full n) = ds.all (MD.full n)
 | [], [], _, _ => rfl
 | [], _ :: _, _, h => by simp at h
 | _ :: _, [], _, h => by simp at h
 | x :: xs, d :: ds, h, hl => by
  have h1 : (MD.same n x d && all2 (MD.same n) xs ds) = true := h
  rw [Bool.and_eq_true] at h1
  rw [List.all_cons, List.all_cons, hI x d h1.1, all2_full n hI xs ds h1.2 (by simpa using hl)]
theorem same_parts {n : Nat} {x d : MD} (h : MD.same (n + 1) x d = true) : d.h.k = x.h.k ∧ d.h.t = x.h.t ∧ d.h.n = x.h.n ∧ d.h.f = x.h.f ∧ d.h.s = x.h.s ∧ d.h.r0 = x.h.r0 ∧ d.h.r1 = x.h.r1 ∧ d.h.r2 = x.h.r2 ∧ d.h.r3 = x.h.r3 ∧ d.items.length = x.items.length ∧ d.h.path = x.h.path ∧ all2 (MD.same n) x.items d.items = true := by
 have h1 : (sameH x.h d.h x.items.length d.items.length && decide (x.h.path = d.h.path) && all2 (MD.same n) x.items d.items) = true := h
 rw [Bool.and_eq_true, Bool.and_eq_true] at h1
 have ep := of_decide_eq_true h1.1.2
 obtain ⟨e0, e1, e2, e3, e4, e5, e6, e7, e8, e9⟩ := sameH_all h1.1.1
 exact ⟨e0, e1, e2, e3, e4, e5, e6, e7, e8, e9, ep.symm, h1.2⟩
theorem same_full : ∀ (n : Nat) (x d : MD), MD.same n x d = true → MD.full n x = MD.full n d
 | 0, _, _, _ => rfl
 | n + 1, x, d, h => by
  obtain ⟨e0, e1, e2, e3, e4, e5, e6, e7, e8, e9, ep, ea⟩ := same_parts h
  show (headOK x.h x.items.length && (x.h.k != 8 || (decide (x.items.length ≤ 30) && x.items.all (MD.full n)))) = (headOK d.h d.items.length && (d.h.k != 8 || (decide (d.items.length ≤ 30) && d.items.all (MD.full n))))
  rw [all2_full n (same_full n) _ _ ea e9.symm, e0, e9]
  have : headOK x.h x.items.length = headOK d.h x.items.length := by
   unfold headOK kindB
   rw [e0, e1, e2, e3, e4, e5, e6, e7, e8, ep]
  rw [this]
theorem all2_eqv (n : Nat) (hI : ∀ x d y e : MD, MD.same n x d = true → MD.same n y e = true → MD.eqv n x y = MD.eqv n d e) : ∀ (xs ds ys es : List MD), all2 (MD.same n) xs ds = true → xs.length = ds.length → all2 (MD.same n) ys es = true → ys.length = es.length → allEq (MD.eqv n) xs ys = allEq (MD.eqv n) ds es
 | [], [], _, _, _, _, _, _ => by simp [allEq]
 | [], _ :: _, _, _, _, h, _, _ => by simp at h
 | _ :: _, [], _, _, _, h, _, _ => by simp at h
 | _ :: _, _ :: _, [], [], _, _, _, _ => by simp [allEq]
 | _ :: _, _ :: _, [], _ :: _, _, _, _, h => by simp at h
 | _ :: _, _ :: _, _ :: _, [], _, _, _, h => by simp at h
 | x :: xs, d :: ds, y :: ys, e :: es, h, hl, h', hl' => by
  have h1 : (MD.same n x d && all2 (MD.same n) xs ds) = true := h
  have h2 : (MD.same n y e && all2 (MD.same n) ys es) = true := h'
  rw [Bool.and_eq_true] at h1 h2
  unfold allEq
  rw [hI x d y e h1.1 h2.1, all2_eqv n hI xs ds ys es h1.2 (by simpa using hl) h2.2 (by simpa using hl')]
theorem same_eqv : ∀ (n : Nat) (x d y e : MD), MD.same n x d = true → MD.same n y e = true → MD.eqv n x y = MD.eqv n d e
 | 0, _, _, _, _, _, _ => rfl
 | n + 1, x, d, y, e, h, h' => by
  obtain ⟨e0, e1, e2, e3, e4, e5, e6, e7, e8, e9, ep, ea⟩ := same_parts h
  obtain ⟨f0, f1, f2, f3, f4, f5, f6, f7, f8, f9, fp, fa⟩ := same_parts h'
  unfold MD.eqv
  rw [all2_eqv n (same_eqv n) _ _ _ _ ea e9.symm fa f9.symm, e0, e1, e2, e3, e4, e5, e9, ep, f0, f1, f2, f3, f4, f5, f9, fp]
theorem taN0 (w : World) : (Instr.typeAssert .nilIface 257 262 true).run Tryz.prog w = .ok (.tuple #[.agg #[.pointer none], .bool false]) w := by kernel_rfl
theorem taR8 (v : Value) (w : World) : (Instr.typeAssert (.iface 262 v) 257 262 true).run Tryz.prog w = .ok (.tuple #[v, .bool true]) w := by simp [Instr.typeAssert, go_sem]
attribute [local go_sem] taN0 taR8
end Go.Proofs.YtdbijkgnddcneaaGreatDoor
namespace Go.Proofs.YtdbijkgnddcneaaGreatDoor
open Go.RowKit
def pv (o : Option Nat) : Value := .pointer (o.map fun b => ⟨b, 0, none⟩)
theorem pv_none : pv none = .pointer none := rfl
theorem pv_some (b : Nat) : pv (some b) = .pointer (some ⟨b, 0, none⟩) := rfl
def Tg (w : World) : Nat → MD → Prop
 | 0, _ => False
 | n + 1, d => (d.h.path = [] ∨ ∃ g o cur, d.h.pp = some ⟨g, o, none⟩ ∧ w.heap[g]? = some (.cells cur 3 (0, 0))) ∧
   (d.items = [] ∨ ∃ g o cur, d.ip = some ⟨g, o, none⟩ ∧ w.heap[g]? = some (.cells cur 32 (0, 0)) ∧ ∀ (i : Nat) (hi : i < d.items.length), Tg w n d.items[i])
structure KeepS (S : Nat → Prop) (w w' : World) : Prop where
 os : w'.os = w.os
 tape : w'.tape = w.tape
 output : w'.output = w.output
 size : w.heap.size ≤ w'.heap.size
 block : ∀ b, b < w.heap.size → ¬ S b → w'.heap[b]? = w.heap[b]?
theorem KeepS.refl (S : Nat → Prop) (w : World) : KeepS S w w := ⟨rfl, rfl, rfl, Nat.le_refl _, fun _ _ _ => rfl⟩
theorem KeepS.trans {S : Nat → Prop} {a b c : World} (h : KeepS S a b) (k : KeepS S b c) : KeepS S a c :=
 ⟨k.os.trans h.os, k.tape.trans h.tape, k.output.trans h.output, Nat.le_trans h.size k.size, fun i hi hs => (k.block i (Nat.lt_of_lt_of_le hi h.size) hs).trans (h.block i hi hs)⟩
theorem KeepS.mono {S S' : Nat → Prop} {w w' : World} (h : KeepS S w w') (hs : ∀ b, b < w.heap.size → S b → S' b) : KeepS S' w w' :=
 ⟨h.os, h.tape, h.output, h.size, fun b hb hn => h.block b hb fun hh => hn (hs b hb hh)⟩
theorem Below.keepS {w w' : World} (S : Nat → Prop) (h : Below w.heap.size w w') : KeepS S w w' := ⟨h.os, h.tape, h.output, h.size, fun b hb _ => h.block b hb⟩
theorem KeepS.set {S : Nat → Prop} {w a : World} (h : KeepS S w a) {g o : Nat} (v : Value) (hg : g < w.heap.size → S g) : KeepS S w (a.setCell ⟨g, o, none⟩ v) :=
 ⟨h.os, h.tape, h.output, by simpa using h.size, fun b hb hn => (heap_setCell_other a g o b v (fun e => by subst e; exact hn (hg hb))).trans (h.block b hb hn)⟩
theorem KeepS.below {S : Nat → Prop} {w a b : World} (h : KeepS S w a) (k : Below a.heap.size a b) : KeepS S w b := h.trans (Below.keepS S k)
theorem KeepS.out {w w' : World} {S : Nat → Prop} {B : Nat} (h : KeepS S w w') (hB : B ≤ w.heap.size) (hs : ∀ b, b < B → ¬ S b) : Below B w w' := ⟨h.os, h.tape, h.output, h.size, fun k hk => h.block k (by omega) (hs k hk)⟩
theorem KeepS.cells {S : Nat → Prop} {w w' : World} (h : KeepS S w w') {g : Nat} {c : Array Value} {t : TypeId} (hg : w.heap[g]? = some (.cells c t (0, 0))) (hs : ¬ S g) : w'.heap[g]? = some (.cells c t (0, 0)) :=
 (h.block g (row_ltT hg) hs).trans hg
theorem Tg.keep {S : Nat → Prop} {w w' : World} (h : KeepS S w w') (hs : ∀ g c t, (t = 3 ∨ t = 32) → w.heap[g]? = some (.cells c t (0, 0)) → ¬ S g) : ∀ (n : Nat) (d : MD), Tg w n d → Tg w' n d
 | 0, _, hh => hh
 | n + 1, d, ⟨p, q⟩ => by
  refine ⟨?_, ?_⟩
  ·rcases p with e | ⟨g, o, cur, e1, e2⟩
   ·exact .inl e
   ·exact .inr ⟨g, o, cur, e1, h.cells e2 (hs g cur 3 (.inl rfl) e2)⟩
  ·rcases q with e | ⟨g, o, cur, e1, e2, e3⟩
   ·exact .inl e
   ·exact .inr ⟨g, o, cur, e1, h.cells e2 (hs g cur 32 (.inr rfl) e2), fun i hi => Tg.keep h hs n _ (e3 i hi)⟩
theorem MD.In.keep {S : Nat → Prop} {w w' : World} (h : KeepS S w w') (hs : ∀ g c t, (t = 3 ∨ t = 32) → w.heap[g]? = some (.cells c t (0, 0)) → ¬ S g) : ∀ (n : Nat) (d : MD), Tg w n d → MD.In w.heap.size w n d → MD.In w'.heap.size w' n d
 | 0, _, hh, _ => hh.elim
 | n + 1, d, ⟨p, q⟩, ⟨i1, i2, i3, i4, i5⟩ => by
  have hk : ∀ g o c t v, (t = 3 ∨ t = 32) → w.heap[g]? = some (.cells c t (0, 0)) → w.cell? ⟨g, o, none⟩ = v → w'.cell? ⟨g, o, none⟩ = v := fun g o c t v ht hg hv => (World.cell?_of_block (a := ⟨g, o, none⟩) (h.block g (row_ltT hg) (hs g c t ht hg))).trans hv
  refine ⟨i1, ⟨i2.1, ?_⟩, i3, i4, ?_⟩
  ·rcases i2.2 with e | ⟨b, o, e1, e2, e3⟩
   ·exact .inl e
   ·rcases p with e | ⟨g, o', cur, f1, f2⟩
    ·exact .inl e
    ·rw [f1] at e1
     obtain ⟨rfl, rfl⟩ : g = b ∧ o' = o := by simpa using e1
     exact .inr ⟨g, o', f1, Nat.lt_of_lt_of_le e2 h.size, fun i hi => hk g _ cur 3 _ (.inl rfl) f2 (e3 i hi)⟩
  ·rcases i5 with e | ⟨b, o, e1, e2, e3⟩
   ·exact .inl e
   ·rcases q with e | ⟨g, o', cur, f1, f2, f3⟩
    ·exact .inl e
    ·rw [f1] at e1
     obtain ⟨rfl, rfl⟩ : g = b ∧ o' = o := by simpa using e1
     exact .inr ⟨g, o', f1, Nat.lt_of_lt_of_le e2 h.size, fun i hi => ⟨fun j hj => hk g _ cur 32 _ (.inr rfl) f2 ((e3 i hi).1 j hj), MD.In.keep h hs n _ (f3 i hi) (e3 i hi).2⟩⟩
theorem Good.like {lo hi : Nat} {w : World} : ∀ (n : Nat) (d e : MD), e.h.pp = d.h.pp → e.h.path.length = d.h.path.length → e.h.pc = d.h.pc → e.ip = d.ip → e.items.length = d.items.length → e.ic = d.ic → Good lo hi w n d → Good lo hi w n e
 | 0, _, _, _, _, _, _, _, _, h => h
 | n + 1, d, e, h1, h2, h3, h4, h5, h6, ⟨a, b, p, q⟩ => by
  rw [← h2, ← h3] at a
  rw [← h5, ← h6] at b
  rw [← h1, ← h2] at p
  rw [← h4, ← h5] at q
  exact ⟨a, b, p, q⟩
theorem Good.tg {lo hi : Nat} {w : World} : ∀ (n : Nat) (d : MD), Good lo hi w n d → MD.In w.heap.size w n d → Tg w n d
 | 0, _, h, _ => h
 | n + 1, d, ⟨a, b, p, q⟩, ⟨i1, i2, i3, i4, i5⟩ => by
  refine ⟨?_, ?_⟩
  ·rcases p with e | ⟨g, cur, e1, _, _, e4, _⟩
   ·exact .inl (List.eq_nil_of_length_eq_zero e)
   ·exact .inr ⟨g, 0, cur, e1, e4⟩
  ·rcases q with e | ⟨g, cur, e1, _, _, e4, _, e6⟩
   ·exact .inl (List.eq_nil_of_length_eq_zero e)
   ·refine .inr ⟨g, 0, cur, e1, e4, fun i hi => ?_⟩
    rcases i5 with e | ⟨b', o, f1, _, f3⟩
    ·rw [e] at hi; simp at hi
    ·rw [e1] at f1
     obtain ⟨rfl, rfl⟩ : g = b' ∧ 0 = o := by simpa using f1
     obtain ⟨x, hx, hg⟩ := e6 i hi
     have hc := (f3 i hi).1
     have h9 : x.cells[9]? = d.items[i].cells[9]? := by
      have h1 := hx 9 (by omega)
      have h2 := hc 9 (by omega)
      rw [Nat.zero_add] at h2
      exact h1.symm.trans h2
     have h10 : x.cells[10]? = d.items[i].cells[10]? := by
      have h1 := hx 10 (by omega)
      have h2 := hc 10 (by omega)
      rw [Nat.zero_add] at h2
      exact h1.symm.trans h2
     simp [MD.cells] at h9 h10
     exact Good.tg n _ (Good.like n x _ h9.1.symm h9.2.1.symm h9.2.2.symm h10.1.symm h10.2.1.symm h10.2.2.symm hg) (f3 i hi).2
structure Box (w : World) (n b : Nat) (d : MD) : Prop where
 cells : w.heap[b]? = some (.cells d.cells 32 (0, 0))
 inn : MD.In w.heap.size w n d
 tg : Tg w n d
theorem Box.keep {S : Nat → Prop} {w w' : World} {n b : Nat} {d : MD} (h : Box w n b d) (k : KeepS S w w') (hs : ∀ g c t, (t = 3 ∨ t = 32) → w.heap[g]? = some (.cells c t (0, 0)) → ¬ S g) : Box w' n b d :=
 ⟨k.cells h.cells (hs b _ _ (.inr rfl) h.cells), MD.In.keep k hs n d h.tg h.inn, Tg.keep k hs n d h.tg⟩
structure Ent where
 b : Nat
 kb : Nat
 vb : Nat
 k : MD
 v : MD
 h : Int
def EntAt (w : World) (b : Nat) (kp vp : Value) (h : Int) (nx : Option Nat) (bf bh : Nat) (g : Bool) : Prop :=
 w.heap[b]? = some (.cells #[kp, vp, .int .u64 h, pv nx, .pointer (some ⟨bf, 0, none⟩), .pointer (some ⟨bh, 0, none⟩), .bool g] 159 (0, 0))
structure KG where
 hb : Nat
 rb : Nat
 L : Nat
 cap : Nat
 nx : Nat → Option Nat
 hd : Nat → Option Nat
 bf : Nat → Nat
 bh : Nat → Nat
 ch : Nat → List Nat
abbrev seed : Int := 14695981039346656037
def KeyOK (n : Nat) (e : Ent) : Prop := MD.right n e.k = true ∧ (MD.eqv n e.k e.k).2 = ⟨#[]⟩ ∧ e.h = MD.hash n seed e.k ∧ (0 ≤ e.h ∧ e.h < 18446744073709551616) ∧ MD.right n e.v = true
structure KM (n : Nat) (w : World) (m : Nat) (es : List Ent) (G : KG) : Prop where
 map : w.heap[m]? = some (.cells #[.slice (some ⟨G.hb, 0, none⟩) G.L G.cap, .pointer (some ⟨G.rb, 0, none⟩), .int .i64 es.length] 162 (0, 0))
 L1 : 1 ≤ G.L
 Lc : G.L ≤ G.cap
 Lm : G.L ≤ 1099511627776
 capm : G.cap ≤ maxLen
 heads : ∃ cur, w.heap[G.hb]? = some (.cells cur 254 (0, 0)) ∧ cur.size = 8 * G.cap ∧ ∀ i, i < 8 * G.L → cur[i]? = some (pv (G.hd i))
 ring : EntAt w G.rb (.pointer none) (.pointer none) 0 none (G.bf G.rb) (G.bh G.rb) false
 ent : ∀ e ∈ es, EntAt w e.b (.pointer (some ⟨e.kb, 0, none⟩)) (.pointer (some ⟨e.vb, 0, none⟩)) e.h (G.nx e.b) (G.bf e.b) (G.bh e.b) false
 box : ∀ e ∈ es, Box w n e.kb e.k ∧ Box w n e.vb e.v
 adj : Adj G.bf G.bh (G.rb :: es.map Ent.b ++ [G.rb])
 nod : (G.rb :: es.map Ent.b).Nodup
 chain : ∀ i, i < 8 * G.L → Lk G.nx (G.hd i) (G.ch i) ∧ (G.ch i).Nodup ∧ ∀ b, b ∈ G.ch i ↔ ∃ e ∈ es, e.b = b ∧ e.h % (8 * G.L : Nat) = (i : Int)
 fit : es.length ≤ 8 * G.L
 key : ∀ e ∈ es, KeyOK n e
 apart : es.Pairwise fun a b => (MD.eqv n a.k b.k).1 = false
def KM.own (m : Nat) (es : List Ent) (G : KG) (b : Nat) : Prop := b = m ∨ b = G.hb ∨ b = G.rb ∨ b ∈ es.map Ent.b
theorem KM.tag {n : Nat} {w : World} {m : Nat} {es : List Ent} {G : KG} (h : KM n w m es G) {b : Nat} (hb : KM.own m es G b) : ∃ c t, w.heap[b]? = some (.cells c t (0, 0)) ∧ (t = 162 ∨ t = 254 ∨ t = 159) := by
 rcases hb with rfl | rfl | rfl | hb
 ·exact ⟨_, _, h.map, .inl rfl⟩
 ·obtain ⟨cur, h1, _⟩ := h.heads
  exact ⟨_, _, h1, .inr (.inl rfl)⟩
 ·exact ⟨_, _, h.ring, .inr (.inr rfl)⟩
 ·obtain ⟨e, he, rfl⟩ := List.mem_map.1 hb
  exact ⟨_, _, h.ent e he, .inr (.inr rfl)⟩
theorem KM.data {n : Nat} {w : World} {m : Nat} {es : List Ent} {G : KG} (h : KM n w m es G) : ∀ g c t, (t = 3 ∨ t = 32) → w.heap[g]? = some (.cells c t (0, 0)) → ¬ KM.own m es G g := fun g c t ht hg ho => by
 obtain ⟨c', t', h1, h2⟩ := h.tag ho
 rw [hg] at h1
 injection h1 with h1
 injection h1 with _ h1
 subst h1
 rcases ht with rfl | rfl <;> rcases h2 with h2 | h2 | h2 <;> exact absurd h2 (by decide)
theorem KM.keep {n : Nat} {w w' : World} {m : Nat} {es : List Ent} {G : KG} (h : KM n w m es G) (k : Below w.heap.size w w') : KM n w' m es G := by
 have kk : KeepS (fun _ => False) w w' := Below.keepS _ k
 have hs : ∀ (g : Nat) (c : Array Value) (t : TypeId), (t = 3 ∨ t = 32) → w.heap[g]? = some (.cells c t (0, 0)) → ¬ (fun _ : Nat => False) g := fun _ _ _ _ _ h => h
 refine ⟨kk.cells h.map (fun h => h), h.L1, h.Lc, h.Lm, h.capm, ?_, kk.cells h.ring (fun h => h), fun e he => kk.cells (h.ent e he) (fun h => h), fun e he => ⟨(h.box e he).1.keep kk hs, (h.box e he).2.keep kk hs⟩, h.adj, h.nod, h.chain, h.fit, h.key, h.apart⟩
 obtain ⟨cur, h1, h2, h3⟩ := h.heads
 exact ⟨cur, kk.cells h1 (fun h => h), h2, h3⟩
end Go.Proofs.YtdbijkgnddcneaaGreatDoor
namespace Go.Proofs.YtdbijkgnddcneaaGreatDoor
open Go.RowKit
theorem EntAt.cell {w : World} {b : Nat} {kp vp : Value} {h : Int} {nx : Option Nat} {bf bh : Nat} {g : Bool} (he : EntAt w b kp vp h nx bf bh g) (j : Nat) : w.cell? ⟨b, j, none⟩ = (#[kp, vp, .int .u64 h, pv nx, .pointer (some ⟨bf, 0, none⟩), .pointer (some ⟨bh, 0, none⟩), .bool g] : Array Value)[j]? := row_at he j
theorem EntAt.other {w : World} {b : Nat} {kp vp : Value} {h : Int} {nx : Option Nat} {bf bh : Nat} {g : Bool} (he : EntAt w b kp vp h nx bf bh g) {x o : Nat} (v : Value) (hx : b ≠ x) : EntAt (w.setCell ⟨x, o, none⟩ v) b kp vp h nx bf bh g := (heap_setCell_other w x o b v hx).trans he
theorem EntAt.up3 {w : World} {b : Nat} {kp vp : Value} {h : Int} {nx : Nat → Option Nat} {bf bh : Nat} {g : Bool} (he : EntAt w b kp vp h (nx b) bf bh g) (x : Nat) (o : Option Nat) : EntAt (w.setCell ⟨x, 3, none⟩ (pv o)) b kp vp h (up nx x o b) bf bh g := by
 by_cases hx : b = x
 ·subst hx
  rw [up_at]
  exact row_set he 3 _
 ·rw [up_ne _ _ hx]
  exact he.other _ hx
theorem EntAt.up4 {w : World} {b : Nat} {kp vp : Value} {h : Int} {nx : Option Nat} {bf : Nat → Nat} {bh : Nat} {g : Bool} (he : EntAt w b kp vp h nx (bf b) bh g) (x y : Nat) : EntAt (w.setCell ⟨x, 4, none⟩ (.pointer (some ⟨y, 0, none⟩))) b kp vp h nx (up bf x y b) bh g := by
 by_cases hx : b = x
 ·subst hx
  rw [up_at]
  exact row_set he 4 _
 ·rw [up_ne _ _ hx]
  exact he.other _ hx
theorem EntAt.up5 {w : World} {b : Nat} {kp vp : Value} {h : Int} {nx : Option Nat} {bf : Nat} {bh : Nat → Nat} {g : Bool} (he : EntAt w b kp vp h nx bf (bh b) g) (x y : Nat) : EntAt (w.setCell ⟨x, 5, none⟩ (.pointer (some ⟨y, 0, none⟩))) b kp vp h nx bf (up bh x y b) g := by
 by_cases hx : b = x
 ·subst hx
  rw [up_at]
  exact row_set he 5 _
 ·rw [up_ne _ _ hx]
  exact he.other _ hx
theorem EntAt.ne {w : World} {b x : Nat} {kp vp : Value} {h : Int} {nx : Option Nat} {bf bh : Nat} {g : Bool} (he : EntAt w b kp vp h nx bf bh g) {c : Array Value} {t : TypeId} (hx : w.heap[x]? = some (.cells c t (0, 0))) (ht : t ≠ 159) : b ≠ x := fun e => by
 subst e
 unfold EntAt at he
 rw [he] at hx
 injection hx with hx
 injection hx with _ hx
 exact ht hx.symm
theorem tag_ne {w : World} {b x : Nat} {c d : Array Value} {s t : TypeId} (hb : w.heap[b]? = some (.cells c s (0, 0))) (hx : w.heap[x]? = some (.cells d t (0, 0))) (ht : s ≠ t) : b ≠ x := fun e => by
 subst e
 rw [hb] at hx
 injection hx with hx
 injection hx with _ hx
 exact ht hx
theorem ring_split {bf bh : Nat → Nat} {rb : Nat} {l : List Nat} (h : Adj bf bh (rb :: l ++ [rb])) : ∃ l1, rb :: l ++ [rb] = l1 ++ [bf rb, rb] := by
 rcases List.eq_nil_or_concat l with rfl | ⟨l0, x, rfl⟩
 ·exact ⟨[], by simp [Adj] at h ⊢; exact h.2.symm⟩
 ·refine ⟨rb :: l0, ?_⟩
  have e : rb :: (l0 ++ [x]) ++ [rb] = (rb :: l0) ++ x :: [rb] := by simp
  rw [List.concat_eq_append] at h ⊢
  rw [e] at h ⊢
  have h2 := ((Adj.app (rb :: l0)).1 h).2
  simp [Adj] at h2
  rw [h2.2]
theorem ring_ends {rb : Nat} {l : List Nat} (h : (rb :: l).Nodup) : (rb :: l ++ [rb]).dropLast.Nodup ∧ (rb :: l ++ [rb]).tail.Nodup := by
 refine ⟨by rw [List.dropLast_append_of_ne_nil (by simp)]; simpa using h, ?_⟩
 show (l ++ [rb]).Nodup
 rw [List.nodup_cons] at h
 rw [List.nodup_append]
 refine ⟨h.2, by simp, ?_⟩
 intro a ha b hb
 simp at hb
 subst hb
 intro e
 subst e
 exact h.1 ha
end Go.Proofs.YtdbijkgnddcneaaGreatDoor
