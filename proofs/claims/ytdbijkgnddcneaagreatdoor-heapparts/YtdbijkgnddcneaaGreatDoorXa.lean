/-
  .
-/
import Derived.Test.YtdbijkgnddcneaaGreatDoorIa2J
import Derived.MapKept
import Derived.ChangeMaps4
import Derived.Carry
import Derived.LoopN
import Derived.BigRegion
namespace Go.Proofs.YtdbijkgnddcneaaGreatDoor
open Go.RowKit Go.ChangeMaps
set_option maxRecDepth 100000
set_option maxHeartbeats 4000000
theorem hblk {w : World} {b : Nat} {o : Obj} (h : w.heap[b]? = some o) : b < w.heap.size := (Array.getElem?_eq_some_iff.1 h).1
theorem setBlock_size (w : World) (b : Nat) (o : Obj) : (setBlock w b o).heap.size = w.heap.size := by simp [setBlock]
theorem setBlock_same (w : World) (b : Nat) (o : Obj) (h : b < w.heap.size) : (setBlock w b o).heap[b]? = some o := by simp [setBlock, h]
theorem setBlock_other (w : World) (b c : Nat) (o : Obj) (h : c ≠ b) : (setBlock w b o).heap[c]? = w.heap[c]? := by simp [setBlock, Ne.symm h]
theorem cells_of {w : World} {b : Nat} {cs : Array Value} {t : TypeId} (h : w.heap[b]? = some (.cells cs t)) : (∀ j, w.cell? ⟨b, j, none⟩ = cs[j]?) ∧ ∀ j, w.frozen? ⟨b, j, none⟩ = false :=
 ⟨fun j => by simp [World.cell?, h], fun j => by simp [World.frozen?, h]⟩
theorem heap_set {w : World} {b : Nat} {cs : Array Value} {t : TypeId} (h : w.heap[b]? = some (.cells cs t)) (j : Nat) (v : Value) : (w.setCell ⟨b, j, none⟩ v).heap[b]? = some (.cells (cs.setIfInBounds j v) t) := by
 have hlt := (Array.getElem?_eq_some_iff.1 h).1
 show (w.heap.modify b _)[b]? = _
 rw [Array.getElem?_eq_getElem (by rw [Array.size_modify]; exact hlt), Array.getElem_modify_self]
 have e := (Array.getElem?_eq_some_iff.1 h).2
 rw [e]
 rfl
theorem heap_set_other (w : World) (b c j : Nat) (v : Value) (h : c ≠ b) : (w.setCell ⟨b, j, none⟩ v).heap[c]? = w.heap[c]? := Below.heap_setCell w ⟨b, j, none⟩ v c h
structure Kp (S : Nat → Prop) (w w' : World) : Prop where
 os : w'.os = w.os
 tape : w'.tape = w.tape
 output : w'.output = w.output
 size : w.heap.size ≤ w'.heap.size
 block : ∀ k, k < w.heap.size → ¬ S k → w'.heap[k]? = w.heap[k]?
theorem Kp.refl (S : Nat → Prop) (w : World) : Kp S w w := ⟨rfl, rfl, rfl, Nat.le_refl _, fun _ _ _ => rfl⟩
theorem Kp.of {S : Nat → Prop} {w w' : World} (h : Below w.heap.size w w') : Kp S w w' := ⟨h.os, h.tape, h.output, h.size, fun k hk _ => h.block k hk⟩
theorem Kp.trans {S S' : Nat → Prop} {a b c : World} (h : Kp S a b) (k : Kp S' b c) (hs : ∀ i, i < a.heap.size → S' i → S i) : Kp S a c :=
 ⟨k.os.trans h.os, k.tape.trans h.tape, k.output.trans h.output, Nat.le_trans h.size k.size, fun i hi hn => (k.block i (Nat.lt_of_lt_of_le hi h.size) fun x => hn (hs i hi x)).trans (h.block i hi hn)⟩
theorem Kp.next {S : Nat → Prop} {a b c : World} (h : Kp S a b) (k : Below b.heap.size b c) : Kp S a c := h.trans (Kp.of (S := fun _ => False) k) fun _ _ x => x.elim
theorem Kp.below {S : Nat → Prop} {w w' : World} (h : Kp S w w') {B : Nat} (hB : B ≤ w.heap.size) (hn : ∀ i, i < B → ¬ S i) : Below B w w' := ⟨h.os, h.tape, h.output, h.size, fun k hk => h.block k (Nat.lt_of_lt_of_le hk hB) (hn k hk)⟩
theorem Kp.set {S : Nat → Prop} (w : World) (b o : Nat) (v : Value) (hb : S b) : Kp S w (w.setCell ⟨b, o, none⟩ v) :=
 ⟨rfl, rfl, rfl, by simp, fun k _ hn => heap_set_other _ _ _ _ _ fun e => hn (e ▸ hb)⟩
theorem Kp.setB {S : Nat → Prop} (w : World) (b : Nat) (o : Obj) (hb : S b) : Kp S w (setBlock w b o) :=
 ⟨rfl, rfl, rfl, by simp [setBlock], fun k _ hn => setBlock_other _ _ _ _ fun e => hn (e ▸ hb)⟩
section
variable {P : Program} {w : World} {t k e : TypeId} {b : Nat} {es : Array MapEntry} {clock : Nat} {n : Int}
theorem lookI_yes (ht : P.underlying t = some (.map k e)) (hk : P.underlying k = some (.int .i64)) (hb : w.heap[b]? = some (.map es clock)) {i : Nat} {v : Value} (hf : Instr.findNow (.int .i64) (.int .i64 n) es.toList 0 = some (some (i, v))) (ok : Bool) :
  (Instr.lookup t (.map (some b)) (.int .i64 n) ok).run P w = .ok (if ok then .tuple #[v, .bool true] else v) w := by
 have h1 : ∀ q : Bool, (Instr.checkKey q 10000 k (.int .i64 n)).run P w = .ok () w := fun q => MapKept.run_checkKey hk (by rfl) q 9999
 have h2 := MapKept.run_findKey (w := w) hk hf
 simp [Instr.lookup, run_underlying ht, MapKept.run_getObj_map hb, h1, h2, Result.andThen]
theorem updI_new (ht : P.underlying t = some (.map k e)) (hk : P.underlying k = some (.int .i64)) (hb : w.heap[b]? = some (.map es clock)) (hf : Instr.findNow (.int .i64) (.int .i64 n) es.toList 0 = some none) (v : Value) :
  (Instr.mapUpdate t (.map (some b)) (.int .i64 n) v).run P w = .ok () (setBlock w b (.map (es.push ⟨.int .i64 n, v, clock⟩) (clock + 1))) := by
 have h1 : ∀ q : Bool, (Instr.checkKey q 10000 k (.int .i64 n)).run P w = .ok () w := fun q => MapKept.run_checkKey hk (by rfl) q 9999
 have h2 := MapKept.run_findKey (w := w) hk hf
 simp [Instr.mapUpdate, run_underlying ht, MapKept.run_getObj_map hb, h1, h2, MapKept.run_setObj_map _ hb, Result.andThen, setBlock]
end
def tents : Nat → List Value → List MapEntry
 | _, [] => []
 | i, v :: vs => ⟨.int .i64 ((i : Int) + 1), v, i⟩ :: tents (i + 1) vs
theorem tents_length : ∀ (i : Nat) (vs : List Value), (tents i vs).length = vs.length
 | _, [] => rfl
 | i, _ :: vs => by simp [tents, tents_length (i + 1) vs]
theorem tents_snoc : ∀ (i : Nat) (vs : List Value) (v : Value), tents i (vs ++ [v]) = tents i vs ++ [⟨.int .i64 (((i + vs.length : Nat) : Int) + 1), v, i + vs.length⟩]
 | i, [], v => by simp [tents]
 | i, x :: vs, v => by
  simp only [List.cons_append, tents, List.length_cons]
  rw [tents_snoc (i + 1) vs v]
  simp only [show i + 1 + vs.length = i + (vs.length + 1) by omega]
theorem tents_find : ∀ (vs : List Value) (i j m : Nat) (v : Value), vs[m]? = some v → Instr.findNow (.int .i64) (.int .i64 (((i + m : Nat) : Int) + 1)) (tents i vs) j = some (some (j + m, v))
 | x :: vs, i, j, 0, v, h => by
  simp at h
  subst h
  simp [tents, Instr.findNow, Instr.sameNow]
 | x :: vs, i, j, m + 1, v, h => by
  have h1 : Instr.sameNow (.int .i64) (.int .i64 (((i + (m + 1) : Nat) : Int) + 1)) (.int .i64 ((i : Int) + 1)) = some false := by
   simp [Instr.sameNow]; omega
  have h2 := tents_find vs (i + 1) (j + 1) m v (by simpa using h)
  simp only [tents, Instr.findNow, h1]
  rw [show i + (m + 1) = i + 1 + m by omega, h2]
  congr 3
  omega
theorem tents_none : ∀ (vs : List Value) (i j : Nat) (n : Int), (n ≤ (i : Int) ∨ ((i + vs.length : Nat) : Int) < n) → Instr.findNow (.int .i64) (.int .i64 n) (tents i vs) j = some none
 | [], _, _, _, _ => rfl
 | x :: vs, i, j, n, h => by
  have h1 : Instr.sameNow (.int .i64) (.int .i64 n) (.int .i64 ((i : Int) + 1)) = some false := by
   simp [Instr.sameNow]; simp at h; omega
  simp only [tents, Instr.findNow, h1]
  exact tents_none vs (i + 1) (j + 1) n (by simp at h ⊢; omega)
structure HeapAt (w : World) (hb M : Nat) (vs : List Value) : Prop where
 box : w.heap[hb]? = some (.cells #[.map (some M), .int .i64 vs.length] 69)
 map : w.heap[M]? = some (.map (tents 0 vs).toArray vs.length)
 ne : hb ≠ M
theorem HeapAt.kp {S : Nat → Prop} {w w' : World} {hb M : Nat} {vs : List Value} (h : HeapAt w hb M vs) (k : Kp S w w') (h1 : ¬ S hb) (h2 : ¬ S M) : HeapAt w' hb M vs :=
 ⟨(k.block _ (hblk h.box) h1).trans h.box, (k.block _ (hblk h.map) h2).trans h.map, h.ne⟩
theorem HeapAt.below {w w' : World} {hb M : Nat} {vs : List Value} (h : HeapAt w hb M vs) (k : Below w.heap.size w w') : HeapAt w' hb M vs := h.kp (Kp.of (S := fun _ => False) k) id id
theorem und67 : Tryz.prog.underlying 67 = some (.map 3 134) := by kernel_rfl
theorem und3 : Tryz.prog.underlying 3 = some (.int .i64) := by kernel_rfl
theorem HeapAt.look {w : World} {hb M : Nat} {vs : List Value} (h : HeapAt w hb M vs) {m : Nat} {v : Value} (hm : vs[m]? = some v) {n : Int} (hn : n = (m : Int) + 1) : (Instr.lookup 67 (.map (some M)) (.int .i64 n) false).run Tryz.prog w = .ok v w := by
 have hf := tents_find vs 0 0 m v hm
 subst hn
 rw [Nat.zero_add] at hf
 exact lookI_yes und67 und3 h.map (by rw [List.toList_toArray]; exact hf) false
theorem HeapAt.upd {w : World} {M : Nat} {vs : List Value} (h : w.heap[M]? = some (.map (tents 0 vs).toArray vs.length)) (v : Value) : (Instr.mapUpdate 67 (.map (some M)) (.int .i64 ((vs.length : Int) + 1)) v).run Tryz.prog w = .ok () (setBlock w M (.map (tents 0 (vs ++ [v])).toArray (vs ++ [v]).length)) := by
 rw [updI_new und67 und3 h (by rw [List.toList_toArray]; exact tents_none vs 0 0 _ (Or.inr (by simp; omega))) v]
 rw [tents_snoc]
 simp
def wholeD (z : Int) : MD := ⟨⟨2, ⟨#[105, 110, 116]⟩, z, 0, ⟨#[]⟩, 0, 0, 0, 0, none, [], 0⟩, none, 0, []⟩
def zeroD : MD := ⟨⟨0, ⟨#[]⟩, 0, 0, ⟨#[]⟩, 0, 0, 0, 0, none, [], 0⟩, none, 0, []⟩
def leadD (k : Int) (t : ByteArray) (o f l c : Int) : MD := ⟨⟨k, t, 0, 0, ⟨#[]⟩, o, f, l, c, none, [], 0⟩, none, 0, []⟩
theorem heapNew_any (w : World) : Calls Tryz.prog 6 #[] w fun r w' => ∃ hb M, r = .returned (.pointer (some ⟨hb, 0, none⟩)) ∧ HeapAt w' hb M [] ∧ Below w.heap.size w w' ∧ w.heap.size ≤ hb ∧ w.heap.size ≤ M := by
 have hmm := @run_makeMap Tryz.prog
 go_enter Tryz.func6, Tryz.ntmps6
 go_wp2_with fail
 exact bodyPost_ret (v := .pointer (some ⟨w.heap.size + 1, 0, none⟩)) (by simp [results, Tryz.results6, go_sem]) rfl ⟨w.heap.size + 1, w.heap.size, rfl, ⟨heap2_1 _ _ _, by rw [Below.heap_alloc _ _ _ (by simp)]; exact heap_alloc_new _ _, by omega⟩, below2 _ _ _, by omega, Nat.le_refl _⟩
end Go.Proofs.YtdbijkgnddcneaaGreatDoor
