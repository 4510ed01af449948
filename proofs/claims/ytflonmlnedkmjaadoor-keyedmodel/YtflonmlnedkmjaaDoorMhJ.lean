/-
  Of, at any datum.
  Maps in memory: entries, their data, their ring, their chains.
  Entries that are written: what leads to what then.
-/
import Derived.Test.YtflonmlnedkmjaaDoorKb2
import Derived.Test.YtflonmlnedkmjaaDoorIJ
import Derived.Test.YtflonmlnedkmjaaDoorGf2J
import Derived.Test.YtflonmlnedkmjaaDoorPh2J
import Derived.Test.YtflonmlnedkmjaaDoorHd2J
namespace Go.Proofs.YtflonmlnedkmjaaDoor
open Go.RowKit
attribute [local go_sem] refold2 cell3_0 cell3_1 b28_0 b28_01

theorem sameH_all {h h' : Hd} {i i' : Nat} (e : sameH h h' i i' = true) : h'.k = h.k ∧ h'.t = h.t ∧ h'.n = h.n ∧ h'.f = h.f ∧ h'.s = h.s ∧ h'.r0 = h.r0 ∧ h'.r1 = h.r1 ∧ h'.r2 = h.r2 ∧ h'.r3 = h.r3 ∧ i' = i := by
  have := of_decide_eq_true e
  simp only [this, and_self]
theorem all2_full (n : Nat) (hI : ∀ x d : MD, MD.same n x d = true → MD.full n x = MD.full n d) : ∀ (xs ds : List MD), all2 (MD.same n) xs ds = true → xs.length = ds.length → xs.all (MD.full n) = ds.all (MD.full n)
  | [], [], _, _ => rfl
  | [], _ :: _, _, h => by simp at h
  | _ :: _, [], _, h => by simp at h
  | x :: xs, d :: ds, h, hl => by
    have h1 : (MD.same n x d && all2 (MD.same n) xs ds) = true := h
    rw [Bool.and_eq_true] at h1
    rw [List.all_cons, List.all_cons, hI x d h1.1, all2_full n hI xs ds h1.2 (by simpa using hl)]
theorem same_parts {n : Nat} {x d : MD} (h : MD.same (n + 1) x d = true) : d.h.k = x.h.k ∧ d.h.t = x.h.t ∧ d.h.n = x.h.n ∧ d.h.f = x.h.f ∧ d.h.s = x.h.s ∧ d.h.r0 = x.h.r0 ∧ d.h.r1 = x.h.r1 ∧ d.h.r2 = x.h.r2 ∧ d.h.r3 = x.h.r3 ∧ d.items.length = x.items.length ∧ d.h.path = x.h.path ∧ all2 (MD.same n) x.items d.items = true := by
  have h1 : (sameH x.h d.h x.items.length d.items.length && decide (x.h.path = d.h.path) && all2 (MD.same n) x.items d.items) = true := h
  rw [Bool.and_eq_true, Bool.and_eq_true] at h1
  have ep := of_decide_eq_true h1.1.2
  obtain ⟨e0, e1, e2, e3, e4, e5, e6, e7, e8, e9⟩ := sameH_all h1.1.1
  exact ⟨e0, e1, e2, e3, e4, e5, e6, e7, e8, e9, ep.symm, h1.2⟩
/-- What is the same is right alike. -/
theorem same_full : ∀ (n : Nat) (x d : MD), MD.same n x d = true → MD.full n x = MD.full n d
  | 0, _, _, _ => rfl
  | n + 1, x, d, h => by
    obtain ⟨e0, e1, e2, e3, e4, e5, e6, e7, e8, e9, ep, ea⟩ := same_parts h
    show (headOK x.h x.items.length && (x.h.k != 8 || (decide (x.items.length ≤ 30) && x.items.all (MD.full n)))) = (headOK d.h d.items.length && (d.h.k != 8 || (decide (d.items.length ≤ 30) && d.items.all (MD.full n))))
    rw [all2_full n (same_full n) _ _ ea e9.symm, e0, e9]
    have : headOK x.h x.items.length = headOK d.h x.items.length := by
      unfold headOK kindB
      rw [e0, e1, e2, e3, e4, e5, e6, e7, e8, ep]
    rw [this]
theorem all2_eqv (n : Nat) (hI : ∀ x d y e : MD, MD.same n x d = true → MD.same n y e = true → MD.eqv n x y = MD.eqv n d e) : ∀ (xs ds ys es : List MD), all2 (MD.same n) xs ds = true → xs.length = ds.length → all2 (MD.same n) ys es = true → ys.length = es.length → allEq (MD.eqv n) xs ys = allEq (MD.eqv n) ds es
  | [], [], _, _, _, _, _, _ => by simp [allEq]
  | [], _ :: _, _, _, _, h, _, _ => by simp at h
  | _ :: _, [], _, _, _, h, _, _ => by simp at h
  | _ :: _, _ :: _, [], [], _, _, _, _ => by simp [allEq]
  | _ :: _, _ :: _, [], _ :: _, _, _, _, h => by simp at h
  | _ :: _, _ :: _, _ :: _, [], _, _, _, h => by simp at h
  | x :: xs, d :: ds, y :: ys, e :: es, h, hl, h', hl' => by
    have h1 : (MD.same n x d && all2 (MD.same n) xs ds) = true := h
    have h2 : (MD.same n y e && all2 (MD.same n) ys es) = true := h'
    rw [Bool.and_eq_true] at h1 h2
    unfold allEq
    rw [hI x d y e h1.1 h2.1, all2_eqv n hI xs ds ys es h1.2 (by simpa using hl) h2.2 (by simpa using hl')]
theorem same_eqv : ∀ (n : Nat) (x d y e : MD), MD.same n x d = true → MD.same n y e = true → MD.eqv n x y = MD.eqv n d e
  | 0, _, _, _, _, _, _ => rfl
  | n + 1, x, d, y, e, h, h' => by
    obtain ⟨e0, e1, e2, e3, e4, e5, e6, e7, e8, e9, ep, ea⟩ := same_parts h
    obtain ⟨f0, f1, f2, f3, f4, f5, f6, f7, f8, f9, fp, fa⟩ := same_parts h'
    unfold MD.eqv
    rw [all2_eqv n (same_eqv n) _ _ _ _ ea e9.symm fa f9.symm, e0, e1, e2, e3, e4, e5, e9, ep, f0, f1, f2, f3, f4, f5, f9, fp]

theorem taN0 (w : World) : (Instr.typeAssert .nilIface 129 134 true).run Tryd.prog w = .ok (.tuple #[.agg #[.pointer none], .bool false]) w := by kernel_rfl
theorem taR8 (v : Value) (w : World) : (Instr.typeAssert (.iface 134 v) 129 134 true).run Tryd.prog w = .ok (.tuple #[v, .bool true]) w := by simp [Instr.typeAssert, go_sem]
attribute [local go_sem] taN0 taR8
end Go.Proofs.YtflonmlnedkmjaaDoor
namespace Go.Proofs.YtflonmlnedkmjaaDoor
open Go.RowKit
/-- A pointer to the beginning of a block, or none. -/
def pv (o : Option Nat) : Value := .pointer (o.map fun b => ⟨b, 0, none⟩)
theorem pv_none : pv none = .pointer none := rfl
theorem pv_some (b : Nat) : pv (some b) = .pointer (some ⟨b, 0, none⟩) := rfl

/-- The rows of a datum lie in blocks of ints and of data. -/
def Tg (w : World) : Nat → MD → Prop
  | 0, _ => False
  | n + 1, d => (d.h.path = [] ∨ ∃ g o cur, d.h.pp = some ⟨g, o, none⟩ ∧ w.heap[g]? = some (.cells cur 3 (0, 0))) ∧
      (d.items = [] ∨ ∃ g o cur, d.ip = some ⟨g, o, none⟩ ∧ w.heap[g]? = some (.cells cur 39 (0, 0)) ∧ ∀ (i : Nat) (hi : i < d.items.length), Tg w n d.items[i])

/-- Only blocks of S have changed. -/
structure KeepS (S : Nat → Prop) (w w' : World) : Prop where
  os : w'.os = w.os
  tape : w'.tape = w.tape
  output : w'.output = w.output
  size : w.heap.size ≤ w'.heap.size
  block : ∀ b, b < w.heap.size → ¬ S b → w'.heap[b]? = w.heap[b]?
theorem KeepS.refl (S : Nat → Prop) (w : World) : KeepS S w w := ⟨rfl, rfl, rfl, Nat.le_refl _, fun _ _ _ => rfl⟩
theorem KeepS.trans {S : Nat → Prop} {a b c : World} (h : KeepS S a b) (k : KeepS S b c) : KeepS S a c :=
  ⟨k.os.trans h.os, k.tape.trans h.tape, k.output.trans h.output, Nat.le_trans h.size k.size, fun i hi hs => (k.block i (Nat.lt_of_lt_of_le hi h.size) hs).trans (h.block i hi hs)⟩
theorem KeepS.mono {S S' : Nat → Prop} {w w' : World} (h : KeepS S w w') (hs : ∀ b, b < w.heap.size → S b → S' b) : KeepS S' w w' :=
  ⟨h.os, h.tape, h.output, h.size, fun b hb hn => h.block b hb fun hh => hn (hs b hb hh)⟩
theorem Below.keepS {w w' : World} (S : Nat → Prop) (h : Below w.heap.size w w') : KeepS S w w' := ⟨h.os, h.tape, h.output, h.size, fun b hb _ => h.block b hb⟩
theorem KeepS.set {S : Nat → Prop} {w a : World} (h : KeepS S w a) {g o : Nat} (v : Value) (hg : g < w.heap.size → S g) : KeepS S w (a.setCell ⟨g, o, none⟩ v) :=
  ⟨h.os, h.tape, h.output, by simpa using h.size, fun b hb hn => (heap_setCell_other a g o b v (fun e => by subst e; exact hn (hg hb))).trans (h.block b hb hn)⟩
theorem KeepS.below {S : Nat → Prop} {w a b : World} (h : KeepS S w a) (k : Below a.heap.size a b) : KeepS S w b := h.trans (Below.keepS S k)
theorem KeepS.out {w w' : World} {S : Nat → Prop} {B : Nat} (h : KeepS S w w') (hB : B ≤ w.heap.size) (hs : ∀ b, b < B → ¬ S b) : Below B w w' := ⟨h.os, h.tape, h.output, h.size, fun k hk => h.block k (by omega) (hs k hk)⟩

/-- A block of another kind than S's is kept. -/
theorem KeepS.cells {S : Nat → Prop} {w w' : World} (h : KeepS S w w') {g : Nat} {c : Array Value} {t : TypeId} (hg : w.heap[g]? = some (.cells c t (0, 0))) (hs : ¬ S g) : w'.heap[g]? = some (.cells c t (0, 0)) :=
  (h.block g (row_ltT hg) hs).trans hg

theorem Tg.keep {S : Nat → Prop} {w w' : World} (h : KeepS S w w') (hs : ∀ g c t, (t = 3 ∨ t = 39) → w.heap[g]? = some (.cells c t (0, 0)) → ¬ S g) : ∀ (n : Nat) (d : MD), Tg w n d → Tg w' n d
  | 0, _, hh => hh
  | n + 1, d, ⟨p, q⟩ => by
    refine ⟨?_, ?_⟩
    · rcases p with e | ⟨g, o, cur, e1, e2⟩
      · exact .inl e
      · exact .inr ⟨g, o, cur, e1, h.cells e2 (hs g cur 3 (.inl rfl) e2)⟩
    · rcases q with e | ⟨g, o, cur, e1, e2, e3⟩
      · exact .inl e
      · exact .inr ⟨g, o, cur, e1, h.cells e2 (hs g cur 39 (.inr rfl) e2), fun i hi => Tg.keep h hs n _ (e3 i hi)⟩
theorem MD.In.keep {S : Nat → Prop} {w w' : World} (h : KeepS S w w') (hs : ∀ g c t, (t = 3 ∨ t = 39) → w.heap[g]? = some (.cells c t (0, 0)) → ¬ S g) : ∀ (n : Nat) (d : MD), Tg w n d → MD.In w.heap.size w n d → MD.In w'.heap.size w' n d
  | 0, _, hh, _ => hh.elim
  | n + 1, d, ⟨p, q⟩, ⟨i1, i2, i3, i4, i5⟩ => by
    have hk : ∀ g o c t v, (t = 3 ∨ t = 39) → w.heap[g]? = some (.cells c t (0, 0)) → w.cell? ⟨g, o, none⟩ = v → w'.cell? ⟨g, o, none⟩ = v := fun g o c t v ht hg hv => (World.cell?_of_block (a := ⟨g, o, none⟩) (h.block g (row_ltT hg) (hs g c t ht hg))).trans hv
    refine ⟨i1, ⟨i2.1, ?_⟩, i3, i4, ?_⟩
    · rcases i2.2 with e | ⟨b, o, e1, e2, e3⟩
      · exact .inl e
      · rcases p with e | ⟨g, o', cur, f1, f2⟩
        · exact .inl e
        · rw [f1] at e1
          obtain ⟨rfl, rfl⟩ : g = b ∧ o' = o := by simpa using e1
          exact .inr ⟨g, o', f1, Nat.lt_of_lt_of_le e2 h.size, fun i hi => hk g _ cur 3 _ (.inl rfl) f2 (e3 i hi)⟩
    · rcases i5 with e | ⟨b, o, e1, e2, e3⟩
      · exact .inl e
      · rcases q with e | ⟨g, o', cur, f1, f2, f3⟩
        · exact .inl e
        · rw [f1] at e1
          obtain ⟨rfl, rfl⟩ : g = b ∧ o' = o := by simpa using e1
          exact .inr ⟨g, o', f1, Nat.lt_of_lt_of_le e2 h.size, fun i hi => ⟨fun j hj => hk g _ cur 39 _ (.inr rfl) f2 ((e3 i hi).1 j hj), MD.In.keep h hs n _ (f3 i hi) (e3 i hi).2⟩⟩

/-- What Good says of a datum it says of any that has the same rows. -/
theorem Good.like {lo hi : Nat} {w : World} : ∀ (n : Nat) (d e : MD), e.h.pp = d.h.pp → e.h.path.length = d.h.path.length → e.h.pc = d.h.pc → e.ip = d.ip → e.items.length = d.items.length → e.ic = d.ic → Good lo hi w n d → Good lo hi w n e
  | 0, _, _, _, _, _, _, _, _, h => h
  | n + 1, d, e, h1, h2, h3, h4, h5, h6, ⟨a, b, p, q⟩ => by
    rw [← h2, ← h3] at a
    rw [← h5, ← h6] at b
    rw [← h1, ← h2] at p
    rw [← h4, ← h5] at q
    exact ⟨a, b, p, q⟩
theorem Good.tg {lo hi : Nat} {w : World} : ∀ (n : Nat) (d : MD), Good lo hi w n d → MD.In w.heap.size w n d → Tg w n d
  | 0, _, h, _ => h
  | n + 1, d, ⟨a, b, p, q⟩, ⟨i1, i2, i3, i4, i5⟩ => by
    refine ⟨?_, ?_⟩
    · rcases p with e | ⟨g, cur, e1, _, _, e4, _⟩
      · exact .inl (List.eq_nil_of_length_eq_zero e)
      · exact .inr ⟨g, 0, cur, e1, e4⟩
    · rcases q with e | ⟨g, cur, e1, _, _, e4, _, e6⟩
      · exact .inl (List.eq_nil_of_length_eq_zero e)
      · refine .inr ⟨g, 0, cur, e1, e4, fun i hi => ?_⟩
        rcases i5 with e | ⟨b', o, f1, _, f3⟩
        · rw [e] at hi; simp at hi
        · rw [e1] at f1
          obtain ⟨rfl, rfl⟩ : g = b' ∧ 0 = o := by simpa using f1
          obtain ⟨x, hx, hg⟩ := e6 i hi
          have hc := (f3 i hi).1
          have h9 : x.cells[9]? = d.items[i].cells[9]? := by
            have h1 := hx 9 (by omega)
            have h2 := hc 9 (by omega)
            rw [Nat.zero_add] at h2
            exact h1.symm.trans h2
          have h10 : x.cells[10]? = d.items[i].cells[10]? := by
            have h1 := hx 10 (by omega)
            have h2 := hc 10 (by omega)
            rw [Nat.zero_add] at h2
            exact h1.symm.trans h2
          simp [MD.cells] at h9 h10
          exact Good.tg n _ (Good.like n x _ h9.1.symm h9.2.1.symm h9.2.2.symm h10.1.symm h10.2.1.symm h10.2.2.symm hg) (f3 i hi).2

/-- A datum in a block of its own, which nobody writes. -/
structure Box (w : World) (n b : Nat) (d : MD) : Prop where
  cells : w.heap[b]? = some (.cells d.cells 39 (0, 0))
  inn : MD.In w.heap.size w n d
  tg : Tg w n d
theorem Box.keep {S : Nat → Prop} {w w' : World} {n b : Nat} {d : MD} (h : Box w n b d) (k : KeepS S w w') (hs : ∀ g c t, (t = 3 ∨ t = 39) → w.heap[g]? = some (.cells c t (0, 0)) → ¬ S g) : Box w' n b d :=
  ⟨k.cells h.cells (hs b _ _ (.inr rfl) h.cells), MD.In.keep k hs n d h.tg h.inn, Tg.keep k hs n d h.tg⟩

/-- An entry: its block, those of its key and of what lies under it; these; its number. -/
structure Ent where
  b : Nat
  kb : Nat
  vb : Nat
  k : MD
  v : MD
  h : Int
def EntAt (w : World) (b : Nat) (kp vp : Value) (h : Int) (nx : Option Nat) (bf bh : Nat) (g : Bool) : Prop :=
  w.heap[b]? = some (.cells #[kp, vp, .int .u64 h, pv nx, .pointer (some ⟨bf, 0, none⟩), .pointer (some ⟨bh, 0, none⟩), .bool g] 62 (0, 0))

/-- Where a map's things lie, and how they lead to one another. -/
structure KG where
  hb : Nat
  rb : Nat
  L : Nat
  cap : Nat
  nx : Nat → Option Nat
  hd : Nat → Option Nat
  bf : Nat → Nat
  bh : Nat → Nat
  ch : Nat → List Nat

/-- The first number of a hash. -/
abbrev seed : Int := 14695981039346656037
def KeyOK (n : Nat) (e : Ent) : Prop := MD.right n e.k = true ∧ (MD.eqv n e.k e.k).2 = ⟨#[]⟩ ∧ e.h = MD.hash n seed e.k ∧ (0 ≤ e.h ∧ e.h < 18446744073709551616) ∧ MD.right n e.v = true

/-- A map lies at m, with these entries. -/
structure KM (n : Nat) (w : World) (m : Nat) (es : List Ent) (G : KG) : Prop where
  map : w.heap[m]? = some (.cells #[.slice (some ⟨G.hb, 0, none⟩) G.L G.cap, .pointer (some ⟨G.rb, 0, none⟩), .int .i64 es.length] 65 (0, 0))
  L1 : 1 ≤ G.L
  Lc : G.L ≤ G.cap
  Lm : G.L ≤ 1099511627776
  capm : G.cap ≤ maxLen
  heads : ∃ cur, w.heap[G.hb]? = some (.cells cur 112 (0, 0)) ∧ cur.size = 8 * G.cap ∧ ∀ i, i < 8 * G.L → cur[i]? = some (pv (G.hd i))
  ring : EntAt w G.rb (.pointer none) (.pointer none) 0 none (G.bf G.rb) (G.bh G.rb) false
  ent : ∀ e ∈ es, EntAt w e.b (.pointer (some ⟨e.kb, 0, none⟩)) (.pointer (some ⟨e.vb, 0, none⟩)) e.h (G.nx e.b) (G.bf e.b) (G.bh e.b) false
  box : ∀ e ∈ es, Box w n e.kb e.k ∧ Box w n e.vb e.v
  adj : Adj G.bf G.bh (G.rb :: es.map Ent.b ++ [G.rb])
  nod : (G.rb :: es.map Ent.b).Nodup
  chain : ∀ i, i < 8 * G.L → Lk G.nx (G.hd i) (G.ch i) ∧ (G.ch i).Nodup ∧ ∀ b, b ∈ G.ch i ↔ ∃ e ∈ es, e.b = b ∧ e.h % (8 * G.L : Nat) = (i : Int)
  fit : es.length ≤ 8 * G.L
  key : ∀ e ∈ es, KeyOK n e
  apart : es.Pairwise fun a b => (MD.eqv n a.k b.k).1 = false

/-- The blocks that a map writes. -/
def KM.own (m : Nat) (es : List Ent) (G : KG) (b : Nat) : Prop := b = m ∨ b = G.hb ∨ b = G.rb ∨ b ∈ es.map Ent.b
theorem KM.tag {n : Nat} {w : World} {m : Nat} {es : List Ent} {G : KG} (h : KM n w m es G) {b : Nat} (hb : KM.own m es G b) : ∃ c t, w.heap[b]? = some (.cells c t (0, 0)) ∧ (t = 65 ∨ t = 112 ∨ t = 62) := by
  rcases hb with rfl | rfl | rfl | hb
  · exact ⟨_, _, h.map, .inl rfl⟩
  · obtain ⟨cur, h1, _⟩ := h.heads
    exact ⟨_, _, h1, .inr (.inl rfl)⟩
  · exact ⟨_, _, h.ring, .inr (.inr rfl)⟩
  · obtain ⟨e, he, rfl⟩ := List.mem_map.1 hb
    exact ⟨_, _, h.ent e he, .inr (.inr rfl)⟩
theorem KM.data {n : Nat} {w : World} {m : Nat} {es : List Ent} {G : KG} (h : KM n w m es G) : ∀ g c t, (t = 3 ∨ t = 39) → w.heap[g]? = some (.cells c t (0, 0)) → ¬ KM.own m es G g := fun g c t ht hg ho => by
  obtain ⟨c', t', h1, h2⟩ := h.tag ho
  rw [hg] at h1
  injection h1 with h1
  injection h1 with _ h1
  subst h1
  rcases ht with rfl | rfl <;> rcases h2 with h2 | h2 | h2 <;> exact absurd h2 (by decide)
/-- What is no block of its own may change. -/
theorem KM.keep {n : Nat} {w w' : World} {m : Nat} {es : List Ent} {G : KG} (h : KM n w m es G) (k : Below w.heap.size w w') : KM n w' m es G := by
  have kk : KeepS (fun _ => False) w w' := Below.keepS _ k
  have hs : ∀ (g : Nat) (c : Array Value) (t : TypeId), (t = 3 ∨ t = 39) → w.heap[g]? = some (.cells c t (0, 0)) → ¬ (fun _ : Nat => False) g := fun _ _ _ _ _ h => h
  refine ⟨kk.cells h.map (fun h => h), h.L1, h.Lc, h.Lm, h.capm, ?_, kk.cells h.ring (fun h => h), fun e he => kk.cells (h.ent e he) (fun h => h), fun e he => ⟨(h.box e he).1.keep kk hs, (h.box e he).2.keep kk hs⟩, h.adj, h.nod, h.chain, h.fit, h.key, h.apart⟩
  obtain ⟨cur, h1, h2, h3⟩ := h.heads
  exact ⟨cur, kk.cells h1 (fun h => h), h2, h3⟩
end Go.Proofs.YtflonmlnedkmjaaDoor
namespace Go.Proofs.YtflonmlnedkmjaaDoor
open Go.RowKit
theorem EntAt.cell {w : World} {b : Nat} {kp vp : Value} {h : Int} {nx : Option Nat} {bf bh : Nat} {g : Bool} (he : EntAt w b kp vp h nx bf bh g) (j : Nat) : w.cell? ⟨b, j, none⟩ = (#[kp, vp, .int .u64 h, pv nx, .pointer (some ⟨bf, 0, none⟩), .pointer (some ⟨bh, 0, none⟩), .bool g] : Array Value)[j]? := row_at he j
theorem EntAt.other {w : World} {b : Nat} {kp vp : Value} {h : Int} {nx : Option Nat} {bf bh : Nat} {g : Bool} (he : EntAt w b kp vp h nx bf bh g) {x o : Nat} (v : Value) (hx : b ≠ x) : EntAt (w.setCell ⟨x, o, none⟩ v) b kp vp h nx bf bh g := (heap_setCell_other w x o b v hx).trans he
theorem EntAt.up3 {w : World} {b : Nat} {kp vp : Value} {h : Int} {nx : Nat → Option Nat} {bf bh : Nat} {g : Bool} (he : EntAt w b kp vp h (nx b) bf bh g) (x : Nat) (o : Option Nat) : EntAt (w.setCell ⟨x, 3, none⟩ (pv o)) b kp vp h (up nx x o b) bf bh g := by
  by_cases hx : b = x
  · subst hx
    rw [up_at]
    exact row_set he 3 _
  · rw [up_ne _ _ hx]
    exact he.other _ hx
theorem EntAt.up4 {w : World} {b : Nat} {kp vp : Value} {h : Int} {nx : Option Nat} {bf : Nat → Nat} {bh : Nat} {g : Bool} (he : EntAt w b kp vp h nx (bf b) bh g) (x y : Nat) : EntAt (w.setCell ⟨x, 4, none⟩ (.pointer (some ⟨y, 0, none⟩))) b kp vp h nx (up bf x y b) bh g := by
  by_cases hx : b = x
  · subst hx
    rw [up_at]
    exact row_set he 4 _
  · rw [up_ne _ _ hx]
    exact he.other _ hx
theorem EntAt.up5 {w : World} {b : Nat} {kp vp : Value} {h : Int} {nx : Option Nat} {bf : Nat} {bh : Nat → Nat} {g : Bool} (he : EntAt w b kp vp h nx bf (bh b) g) (x y : Nat) : EntAt (w.setCell ⟨x, 5, none⟩ (.pointer (some ⟨y, 0, none⟩))) b kp vp h nx bf (up bh x y b) g := by
  by_cases hx : b = x
  · subst hx
    rw [up_at]
    exact row_set he 5 _
  · rw [up_ne _ _ hx]
    exact he.other _ hx
theorem EntAt.ne {w : World} {b x : Nat} {kp vp : Value} {h : Int} {nx : Option Nat} {bf bh : Nat} {g : Bool} (he : EntAt w b kp vp h nx bf bh g) {c : Array Value} {t : TypeId} (hx : w.heap[x]? = some (.cells c t (0, 0))) (ht : t ≠ 62) : b ≠ x := fun e => by
  subst e
  unfold EntAt at he
  rw [he] at hx
  injection hx with hx
  injection hx with _ hx
  exact ht hx.symm
/-- Two blocks of unlike kinds are two. -/
theorem tag_ne {w : World} {b x : Nat} {c d : Array Value} {s t : TypeId} (hb : w.heap[b]? = some (.cells c s (0, 0))) (hx : w.heap[x]? = some (.cells d t (0, 0))) (ht : s ≠ t) : b ≠ x := fun e => by
  subst e
  rw [hb] at hx
  injection hx with hx
  injection hx with _ hx
  exact ht hx

/-- What an entry stands between. -/
theorem ring_split {bf bh : Nat → Nat} {rb : Nat} {l : List Nat} (h : Adj bf bh (rb :: l ++ [rb])) : ∃ l1, rb :: l ++ [rb] = l1 ++ [bf rb, rb] := by
  rcases List.eq_nil_or_concat l with rfl | ⟨l0, x, rfl⟩
  · exact ⟨[], by simp [Adj] at h ⊢; exact h.2.symm⟩
  · refine ⟨rb :: l0, ?_⟩
    have e : rb :: (l0 ++ [x]) ++ [rb] = (rb :: l0) ++ x :: [rb] := by simp
    rw [List.concat_eq_append] at h ⊢
    rw [e] at h ⊢
    have h2 := ((Adj.app (rb :: l0)).1 h).2
    simp [Adj] at h2
    rw [h2.2]
theorem ring_ends {rb : Nat} {l : List Nat} (h : (rb :: l).Nodup) : (rb :: l ++ [rb]).dropLast.Nodup ∧ (rb :: l ++ [rb]).tail.Nodup := by
  refine ⟨by rw [List.dropLast_append_of_ne_nil (by simp)]; simpa using h, ?_⟩
  show (l ++ [rb]).Nodup
  rw [List.nodup_cons] at h
  rw [List.nodup_append]
  refine ⟨h.2, by simp, ?_⟩
  intro a ha b hb
  simp at hb
  subst hb
  intro e
  subst e
  exact h.1 ha
end Go.Proofs.YtflonmlnedkmjaaDoor
