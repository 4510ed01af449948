/-
  What a printer has written, and the walks of (*printer).isFull and put.
  The walks of level, and of part and bracketed out of plain's.
  The walk of plain at names, sums and products.
  The walks of expression, own and Print at sums and products.
-/
import Derived.Test.YthbnegggohegkaaGreatDoorRi
import Derived.Test.YthbnegggohegkaaGreatDoorFr
import Derived.Lib.AppendStr
import Derived.Deep.RegionHeld3
namespace Go.Proofs.YthbnegggohegkaaGreatDoor
open Go.RowKit

/-- What a printer's calls leave as it was: all below base but the printer's own block; and of the rest whatever is no row of bytes. -/
structure PK (pb base : Nat) (w w' : World) : Prop where
  os : w'.os = w.os
  tape : w'.tape = w.tape
  output : w'.output = w.output
  size : w.heap.size ≤ w'.heap.size
  low : ∀ k, k < base → k ≠ pb → w'.heap[k]? = w.heap[k]?
  high : ∀ k cs t fr, k ≠ pb → w.heap[k]? = some (.cells cs t fr) → t ≠ 5 → w'.heap[k]? = some (.cells cs t fr)

theorem PK.refl (pb base : Nat) (w : World) : PK pb base w w := ⟨rfl, rfl, rfl, Nat.le_refl _, fun _ _ _ => rfl, fun _ _ _ _ _ h _ => h⟩
theorem PK.trans {pb base : Nat} {A B C : World} (h : PK pb base A B) (k : PK pb base B C) : PK pb base A C :=
  ⟨k.os.trans h.os, k.tape.trans h.tape, k.output.trans h.output, Nat.le_trans h.size k.size, fun i hi hp => (k.low i hi hp).trans (h.low i hi hp), fun i cs t fr hp hi ht => k.high i cs t fr hp (h.high i cs t fr hp hi ht) ht⟩
theorem PK.of {pb base : Nat} {w w' : World} (hb : Below w.heap.size w w') (hB : base ≤ w.heap.size) : PK pb base w w' :=
  ⟨hb.os, hb.tape, hb.output, hb.size, fun k hk _ => hb.block k (by omega), fun k cs t fr _ h _ => (hb.block k (Array.getElem?_eq_some_iff.1 h).1).trans h⟩
theorem PK.set (pb base : Nat) (w : World) (o : Nat) (v : Value) : PK pb base w (w.setCell ⟨pb, o, none⟩ v) :=
  ⟨rfl, rfl, rfl, by simp, fun k _ hk => Below.heap_setCell w ⟨pb, o, none⟩ v k hk, fun k cs t fr hk h _ => (Below.heap_setCell w ⟨pb, o, none⟩ v k hk).trans h⟩
theorem PK.grown {pb base n : Nat} {w w' : World} {v : Value} {xs : List Value} (hown : w.ownsRow base 5 1 v n xs) (hg : w.grownBy w' v.ownBlock) (hB : base ≤ w.heap.size) : PK pb base w w' :=
  ⟨hg.os, hg.tape, hg.output, hg.size, fun k hk _ => hg.block k (by omega) (fun e => by have := (hown.lt k e.symm).1; omega),
   fun k cs t fr _ h ht => (hg.block k (Array.getElem?_eq_some_iff.1 h).1 (fun e => by
     rcases hown.2 with ⟨rfl, _⟩ | ⟨g, cap, cur, rfl, _, hgg, _⟩
     · cases e
     · cases e; rw [hgg] at h; cases h; exact ht rfl)).trans h⟩
theorem PK.below {pb base B : Nat} {w w' : World} (h : PK pb base w w') (hB : B ≤ base) (hp : B ≤ pb) : Below B w w' :=
  ⟨h.os, h.tape, h.output, h.size, fun k hk => h.low k (by omega) (by omega)⟩

/-- What a printer holds: the bytes that were written. -/
structure Pr (pb base : Nat) (bs : List UInt8) (bare : Bool) (v : Value) (w : World) : Prop where
  row : w.heap[pb]? = some (.cells #[v, .int .i64 0, .bool bare] 84 (0, 0))
  own : w.ownsRow base 5 1 v bs.length (Lib.byteCells bs)

theorem Pr.cell {pb base : Nat} {bs : List UInt8} {bare : Bool} {v : Value} {w : World} (h : Pr pb base bs bare v w) : w.cell? ⟨pb, 0, none⟩ = some v := by simp [World.cell?, h.row]
theorem Pr.bare {pb base : Nat} {bs : List UInt8} {bare : Bool} {v : Value} {w : World} (h : Pr pb base bs bare v w) : w.cell? ⟨pb, 2, none⟩ = some (.bool bare) := by simp [World.cell?, h.row]
theorem Pr.frozen {pb base : Nat} {bs : List UInt8} {bare : Bool} {v : Value} {w : World} (h : Pr pb base bs bare v w) (o : Nat) : w.frozen? ⟨pb, o, none⟩ = false := by simp [World.frozen?, h.row]
theorem Pr.below {pb base : Nat} {bs : List UInt8} {bare : Bool} {v : Value} {w w' : World} (h : Pr pb base bs bare v w) (hb : Below w.heap.size w w') : Pr pb base bs bare v w' := by
  refine ⟨(hb.block pb (Array.getElem?_eq_some_iff.1 h.row).1).trans h.row, h.own.1, ?_⟩
  rcases h.own.2 with hn | ⟨g, cap, cur, rfl, hg, hgg, rest⟩
  · exact .inl hn
  · exact .inr ⟨g, cap, cur, rfl, hg, (hb.block g (Array.getElem?_eq_some_iff.1 hgg).1).trans hgg, rest⟩
theorem Pr.form {pb base : Nat} {bs : List UInt8} {bare : Bool} {v : Value} {w : World} (h : Pr pb base bs bare v w) : ∃ p cap, v = .slice p bs.length cap := by
  rcases h.own.2 with ⟨h', h0⟩ | ⟨g, cap, cur, hv, _⟩
  · exact ⟨none, 0, by rw [h', h0]⟩
  · exact ⟨_, _, hv⟩

set_option maxHeartbeats 400000 in
theorem isFull_any (pb base : Nat) (bs : List UInt8) (bare : Bool) (v : Value) (w : World) (hP : Pr pb base bs bare v w) (hl : bs.length ≤ 60000) :
    Calls Tryz.prog 42 #[.pointer (some ⟨pb, 0, none⟩)] w fun e w' => e = .returned (.bool false) ∧ w' = w := by
  obtain ⟨p, cap, rfl⟩ := hP.form
  have hc := hP.cell
  go_enter Tryz.func42, Tryz.ntmps42
  go_wp2
  go_ret
  exact ⟨congrArg (fun b => Ending.returned (.bool b)) (by simp; omega), rfl⟩

theorem ownsRow_slice {w : World} {base : Nat} {e : TypeId} {size : Nat} {v : Value} {n : Nat} {xs : List Value} (h : w.ownsRow base e size v n xs) : ∃ p cap, v = .slice p n cap := by
  rcases h.2 with ⟨h', h0⟩ | ⟨g, cap, cur, hv, _⟩
  · exact ⟨none, 0, by rw [h', h0]⟩
  · exact ⟨_, _, hv⟩

theorem grownBy_set' (w : World) (g o : Nat) (v : Value) : w.grownBy (w.setCell ⟨g, o, none⟩ v) (some g) :=
  ⟨rfl, rfl, rfl, by simp, fun k _ hk => Below.heap_setCell w ⟨g, o, none⟩ v k (fun e => hk (by rw [e]))⟩
theorem byteCells_app (a b : List UInt8) : Lib.byteCells (a ++ b) = Lib.byteCells a ++ Lib.byteCells b := by simp [Lib.byteCells]

def joinAll (ss : List ByteArray) : List UInt8 := ss.flatMap fun s => s.data.toList
theorem joinAll_snoc (ss : List ByteArray) (j : Nat) (hj : j < ss.length) : joinAll (ss.take (j + 1)) = joinAll (ss.take j) ++ ss[j].data.toList := by
  rw [List.take_succ_eq_append_getElem hj]; simp only [joinAll, List.flatMap_append, List.flatMap_cons, List.flatMap_nil, List.append_nil]
theorem joinAll_take_le (ss : List ByteArray) (j : Nat) : (joinAll (ss.take j)).length ≤ (joinAll ss).length := by
  have : joinAll ss = joinAll (ss.take j) ++ joinAll (ss.drop j) := by rw [joinAll, joinAll, joinAll, ← List.flatMap_append, List.take_append_drop]
  rw [this, List.length_append]; omega

set_option maxRecDepth 100000 in
set_option maxHeartbeats 2000000 in
theorem put_any (pb base b : Nat) (ss : List ByteArray) (bs : List UInt8) (bare : Bool) (v : Value) (w : World) (hP : Pr pb base bs bare v w) (hpb : pb < base) (hB : base ≤ w.heap.size) (hbb : base ≤ b)
    (hrow : w.heap[b]? = some (.cells (ss.map Value.string).toArray 9 (0, 0))) (hl : bs.length + (joinAll ss).length ≤ 60000) (hk : ss.length ≤ 1000) :
    Calls Tryz.prog 96 #[.pointer (some ⟨pb, 0, none⟩), .slice (some ⟨b, 0, none⟩) ss.length ss.length] w fun e w' => (∃ u, e = .returned u) ∧ ∃ v', Pr pb base (bs ++ joinAll ss) bare v' w' ∧ PK pb base w w' := by
  obtain ⟨i0, hi, hz0, hz1, hz2⟩ := info_parts info5
  go_enter Tryz.func96, Tryz.ntmps96
  go_wp2_with fail
  go_loopg [8] ss.length (fun gk i wr => ∃ (j : Nat) (v : Value), gk + j = ss.length ∧ i = .int .i64 j ∧ Pr pb base (bs ++ joinAll (ss.take j)) bare v wr ∧ PK pb base w wr)
  case atStart => exact ⟨0, v, rfl, rfl, by simpa [joinAll] using hP, PK.refl _ _ _⟩
  case round =>
    obtain ⟨j, v, hj, rfl, hP', hK⟩ := hrel
    by_cases hlt : j < ss.length
    · have hrow' := hK.high b _ 9 _ (by omega) hrow (by decide)
      have hs : wr.cell? ⟨b, j, none⟩ = some (.string ss[j]) := by simp [World.cell?, hrow', hlt]
      have hjn := joinAll_snoc ss j hlt
      have hle := joinAll_take_le ss (j + 1)
      rw [hjn, List.length_append] at hle
      have HJ : Hid (joinAll (ss.take (j + 1)) = joinAll (ss.take j) ++ ss[j].data.toList) := hjn
      have hsz : ss[j].data.toList.length = ss[j].size := by simp
      rw [hsz] at hle
      clear hsz
      generalize ss[j] = s at hs HJ hle
      obtain ⟨X, hX⟩ : ∃ X, X = bs ++ joinAll (ss.take j) := ⟨_, rfl⟩
      rw [← hX] at hP'
      have hXl : X.length = bs.length + (joinAll (ss.take j)).length := by rw [hX, List.length_append]
      have hlen : X.length ≤ 60000 := by omega
      have hl2 : X.length + s.size ≤ 60000 := by omega
      have HX : Hid (X = bs ++ joinAll (ss.take j)) := hX
      clear hX hXl
      obtain ⟨p, cap, rfl⟩ := hP'.form
      have hc := hP'.cell
      have hfz := hP'.frozen 0
      have hbz := hK.size
      have hown := hP'.own
      have HP : Hid (Pr pb base X bare (.slice p X.length cap) wr) := hP'
      have HG : Hid (gk + j = ss.length) := hj
      clear hjn hj hrow' hP'
      go_wp2_with (first
        | (go_at_call 42; refine (isFull_any pb base _ bare _ _ HP.out hlen).mono ?_; rintro e w1 ⟨rfl, rfl⟩)
        | (at_builtin; refine Lib.wpList_append_own_string _ rfl _ _ 82 9 rfl base 5 i0 Tryz.underlying82 Tryz.underlying9 hi hz0 hz1 hz2 _ _ _ rfl hown s rfl (by unfold maxLen; omega) (by omega) (by omega) ?_; intro v' w3 hown3 hgr3 _
           have hK3 : PK pb base _ w3 := PK.grown hown hgr3 (by omega)
           have hrow3 : w3.heap[pb]? = some (.cells #[.slice p X.length cap, .int .i64 0, .bool bare] 84 (0, 0)) := (hgr3.block pb (by omega) (fun e => by have := (hown.lt pb e.symm).1; omega)).trans HP.out.row
           have hc3 : w3.cell? ⟨pb, 0, none⟩ = some (.slice p X.length cap) := by simp [World.cell?, hrow3]
           have hf3 : w3.frozen? ⟨pb, 0, none⟩ = false := by simp [World.frozen?, hrow3]
           have HR3 : Hid (w3.heap[pb]? = some (.cells #[.slice p X.length cap, .int .i64 0, .bool bare] 84 (0, 0))) := hrow3
           have HO3 : Hid (w3.ownsRow base 5 1 v' (X.length + s.size) (Lib.byteCells X ++ Lib.strCells s)) := hown3
           obtain ⟨p', cap', rfl⟩ := ownsRow_slice hown3
           clear hrow3 hown3 hgr3))
      go_roundg (ss.length - (j + 1))
      case measure => have := HG.out; omega
      case rel =>
        refine ⟨j + 1, _, by omega, by go_num, ⟨heap_set HR3.out 0 _, ?_⟩, (hK.trans hK3).trans (PK.set pb base w3 0 _)⟩
        have h1 := HO3.out.kept (grownBy_set' w3 pb 0 (.slice p' (X.length + s.size) cap')) (.inr (fun e => by have := (HO3.out.lt pb e).1; omega))
        rw [HJ.out, ← List.append_assoc, ← HX.out, List.length_append, byteCells_app]
        simpa [Lib.strCells, Lib.byteCells] using h1
    · have hjl : j = ss.length := by omega
      subst hjl
      rw [List.take_length] at hP'
      go_wp2_with fail
      go_end0
      exact ⟨⟨_, rfl⟩, v, hP', hK⟩
end Go.Proofs.YthbnegggohegkaaGreatDoor
namespace Go.Proofs.YthbnegggohegkaaGreatDoor
open Go.RowKit

/-- How close an expression's parts hold together. -/
def lev (t : MT) : Int := if t.kind = 51 then (if t.text = ⟨#[43]⟩ then 4 else 5) else 7

set_option maxRecDepth 100000 in
set_option maxHeartbeats 1000000 in
theorem level_sim (t : MT) (h : Sim t) (w : World) : Calls Tryz.prog 147 #[nodeV t] w fun e w' => e = .returned (.int .i64 (lev t)) ∧ Below w.heap.size w w' := by
  cases h with
  | name s a p c hs =>
    have e1 : lev (MT.node 14 s 0 a p c []) = 7 := rfl
    rw [e1]
    simp only [nodeV, MT.kind_node, MT.text_node, MT.num_node, MT.at_node, MT.ptr_node, MT.cap_node, MT.kids_node]
    go_enter Tryz.func147, Tryz.ntmps147
    go_wp2
    go_ret
    exact ⟨rfl, below1 _ _⟩
  | bin s a p c x y hs hx hy =>
    rcases hs with rfl | rfl
    · have e1 : lev (MT.node 51 ⟨#[43]⟩ 0 a p c [x, y]) = 4 := by simp [lev, MT.kind_node, MT.text_node]
      rw [e1]
      simp only [nodeV, MT.kind_node, MT.text_node, MT.num_node, MT.at_node, MT.ptr_node, MT.cap_node, MT.kids_node]
      go_enter Tryz.func147, Tryz.ntmps147
      go_wp2
      go_ret
      exact ⟨rfl, below1 _ _⟩
    · have e1 : lev (MT.node 51 ⟨#[42]⟩ 0 a p c [x, y]) = 5 := by simp [lev, MT.kind_node, MT.text_node]
      rw [e1]
      simp only [nodeV, MT.kind_node, MT.text_node, MT.num_node, MT.at_node, MT.ptr_node, MT.cap_node, MT.kids_node]
      go_enter Tryz.func147, Tryz.ntmps147
      go_wp2
      go_ret
      exact ⟨rfl, below1 _ _⟩

/-- What plain does at a tree. -/
def Plain (pb base : Nat) (t : MT) (out : List UInt8) : Prop :=
  ∀ (bs : List UInt8) (v : Value) (w : World), Pr pb base bs false v w → base ≤ w.heap.size → t.In pb w → bs.length + out.length ≤ 50000 →
    Calls Tryz.prog 132 #[.pointer (some ⟨pb, 0, none⟩), nodeV t] w fun e w' => (∃ u, e = .returned u) ∧ ∃ v', Pr pb base (bs ++ out) false v' w' ∧ PK pb base w w'

/-- A pointer in a box, and a node in one. -/
structure Two (pb bp bn : Nat) (t : MT) (w : World) : Prop where
  p : w.heap[bp]? = some (.cells #[.pointer (some ⟨pb, 0, none⟩)] 114 (0, 0))
  n : w.heap[bn]? = some (.cells #[.int .i64 t.kind, .string t.text, .int .i64 t.num, .int .i64 t.at_, .slice t.ptr t.kids.length t.cap] 24 (0, 0))

theorem Two.keep {pb base bp bn : Nat} {t : MT} {w w' : World} (h : Two pb bp bn t w) (hk : PK pb base w w') (hp : bp ≠ pb) (hn : bn ≠ pb) : Two pb bp bn t w' :=
  ⟨hk.high bp _ _ _ hp h.p (by decide), hk.high bn _ _ _ hn h.n (by decide)⟩
theorem Two.cp {pb bp bn : Nat} {t : MT} {w : World} (h : Two pb bp bn t w) : w.cell? ⟨bp, 0, none⟩ = some (.pointer (some ⟨pb, 0, none⟩)) := by simp [World.cell?, h.p]
theorem Two.cn {pb bp bn : Nat} {t : MT} {w : World} (h : Two pb bp bn t w) : BoxAt w bn t := ⟨by simp [World.cell?, h.n], by simp [World.cell?, h.n], by simp [World.cell?, h.n], by simp [World.cell?, h.n], by simp [World.cell?, h.n]⟩

set_option maxHeartbeats 1000000 in
theorem part1_any (pb base bp bn : Nat) (t : MT) (out bs : List UInt8) (HPl : Plain pb base t out) (v : Value) (w : World) (hP : Pr pb base bs false v w) (hB : base ≤ w.heap.size) (hin : t.In pb w) (hl : bs.length + out.length ≤ 50000) (h2 : Two pb bp bn t w) :
    Calls Tryz.prog 131 #[.pointer (some ⟨bp, 0, none⟩), .pointer (some ⟨bn, 0, none⟩)] w fun e w' => (∃ u, e = .returned u) ∧ ∃ v', Pr pb base (bs ++ out) false v' w' ∧ PK pb base w w' := by
  have hc := h2.cp
  obtain ⟨k0, k1, k2, k3, k4⟩ := h2.cn
  go_enter Tryz.func131, Tryz.ntmps131
  go_wp2_with fail
  refine (HPl bs v _ hP hB hin hl).mono ?_
  rintro e w1 ⟨⟨u, rfl⟩, hr⟩
  go_wp2_with fail
  go_end0
  exact ⟨⟨_, rfl⟩, hr⟩

theorem Pr.set {pb base : Nat} {bs : List UInt8} {bare b : Bool} {v : Value} {w : World} (h : Pr pb base bs bare v w) (hpb : pb < base) : Pr pb base bs b v (w.setCell ⟨pb, 2, none⟩ (.bool b)) :=
  ⟨heap_set h.row 2 _, h.own.kept (grownBy_set' w pb 2 _) (.inr (fun e => by have := (h.own.lt pb e).1; omega))⟩

theorem In.pk {pb base : Nat} {t : MT} {w w' : World} (h : t.In pb w) (hk : PK pb base w w') (hpb : pb < base) : t.In pb w' := MT.In.below (hk.below (Nat.le_of_lt hpb) (Nat.le_refl _)) t h

set_option maxRecDepth 100000 in
set_option maxHeartbeats 2000000 in
theorem bracketed_any (pb base bp bn : Nat) (t : MT) (out bs : List UInt8) (HPl : Plain pb base t out) (v : Value) (w : World) (hP : Pr pb base bs false v w) (hpb : pb < base) (hB : base ≤ w.heap.size) (hin : t.In pb w) (hl : bs.length + out.length + 2 ≤ 50000) (h2 : Two pb bp bn t w) (hbp : bp ≠ pb) (hbn : bn ≠ pb) :
    Calls Tryz.prog 130 #[.pointer (some ⟨pb, 0, none⟩), .string ⟨#[40]⟩, .string ⟨#[41]⟩, .func (.func 131) #[] #[.pointer (some ⟨bp, 0, none⟩), .pointer (some ⟨bn, 0, none⟩)]] w fun e w' => (∃ u, e = .returned u) ∧ ∃ v', Pr pb base (bs ++ ([40] ++ out ++ [41])) false v' w' ∧ PK pb base w w' := by
  have HP : Hid (Plain pb base t out) := HPl
  clear HPl
  have c2 := hP.bare
  have f2 := hP.frozen 2
  have hP1 : Pr pb base bs false v (w.setCell ⟨pb, 2, none⟩ (.bool false)) := hP.set hpb
  have hK1 := PK.set pb base w 2 (.bool false)
  have hz1 := hK1.size
  have hP2 := hP1.below (below1 _ (.cells #[.string ⟨#[40]⟩] 9))
  have hK2 := hK1.trans (PK.of (pb := pb) (below1 (w.setCell ⟨pb, 2, none⟩ (.bool false)) (.cells #[.string ⟨#[40]⟩] 9)) (by omega))
  have hr2 := heap_alloc_new (w.setCell ⟨pb, 2, none⟩ (.bool false)) (.cells #[.string ⟨#[40]⟩] 9)
  go_enter Tryz.func130, Tryz.ntmps130
  go_wp2_with fail
  simp only [World.size_setCell] at hr2
  refine (put_any pb base w.heap.size [⟨#[40]⟩] bs false v _ hP2 hpb (by simp; omega) hB hr2 (by simp [joinAll]; omega) (by simp)).mono ?_
  rintro e w3 ⟨⟨u, rfl⟩, v3, hP3, hK3⟩
  have e40 : bs ++ joinAll [⟨#[40]⟩] = bs ++ [40] := by simp [joinAll]
  rw [e40] at hP3
  have hKA := hK2.trans hK3
  have hzA := hKA.size
  have h2A := h2.keep hKA hbp hbn
  have hinA := In.pk hin hKA hpb
  clear hP hP1 hP2 hK1 hK2 hK3 hr2 c2 f2 e40 h2 hin
  go_wp2_with fail
  refine (part1_any pb base bp bn t out (bs ++ [40]) HP.out v3 _ hP3 (by omega) hinA (by simp; omega) h2A).mono ?_
  rintro e w4 ⟨⟨u, rfl⟩, v4, hP4, hK4⟩
  have hKB := hKA.trans hK4
  have hzB := hKB.size
  have hP5 := hP4.below (below1 _ (.cells #[.string ⟨#[41]⟩] 9))
  have hKC := hKB.trans (PK.of (pb := pb) (below1 w4 (.cells #[.string ⟨#[41]⟩] 9)) (by omega))
  have hr5 := heap_alloc_new w4 (.cells #[.string ⟨#[41]⟩] 9)
  clear hP3 hP4 hKA hK4 h2A hinA
  go_wp2_with fail
  refine (put_any pb base w4.heap.size [⟨#[41]⟩] (bs ++ [40] ++ out) false v4 _ hP5 hpb (by simp; omega) (by omega) hr5 (by simp [joinAll]; omega) (by simp)).mono ?_
  rintro e w6 ⟨⟨u, rfl⟩, v6, hP6, hK6⟩
  have hKD := hKC.trans hK6
  have e41 : bs ++ [40] ++ out ++ joinAll [⟨#[41]⟩] = bs ++ ([40] ++ out ++ [41]) := by simp [joinAll]
  rw [e41] at hP6
  have c6 := hP6.bare
  have f6 := hP6.frozen 2
  have HE : Hid (Pr pb base (bs ++ ([40] ++ out ++ [41])) false v6 (w6.setCell ⟨pb, 2, none⟩ (.bool false)) ∧ PK pb base w (w6.setCell ⟨pb, 2, none⟩ (.bool false))) := ⟨hP6.set hpb, hKD.trans (PK.set pb base w6 2 _)⟩
  clear hP5 hr5 hKC hK6 hKB e41 hP6 hKD
  go_wp2_with fail
  go_end0
  exact ⟨⟨_, rfl⟩, v6, HE.out⟩

/-- Within brackets, if they are needed. -/
def brk (b : Bool) (out : List UInt8) : List UInt8 := if b then [40] ++ out ++ [41] else out

set_option maxRecDepth 100000 in
set_option maxHeartbeats 2000000 in
theorem part_any (pb base : Nat) (t : MT) (out bs : List UInt8) (HPl : Plain pb base t out) (need : Bool) (v : Value) (w : World) (hP : Pr pb base bs false v w) (hpb : pb < base) (hB : base ≤ w.heap.size) (hin : t.In pb w) (hl : bs.length + (brk need out).length ≤ 50000) :
    Calls Tryz.prog 101 #[.pointer (some ⟨pb, 0, none⟩), nodeV t, .bool need] w fun e w' => (∃ u, e = .returned u) ∧ ∃ v', Pr pb base (bs ++ brk need out) false v' w' ∧ PK pb base w w' := by
  have HP : Hid (Plain pb base t out) := HPl
  clear HPl
  have hb2 := below2 w (.cells #[.pointer (some ⟨pb, 0, none⟩)] 114) (nodeO t)
  have hP2 := hP.below hb2
  have hK2 := PK.of (pb := pb) hb2 hB
  have hin2 := In.pk hin hK2 hpb
  have h2 : Two pb w.heap.size (w.heap.size + 1) t ((w.alloc (.cells #[.pointer (some ⟨pb, 0, none⟩)] 114)).alloc (nodeO t)) := by
    refine ⟨?_, ?_⟩
    · exact (Below.heap_alloc _ _ _ (by simp)).trans (heap_alloc_new w _)
    · have := heap_alloc_new (w.alloc (.cells #[.pointer (some ⟨pb, 0, none⟩)] 114)) (nodeO t)
      rwa [World.size_alloc] at this
  have hc := hP2.bare
  cases need
  · go_enter Tryz.func101, Tryz.ntmps101
    go_wp2_with fail
    refine (HP.out bs v _ hP2 (by simp; omega) hin2 hl).mono ?_
    rintro e w3 ⟨⟨u, rfl⟩, v3, hP3, hK3⟩
    have HE : Hid (Pr pb base (bs ++ brk false out) false v3 w3 ∧ PK pb base w w3) := ⟨hP3, hK2.trans hK3⟩
    clear hP3 hK3 hP2 hK2 h2 hc
    go_wp2_with fail
    go_end0
    exact ⟨⟨_, rfl⟩, v3, HE.out⟩
  · go_enter Tryz.func101, Tryz.ntmps101
    go_wp2_with fail
    refine (bracketed_any pb base w.heap.size (w.heap.size + 1) t out bs HP.out v _ hP2 hpb (by simp; omega) hin2 (by simp [brk] at hl; omega) h2 (by omega) (by omega)).mono ?_
    rintro e w3 ⟨⟨u, rfl⟩, v3, hP3, hK3⟩
    have HE : Hid (Pr pb base (bs ++ brk true out) false v3 w3 ∧ PK pb base w w3) := ⟨hP3, hK2.trans hK3⟩
    clear hP3 hK3 hP2 hK2 h2 hc
    go_wp2_with fail
    refine bodyPost_ret (results_none rfl _ _ _) rfl ?_
    exact ⟨⟨_, rfl⟩, v3, HE.out⟩
end Go.Proofs.YthbnegggohegkaaGreatDoor
namespace Go.Proofs.YthbnegggohegkaaGreatDoor
open Go.RowKit

/-- How a name, a sum or a product is written. -/
inductive Wr : MT → List UInt8 → Prop
  | name (s : ByteArray) (a : Int) (p : Option Addr) (c : Nat) (hs : Abc s) : Wr (.node 14 s 0 a p c []) s.data.toList
  | bin (s : ByteArray) (a : Int) (p : Option Addr) (c : Nat) (x y : MT) (bx bY : List UInt8) (hs : Sgn s) (hx : Wr x bx) (hy : Wr y bY) :
      Wr (.node 51 s 0 a p c [x, y]) (brk (decide (lev x < lev (.node 51 s 0 a p c [x, y]))) bx ++ ([32] ++ s.data.toList ++ [32]) ++ brk (decide (lev y ≤ lev (.node 51 s 0 a p c [x, y]))) bY)

theorem Wr.sim {t : MT} {out : List UInt8} (h : Wr t out) : Sim t := by
  induction h with
  | name s a p c hs => exact .name s a p c hs
  | bin s a p c x y bx bY hs _ _ ihx ihy => exact .bin s a p c x y hs ihx ihy

theorem brk_len (b : Bool) (out : List UInt8) : out.length ≤ (brk b out).length ∧ (brk b out).length ≤ out.length + 2 := by
  cases b <;> simp [brk] <;> omega

set_option maxRecDepth 100000 in
set_option maxHeartbeats 2000000 in
theorem plain_name (pb base : Nat) (hpb : pb < base) (s : ByteArray) (a : Int) (p : Option Addr) (c : Nat) : Plain pb base (.node 14 s 0 a p c []) s.data.toList := by
  intro bs v w hP hB hin hl
  have hb2 := below2 w (.cells #[.pointer (some ⟨pb, 0, none⟩)] 114) (.cells (leafN 14 s a p c) 24)
  have hb3 := hb2.alloc (by simp; omega) (.cells #[.string s] 9)
  have hP3 := hP.below hb3
  have hK3 := PK.of (pb := pb) hb3 hB
  have hr3 := heap_alloc_new ((w.alloc (.cells #[.pointer (some ⟨pb, 0, none⟩)] 114)).alloc (.cells (leafN 14 s a p c) 24)) (.cells #[.string s] 9)
  simp only [World.size_alloc] at hr3
  simp only [nodeV, MT.kind_node, MT.text_node, MT.num_node, MT.at_node, MT.ptr_node, MT.cap_node, MT.kids_node, List.length_nil]
  go_enter Tryz.func132, Tryz.ntmps132
  go_wp2_with fail
  refine (put_any pb base (w.heap.size + 1 + 1) [s] bs false v _ hP3 hpb (by simp; omega) (by omega) hr3 (by simp [joinAll] at hl ⊢; omega) (by simp)).mono ?_
  rintro e w4 ⟨⟨u, rfl⟩, v4, hP4, hK4⟩
  have HE : Hid (Pr pb base (bs ++ s.data.toList) false v4 w4 ∧ PK pb base w w4) := ⟨by simpa [joinAll] using hP4, hK3.trans hK4⟩
  clear hP4 hK4 hP3 hK3 hr3 hb2 hb3
  go_wp2_with fail
  go_end0
  exact ⟨⟨_, rfl⟩, v4, HE.out⟩

theorem PK.drew (pb base : Nat) (w : World) : PK pb base w w.drew := ⟨rfl, rfl, rfl, Nat.le_refl _, fun _ _ _ => rfl, fun _ _ _ _ _ h _ => h⟩

set_option maxRecDepth 100000 in
set_option maxHeartbeats 4000000 in
theorem plain_bin (pb base : Nat) (hpb : pb < base) (s : ByteArray) (a : Int) (b o c : Nat) (x y : MT) (bx bY : List UInt8) (hs : Sgn s) (hx : Wr x bx) (hy : Wr y bY) (HX : Plain pb base x bx) (HY : Plain pb base y bY)
    (bs : List UInt8) (v : Value) (w : World) (hP : Pr pb base bs false v w) (hB : base ≤ w.heap.size) (hb : b < pb) (hL : MT.InL pb w b o [x, y])
    (hl : bs.length + (brk (decide (lev x < lev (.node 51 s 0 a (some ⟨b, o, none⟩) c [x, y]))) bx ++ ([32] ++ s.data.toList ++ [32]) ++ brk (decide (lev y ≤ lev (.node 51 s 0 a (some ⟨b, o, none⟩) c [x, y]))) bY).length ≤ 50000) :
    Calls Tryz.prog 132 #[.pointer (some ⟨pb, 0, none⟩), .agg (binN s a (some ⟨b, o, none⟩) c)] w fun e w' => (∃ u, e = .returned u) ∧ ∃ v', Pr pb base (bs ++ (brk (decide (lev x < lev (.node 51 s 0 a (some ⟨b, o, none⟩) c [x, y]))) bx ++ ([32] ++ s.data.toList ++ [32]) ++ brk (decide (lev y ≤ lev (.node 51 s 0 a (some ⟨b, o, none⟩) c [x, y]))) bY)) false v' w' ∧ PK pb base w w' := by
  have HLt : Hid (∀ W, Calls Tryz.prog 147 #[.agg (binN s a (some ⟨b, o, none⟩) c)] W fun e w' => e = .returned (.int .i64 (lev (.node 51 s 0 a (some ⟨b, o, none⟩) c [x, y]))) ∧ Below W.heap.size W w') := fun W => level_sim _ (.bin s a _ c x y hs hx.sim hy.sim) W
  generalize lev (.node 51 s 0 a (some ⟨b, o, none⟩) c [x, y]) = lt at HLt hl ⊢
  have hlx := (brk_len (decide (lev x < lt)) bx).1
  have hly := (brk_len (decide (lev y ≤ lt)) bY).1
  simp only [List.length_append, List.length_cons, List.length_nil] at hl
  have hsz : s.data.toList.length = s.size := rfl
  have HLx : Hid (∀ W, Calls Tryz.prog 147 #[nodeV x] W fun e w' => e = .returned (.int .i64 (lev x)) ∧ Below W.heap.size W w') := fun W => level_sim x hx.sim W
  have HLy : Hid (∀ W, Calls Tryz.prog 147 #[nodeV y] W fun e w' => e = .returned (.int .i64 (lev y)) ∧ Below W.heap.size W w') := fun W => level_sim y hy.sim W
  have h2 : Two pb w.heap.size (w.heap.size + 1) (.node 51 s 0 a (some ⟨b, o, none⟩) c [x, y]) ((w.alloc (.cells #[.pointer (some ⟨pb, 0, none⟩)] 114)).alloc (.cells (binN s a (some ⟨b, o, none⟩) c) 24)) := by
    refine ⟨?_, ?_⟩
    · exact (Below.heap_alloc _ _ _ (by simp)).trans (heap_alloc_new w _)
    · have := heap_alloc_new (w.alloc (.cells #[.pointer (some ⟨pb, 0, none⟩)] 114)) (.cells (binN s a (some ⟨b, o, none⟩) c) 24)
      rwa [World.size_alloc] at this
  have hb2 := below2 w (.cells #[.pointer (some ⟨pb, 0, none⟩)] 114) (.cells (binN s a (some ⟨b, o, none⟩) c) 24)
  have hP2 := hP.below hb2
  have hz2 : ((w.alloc (.cells #[.pointer (some ⟨pb, 0, none⟩)] 114)).alloc (.cells (binN s a (some ⟨b, o, none⟩) c) 24)).heap.size = w.heap.size + 2 := by simp
  have hK2 := PK.of (pb := pb) hb2 hB
  have HL2 : Hid (MT.InL pb ((w.alloc (.cells #[.pointer (some ⟨pb, 0, none⟩)] 114)).alloc (.cells (binN s a (some ⟨b, o, none⟩) c) 24)) b o [x, y]) := MT.InL.below (hb2.mono (by omega)) b o hb [x, y] hL
  go_enter Tryz.func132, Tryz.ntmps132
  go_wp2_with fail
  have HW : ∃ W2, W2 = ((w.alloc (.cells #[.pointer (some ⟨pb, 0, none⟩)] 114)).alloc (.cells (binN s a (some ⟨b, o, none⟩) c) 24)) := ⟨_, rfl⟩
  obtain ⟨W2, hW2⟩ := HW
  rw [← hW2] at h2 hb2 hP2 hz2 hK2 HL2 ⊢
  clear hW2 hL hP
  have HB : Hid (∀ W, PK pb base W2 W → (W.cell? ⟨w.heap.size, 0, none⟩ = some (.pointer (some ⟨pb, 0, none⟩)) ∧ W.cell? ⟨w.heap.size + 1, 0, none⟩ = some (.int .i64 51) ∧ W.cell? ⟨w.heap.size + 1, 1, none⟩ = some (.string s) ∧ W.cell? ⟨w.heap.size + 1, 2, none⟩ = some (.int .i64 0) ∧ W.cell? ⟨w.heap.size + 1, 3, none⟩ = some (.int .i64 a) ∧ W.cell? ⟨w.heap.size + 1, 4, none⟩ = some (.slice (some ⟨b, o, none⟩) 2 c))) := fun W hW => by
    have h3 := h2.keep hW (by omega) (by omega)
    obtain ⟨k0, k1, k2, k3, k4⟩ := h3.cn
    exact ⟨h3.cp, k0, k1, k2, k3, k4⟩
  have HK : Hid (∀ W, PK pb base W2 W → (W.cell? ⟨w.heap.size, 0, none⟩ = some (.pointer (some ⟨pb, 0, none⟩)) ∧ W.cell? ⟨w.heap.size + 1, 0, none⟩ = some (.int .i64 51) ∧ W.cell? ⟨w.heap.size + 1, 1, none⟩ = some (.string s) ∧ W.cell? ⟨w.heap.size + 1, 2, none⟩ = some (.int .i64 0) ∧ W.cell? ⟨w.heap.size + 1, 3, none⟩ = some (.int .i64 a) ∧ W.cell? ⟨w.heap.size + 1, 4, none⟩ = some (.slice (some ⟨b, o, none⟩) 2 c) ∧ W.cell? ⟨b, o, none⟩ = some (.int .i64 x.kind) ∧ W.cell? ⟨b, o + 1, none⟩ = some (.string x.text) ∧ W.cell? ⟨b, o + 2, none⟩ = some (.int .i64 x.num) ∧ W.cell? ⟨b, o + 3, none⟩ = some (.int .i64 x.at_) ∧ W.cell? ⟨b, o + 4, none⟩ = some (.slice x.ptr x.kids.length x.cap))) := fun W hW => by
    obtain ⟨p0, k0, k1, k2, k3, k4⟩ := HB.out W hW
    obtain ⟨⟨c0, c1, c2, c3, c4⟩, _⟩ := (MT.InL.below (hW.below (by omega) (Nat.le_refl _)) b o hb [x, y] HL2.out).get 0 (by simp)
    simp only [Nat.zero_mul, Nat.add_zero] at c0 c1 c2 c3 c4
    exact ⟨p0, k0, k1, k2, k3, k4, c0, c1, c2, c3, c4⟩
  obtain ⟨p0, k0, k1, k2, k3, k4, c0, c1, c2, c3, c4⟩ := HK.out W2 (PK.refl _ _ _)
  have HXP : Hid (∀ W, Below W2.heap.size W2 W → Calls Tryz.prog 101 #[.pointer (some ⟨pb, 0, none⟩), nodeV x, .bool (decide (lev x < lt))] W fun e w' => (∃ u, e = .returned u) ∧ ∃ v', Pr pb base (bs ++ brk (decide (lev x < lt)) bx) false v' w' ∧ PK pb base W2 w') := fun W hW =>
    (part_any pb base x bx bs HX (decide (lev x < lt)) v W (hP2.below hW) hpb (by have := hW.size; omega) (MT.In.below (hW.mono (by omega)) x (HL2.out.get 0 (by simp)).2) (by omega)).mono
      fun _ _ ⟨h1, v', h3, h4⟩ => ⟨h1, v', h3, (PK.of hW (by omega)).trans h4⟩
  have HS : Hid (Two pb w.heap.size (w.heap.size + 1) (.node 51 s 0 a (some ⟨b, o, none⟩) c [x, y]) W2 ∧ Pr pb base bs false v W2 ∧ PK pb base w W2) := ⟨h2, hP2, hK2⟩
  have hBW : base ≤ W2.heap.size := by omega
  have hbW : b < W2.heap.size := by omega
  clear h2 hP2 hK2 hb2
  go_region_held3 (fun W => W.cell? ⟨w.heap.size, 0, none⟩ = some (.pointer (some ⟨pb, 0, none⟩)) ∧ W.cell? ⟨w.heap.size + 1, 0, none⟩ = some (.int .i64 51) ∧ W.cell? ⟨w.heap.size + 1, 1, none⟩ = some (.string s) ∧ W.cell? ⟨w.heap.size + 1, 2, none⟩ = some (.int .i64 0) ∧ W.cell? ⟨w.heap.size + 1, 3, none⟩ = some (.int .i64 a) ∧ W.cell? ⟨w.heap.size + 1, 4, none⟩ = some (.slice (some ⟨b, o, none⟩) 2 c) ∧ W.cell? ⟨b, o, none⟩ = some (.int .i64 x.kind) ∧ W.cell? ⟨b, o + 1, none⟩ = some (.string x.text) ∧ W.cell? ⟨b, o + 2, none⟩ = some (.int .i64 x.num) ∧ W.cell? ⟨b, o + 3, none⟩ = some (.int .i64 x.at_) ∧ W.cell? ⟨b, o + 4, none⟩ = some (.slice x.ptr x.kids.length x.cap))
    (first | exact HK.out _ hkF | exact HK.out _ (PK.of hbB hBW) | exact HK.out _ (PK.of hbA hBW) | exact HK.out _ (PK.drew _ _ _))
    (first
      | (go_at_call_of 147 (MT.kind x); refine (HLx.out _).mono ?_; rintro e w1 ⟨rfl, hb0⟩; have hbA : Below W2.heap.size W2 w1 := ((Below.refl _ _).drew).trans (hb0.mono (by simp)))
      | (go_at_call 147; refine (HLt.out _).mono ?_; rintro e w2 ⟨rfl, hb1⟩; have hbB : Below W2.heap.size W2 w2 := hbA.trans (hb1.mono hbA.size))
      | (go_at_call 101; refine (HXP.out _ hbB).mono ?_; rintro e w3 ⟨⟨u, rfl⟩, v3, hP3, hkF⟩))
  clear p0 k0 k1 k2 k3 k4 c0 c1 c2 c3 c4 hb0 hb1 hbA hbB
  obtain ⟨p0, k0, k1, k2, k3, k4⟩ := HB.out w3 hkF
  have hz3 := hkF.size
  have hb4 := below1 w3 (.cells #[.string ⟨#[32]⟩, .string s, .string ⟨#[32]⟩] 9)
  have hP4 := hP3.below hb4
  have hK4 := hkF.trans (PK.of (pb := pb) hb4 (by omega))
  have hr4 := heap_alloc_new w3 (.cells #[.string ⟨#[32]⟩, .string s, .string ⟨#[32]⟩] 9)
  have HX4 : Hid (Pr pb base (bs ++ brk (decide (lev x < lt)) bx) false v3 (w3.alloc (.cells #[.string ⟨#[32]⟩, .string s, .string ⟨#[32]⟩] 9)) ∧ PK pb base W2 (w3.alloc (.cells #[.string ⟨#[32]⟩, .string s, .string ⟨#[32]⟩] 9)) ∧ (w3.alloc (.cells #[.string ⟨#[32]⟩, .string s, .string ⟨#[32]⟩] 9)).heap[w3.heap.size]? = some (.cells #[.string ⟨#[32]⟩, .string s, .string ⟨#[32]⟩] 9 (0, 0))) := ⟨hP4, hK4, hr4⟩
  clear hP3 hkF hb4 hP4 hK4 hr4 HXP HK
  go_wp2_with fail
  refine (put_any pb base w3.heap.size [⟨#[32]⟩, s, ⟨#[32]⟩] (bs ++ brk (decide (lev x < lt)) bx) false v3 _ HX4.out.1 hpb (by simp; omega) (by omega) HX4.out.2.2 (by simp [joinAll]; omega) (by simp)).mono ?_
  rintro e w5 ⟨⟨u5, rfl⟩, v5, hP5, hK5⟩
  have hK6 := HX4.out.2.1.trans hK5
  have hz5 := hK6.size
  have e5 : bs ++ brk (decide (lev x < lt)) bx ++ joinAll [⟨#[32]⟩, s, ⟨#[32]⟩] = bs ++ brk (decide (lev x < lt)) bx ++ ([32] ++ s.data.toList ++ [32]) := by simp [joinAll]
  rw [e5] at hP5
  have HK : Hid (∀ W, PK pb base w5 W → (W.cell? ⟨w.heap.size, 0, none⟩ = some (.pointer (some ⟨pb, 0, none⟩)) ∧ W.cell? ⟨w.heap.size + 1, 0, none⟩ = some (.int .i64 51) ∧ W.cell? ⟨w.heap.size + 1, 1, none⟩ = some (.string s) ∧ W.cell? ⟨w.heap.size + 1, 2, none⟩ = some (.int .i64 0) ∧ W.cell? ⟨w.heap.size + 1, 3, none⟩ = some (.int .i64 a) ∧ W.cell? ⟨w.heap.size + 1, 4, none⟩ = some (.slice (some ⟨b, o, none⟩) 2 c) ∧ W.cell? ⟨b, o + 5, none⟩ = some (.int .i64 y.kind) ∧ W.cell? ⟨b, o + 5 + 1, none⟩ = some (.string y.text) ∧ W.cell? ⟨b, o + 5 + 2, none⟩ = some (.int .i64 y.num) ∧ W.cell? ⟨b, o + 5 + 3, none⟩ = some (.int .i64 y.at_) ∧ W.cell? ⟨b, o + 5 + 4, none⟩ = some (.slice y.ptr y.kids.length y.cap))) := fun W hW => by
    obtain ⟨p0, k0, k1, k2, k3, k4⟩ := HB.out W (hK6.trans hW)
    obtain ⟨⟨c0, c1, c2, c3, c4⟩, _⟩ := (MT.InL.below ((hK6.trans hW).below (by omega) (Nat.le_refl _)) b o hb [x, y] HL2.out).get 1 (by simp)
    simp only [Nat.one_mul] at c0 c1 c2 c3 c4
    exact ⟨p0, k0, k1, k2, k3, k4, c0, c1, c2, c3, c4⟩
  have HYP : Hid (∀ W, Below w5.heap.size w5 W → Calls Tryz.prog 101 #[.pointer (some ⟨pb, 0, none⟩), nodeV y, .bool (decide (lev y ≤ lt))] W fun e w' => (∃ u, e = .returned u) ∧ ∃ v', Pr pb base (bs ++ brk (decide (lev x < lt)) bx ++ ([32] ++ s.data.toList ++ [32]) ++ brk (decide (lev y ≤ lt)) bY) false v' w' ∧ PK pb base w5 w') := fun W hW =>
    (part_any pb base y bY (bs ++ brk (decide (lev x < lt)) bx ++ ([32] ++ s.data.toList ++ [32])) HY (decide (lev y ≤ lt)) v5 W (hP5.below hW) hpb (by have := hW.size; omega) (MT.In.below ((hK6.below (by omega) (Nat.le_refl _)).trans (hW.mono (by omega))) y (HL2.out.get 1 (by simp)).2) (by simp only [List.length_append, List.length_cons, List.length_nil]; omega)).mono
      fun _ _ ⟨h1, v', h3, h4⟩ => ⟨h1, v', h3, (PK.of hW (by omega)).trans h4⟩
  have HS6 : Hid (PK pb base w w5) := HS.out.2.2.trans hK6
  have hBW5 : base ≤ w5.heap.size := by omega
  have hbW5 : b < w5.heap.size := by omega
  clear p0 k0 k1 k2 k3 k4 hP5 hK5 hK6 HX4 HB e5
  go_wp2_with fail
  obtain ⟨p0, k0, k1, k2, k3, k4, c0, c1, c2, c3, c4⟩ := HK.out w5 (PK.refl _ _ _)
  go_region_held3 (fun W => W.cell? ⟨w.heap.size, 0, none⟩ = some (.pointer (some ⟨pb, 0, none⟩)) ∧ W.cell? ⟨w.heap.size + 1, 0, none⟩ = some (.int .i64 51) ∧ W.cell? ⟨w.heap.size + 1, 1, none⟩ = some (.string s) ∧ W.cell? ⟨w.heap.size + 1, 2, none⟩ = some (.int .i64 0) ∧ W.cell? ⟨w.heap.size + 1, 3, none⟩ = some (.int .i64 a) ∧ W.cell? ⟨w.heap.size + 1, 4, none⟩ = some (.slice (some ⟨b, o, none⟩) 2 c) ∧ W.cell? ⟨b, o + 5, none⟩ = some (.int .i64 y.kind) ∧ W.cell? ⟨b, o + 5 + 1, none⟩ = some (.string y.text) ∧ W.cell? ⟨b, o + 5 + 2, none⟩ = some (.int .i64 y.num) ∧ W.cell? ⟨b, o + 5 + 3, none⟩ = some (.int .i64 y.at_) ∧ W.cell? ⟨b, o + 5 + 4, none⟩ = some (.slice y.ptr y.kids.length y.cap))
    (first | exact HK.out _ hkG | exact HK.out _ (PK.of hbD hBW5) | exact HK.out _ (PK.of hbC hBW5) | exact HK.out _ (PK.drew _ _ _))
    (first
      | (go_at_call_of 147 (MT.kind y); refine (HLy.out _).mono ?_; rintro e w6 ⟨rfl, hb0⟩; have hbC : Below w5.heap.size w5 w6 := ((Below.refl _ _).drew).trans (hb0.mono (by simp)))
      | (go_at_call 147; refine (HLt.out _).mono ?_; rintro e w7 ⟨rfl, hb1⟩; have hbD : Below w5.heap.size w5 w7 := hbC.trans (hb1.mono hbC.size))
      | (go_at_call 101; refine (HYP.out _ hbD).mono ?_; rintro e w8 ⟨⟨u8, rfl⟩, v8, hP8, hkG⟩))
  have HE : Hid (Pr pb base (bs ++ (brk (decide (lev x < lt)) bx ++ 32 :: (s.data.toList ++ [32]) ++ brk (decide (lev y ≤ lt)) bY)) false v8 w8 ∧ PK pb base w w8) := ⟨by simpa using hP8, HS6.out.trans hkG⟩
  clear hP8 hkG
  go_wp2_with fail
  go_end0
  exact ⟨⟨_, rfl⟩, v8, HE.out⟩

theorem plain_wr (pb base : Nat) (hpb : pb < base) {t : MT} {out : List UInt8} (h : Wr t out) : Plain pb base t out := by
  induction h with
  | name s a p c hs => exact plain_name pb base hpb s a p c
  | bin s a p c x y bx bY hs hx hy ihx ihy =>
    intro bs v w hP hB hin hl
    have hk := hin.kidsL
    simp only [MT.kids_node, MT.ptr_node] at hk
    rcases hk with hk | ⟨b, o, rfl, hb, hL⟩
    · cases hk
    · exact plain_bin pb base hpb s a b o c x y bx bY hs hx hy ihx ihy bs v w hP hB hb hL hl
end Go.Proofs.YthbnegggohegkaaGreatDoor
namespace Go.Proofs.YthbnegggohegkaaGreatDoor
open Go.RowKit

set_option maxRecDepth 100000 in
set_option maxHeartbeats 1000000 in
theorem expression_any (pb base : Nat) (t : MT) (out bs : List UInt8) (HPl : Plain pb base t out) (v : Value) (w : World) (hP : Pr pb base bs false v w) (hpb : pb < base) (hB : base ≤ w.heap.size) (hin : t.In pb w) (hl : bs.length + out.length ≤ 50000) :
    Calls Tryz.prog 71 #[.pointer (some ⟨pb, 0, none⟩), nodeV t] w fun e w' => (∃ u, e = .returned u) ∧ ∃ v', Pr pb base (bs ++ out) false v' w' ∧ PK pb base w w' := by
  have HP : Hid (Plain pb base t out) := HPl
  clear HPl
  have hb1 := below1 w (nodeO t)
  have hP1 := hP.below hb1
  have hK1 := PK.of (pb := pb) hb1 hB
  have hin1 := In.pk hin hK1 hpb
  go_enter Tryz.func71, Tryz.ntmps71
  go_wp2_with fail
  refine (part_any pb base t out bs HP.out false v _ hP1 hpb (by simp; omega) hin1 hl).mono ?_
  rintro e w3 ⟨⟨u, rfl⟩, v3, hP3, hK3⟩
  have HE : Hid (Pr pb base (bs ++ out) false v3 w3 ∧ PK pb base w w3) := ⟨hP3, hK1.trans hK3⟩
  clear hP3 hK3 hP1 hK1
  go_wp2_with fail
  go_end0
  exact ⟨⟨_, rfl⟩, v3, HE.out⟩

set_option maxRecDepth 100000 in
set_option maxHeartbeats 1000000 in
theorem own_bin (pb base : Nat) (s : ByteArray) (a : Int) (p : Option Addr) (c : Nat) (x y : MT) (out bs : List UInt8) (HPl : Plain pb base (.node 51 s 0 a p c [x, y]) out) (v : Value) (w : World) (hP : Pr pb base bs false v w) (hpb : pb < base) (hB : base ≤ w.heap.size) (hin : (MT.node 51 s 0 a p c [x, y]).In pb w) (hl : bs.length + out.length ≤ 50000) :
    Calls Tryz.prog 41 #[.pointer (some ⟨pb, 0, none⟩), .agg (binN s a p c)] w fun e w' => (∃ u, e = .returned u) ∧ ∃ v', Pr pb base (bs ++ out) false v' w' ∧ PK pb base w w' := by
  have HP : Hid (Plain pb base (.node 51 s 0 a p c [x, y]) out) := HPl
  clear HPl
  have hb2 := below2 w (.cells #[.pointer (some ⟨pb, 0, none⟩)] 114) (.cells (binN s a p c) 24)
  have hP2 := hP.below hb2
  have hK2 := PK.of (pb := pb) hb2 hB
  have hin2 := In.pk hin hK2 hpb
  go_enter Tryz.func41, Tryz.ntmps41
  go_wp2_with fail
  refine (takes_2_51 _).mono ?_
  rintro e w3 ⟨rfl, rfl⟩
  go_wp2_with fail
  refine (takes_3_51 _).mono ?_
  rintro e w3 ⟨rfl, rfl⟩
  go_wp2_with fail
  refine (takes_12_51 _).mono ?_
  rintro e w3 ⟨rfl, rfl⟩
  go_wp2_with fail
  refine (expression_any pb base (.node 51 s 0 a p c [x, y]) out bs HP.out v _ hP2 hpb (by simp; omega) hin2 hl).mono ?_
  rintro e w3 ⟨⟨u, rfl⟩, v3, hP3, hK3⟩
  have HE : Hid (Pr pb base (bs ++ out) false v3 w3 ∧ PK pb base w w3) := ⟨hP3, hK2.trans hK3⟩
  clear hP3 hK3 hP2 hK2
  go_wp2_with fail
  go_end0
  exact ⟨⟨_, rfl⟩, v3, HE.out⟩

set_option maxRecDepth 100000 in
set_option maxHeartbeats 1000000 in
theorem print_bin {gw ow gs os : Nat} (s : ByteArray) (a : Int) (p : Option Addr) (c : Nat) (x y : MT) (out : List UInt8) (hW : Wr (.node 51 s 0 a p c [x, y]) out) (hsz : (MT.node 51 s 0 a p c [x, y]).size ≤ 60) (w : World) (ht : TabsAt gw ow gs os w) (hin : (MT.node 51 s 0 a p c [x, y]).In w.heap.size w) (hl : out.length ≤ 50000) :
    Calls Tryz.prog 26 #[.agg (binN s a p c)] w fun e w' => e = .returned (.tuple #[.string ⟨out.toArray⟩, .nilIface]) ∧ Below w.heap.size w w' := by
  have HR := right_sim (gw := gw) (ow := ow) (gs := gs) (os := os) _ hW.sim hsz
  have hb1 := below1 w (.cells (binN s a p c) 24)
  have ht1 := ht.below (Nat.le_refl _) hb1
  have hin1 := MT.In.mono (B' := (w.alloc (.cells (binN s a p c) 24)).heap.size) (by simp) _ (MT.In.below hb1 _ hin)
  go_enter Tryz.func26, Tryz.ntmps26
  go_wp2_with fail
  refine (HR _ ht1 hin1).mono ?_
  rintro e w2 ⟨rfl, hb2⟩
  have hB2 := hb1.trans (hb2.mono (by simp))
  have hz2 := hb2.size
  simp only [World.size_alloc] at hz2
  have hrow : (w2.alloc (.cells #[.slice none 0 0, .int .i64 0, .bool false] 84)).heap[w.heap.size]? = some (.cells (binN s a p c) 24 (0, 0)) :=
    (Below.heap_alloc _ _ _ (by omega)).trans ((hb2.block w.heap.size (by simp)).trans (heap_alloc_new w _))
  have hP3 : Pr w2.heap.size (w2.heap.size + 1) [] false (.slice none 0 0) (w2.alloc (.cells #[.slice none 0 0, .int .i64 0, .bool false] 84)) := ⟨heap_alloc_new w2 _, World.ownsRow_nil _ _ _ _⟩
  have hb3 := below1 w2 (.cells #[.slice none 0 0, .int .i64 0, .bool false] 84)
  have hin3 := MT.In.mono (B' := w2.heap.size) (by omega) _ (MT.In.below (hB2.trans (hb3.mono (by omega))) _ hin)
  have HPl := plain_wr w2.heap.size (w2.heap.size + 1) (by omega) hW
  obtain ⟨k0, k1, k2, k3, k4⟩ : BoxAt (w2.alloc (.cells #[.slice none 0 0, .int .i64 0, .bool false] 84)) w.heap.size (.node 51 s 0 a p c [x, y]) := ((BoxAt.new w (.node 51 s 0 a p c [x, y])).below (by simp) hb2).below (by omega) hb3
  clear ht1 hin1 hb1 HR
  go_wp2_with fail
  refine (own_bin w2.heap.size (w2.heap.size + 1) s a p c x y out [] HPl _ _ hP3 (by omega) (by simp) hin3 (by simpa using hl)).mono ?_
  rintro e w4 ⟨⟨u, rfl⟩, v4, hP4, hK4⟩
  have hP4' : Pr w2.heap.size (w2.heap.size + 1) out false v4 w4 := hP4
  clear hP4
  go_wp2_with fail
  refine (isFull_any w2.heap.size (w2.heap.size + 1) out false v4 _ hP4' (by omega)).mono ?_
  rintro e w5 ⟨rfl, rfl⟩
  have hc4 := hP4'.cell
  have hcv := conv_own hP4'.own
  have HE : Hid (Below w.heap.size w w5) := (hB2.trans (hb3.mono (by omega))).trans (hK4.below (by omega) (by omega))
  clear hK4 hP4' hb3 hB2 hb2 hP3 hrow k0 k1 k2 k3 k4
  go_wp2_with fail
  go_ret2
  exact ⟨rfl, HE.out⟩
end Go.Proofs.YthbnegggohegkaaGreatDoor
