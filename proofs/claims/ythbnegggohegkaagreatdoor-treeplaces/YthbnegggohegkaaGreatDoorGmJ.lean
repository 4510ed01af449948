/-
  What a printer has written, and the walks of (*printer).isFull and put.
  The walks of level, and of part and bracketed out of plain's.
  The walk of plain at names, sums and products.
  The walks of expression, own and Print at sums and products.
  What a printer has, and put at any parts.
  Tabs, lines, brackets, lists.
  Lines within brackets.
  Writers, one behind another.
  The walks of slices.Index and slices.Contains at rows of texts, of (role).words, and of isToken.
  The walk of textFits, at every node: names, labels, signs, numbers, texts.
  The walk of textFits at labels, names, pairs and unary signs.
-/
import Derived.Test.YthbnegggohegkaaGreatDoorRiJ
import Derived.Test.YthbnegggohegkaaGreatDoorAkJ
import Derived.Lib.AppendStr
import Derived.Deep.RegionHeld3
import Derived.Test.YthbnegggohegkaaGreatDoorGiJ
namespace Go.Proofs.YthbnegggohegkaaGreatDoor
open Go.RowKit

/-- What a printer's calls leave as it was: all below base but the printer's own block; and of the rest whatever is no row of bytes. -/
structure PK (pb base : Nat) (w w' : World) : Prop where
  os : w'.os = w.os
  tape : w'.tape = w.tape
  output : w'.output = w.output
  size : w.heap.size ≤ w'.heap.size
  low : ∀ k, k < base → k ≠ pb → w'.heap[k]? = w.heap[k]?
  high : ∀ k cs t fr, k ≠ pb → w.heap[k]? = some (.cells cs t fr) → t ≠ 5 → w'.heap[k]? = some (.cells cs t fr)

theorem PK.refl (pb base : Nat) (w : World) : PK pb base w w := ⟨rfl, rfl, rfl, Nat.le_refl _, fun _ _ _ => rfl, fun _ _ _ _ _ h _ => h⟩
theorem PK.trans {pb base : Nat} {A B C : World} (h : PK pb base A B) (k : PK pb base B C) : PK pb base A C :=
  ⟨k.os.trans h.os, k.tape.trans h.tape, k.output.trans h.output, Nat.le_trans h.size k.size, fun i hi hp => (k.low i hi hp).trans (h.low i hi hp), fun i cs t fr hp hi ht => k.high i cs t fr hp (h.high i cs t fr hp hi ht) ht⟩
theorem PK.of {pb base : Nat} {w w' : World} (hb : Below w.heap.size w w') (hB : base ≤ w.heap.size) : PK pb base w w' :=
  ⟨hb.os, hb.tape, hb.output, hb.size, fun k hk _ => hb.block k (by omega), fun k cs t fr _ h _ => (hb.block k (Array.getElem?_eq_some_iff.1 h).1).trans h⟩
theorem PK.set (pb base : Nat) (w : World) (o : Nat) (v : Value) : PK pb base w (w.setCell ⟨pb, o, none⟩ v) :=
  ⟨rfl, rfl, rfl, by simp, fun k _ hk => Below.heap_setCell w ⟨pb, o, none⟩ v k hk, fun k cs t fr hk h _ => (Below.heap_setCell w ⟨pb, o, none⟩ v k hk).trans h⟩
theorem PK.grown {pb base n : Nat} {w w' : World} {v : Value} {xs : List Value} (hown : w.ownsRow base 5 1 v n xs) (hg : w.grownBy w' v.ownBlock) (hB : base ≤ w.heap.size) : PK pb base w w' :=
  ⟨hg.os, hg.tape, hg.output, hg.size, fun k hk _ => hg.block k (by omega) (fun e => by have := (hown.lt k e.symm).1; omega),
   fun k cs t fr _ h ht => (hg.block k (Array.getElem?_eq_some_iff.1 h).1 (fun e => by
     rcases hown.2 with ⟨rfl, _⟩ | ⟨g, cap, cur, rfl, _, hgg, _⟩
     · cases e
     · cases e; rw [hgg] at h; cases h; exact ht rfl)).trans h⟩
theorem PK.below {pb base B : Nat} {w w' : World} (h : PK pb base w w') (hB : B ≤ base) (hp : B ≤ pb) : Below B w w' :=
  ⟨h.os, h.tape, h.output, h.size, fun k hk => h.low k (by omega) (by omega)⟩

/-- What a printer holds: the bytes that were written. -/
structure Pr (pb base : Nat) (bs : List UInt8) (bare : Bool) (v : Value) (w : World) : Prop where
  row : w.heap[pb]? = some (.cells #[v, .int .i64 0, .bool bare] 84 (0, 0))
  own : w.ownsRow base 5 1 v bs.length (Lib.byteCells bs)

theorem Pr.cell {pb base : Nat} {bs : List UInt8} {bare : Bool} {v : Value} {w : World} (h : Pr pb base bs bare v w) : w.cell? ⟨pb, 0, none⟩ = some v := by simp [World.cell?, h.row]
theorem Pr.bare {pb base : Nat} {bs : List UInt8} {bare : Bool} {v : Value} {w : World} (h : Pr pb base bs bare v w) : w.cell? ⟨pb, 2, none⟩ = some (.bool bare) := by simp [World.cell?, h.row]
theorem Pr.frozen {pb base : Nat} {bs : List UInt8} {bare : Bool} {v : Value} {w : World} (h : Pr pb base bs bare v w) (o : Nat) : w.frozen? ⟨pb, o, none⟩ = false := by simp [World.frozen?, h.row]
theorem Pr.below {pb base : Nat} {bs : List UInt8} {bare : Bool} {v : Value} {w w' : World} (h : Pr pb base bs bare v w) (hb : Below w.heap.size w w') : Pr pb base bs bare v w' := by
  refine ⟨(hb.block pb (Array.getElem?_eq_some_iff.1 h.row).1).trans h.row, h.own.1, ?_⟩
  rcases h.own.2 with hn | ⟨g, cap, cur, rfl, hg, hgg, rest⟩
  · exact .inl hn
  · exact .inr ⟨g, cap, cur, rfl, hg, (hb.block g (Array.getElem?_eq_some_iff.1 hgg).1).trans hgg, rest⟩
theorem Pr.form {pb base : Nat} {bs : List UInt8} {bare : Bool} {v : Value} {w : World} (h : Pr pb base bs bare v w) : ∃ p cap, v = .slice p bs.length cap := by
  rcases h.own.2 with ⟨h', h0⟩ | ⟨g, cap, cur, hv, _⟩
  · exact ⟨none, 0, by rw [h', h0]⟩
  · exact ⟨_, _, hv⟩

set_option maxHeartbeats 400000 in
theorem isFull_any (pb base : Nat) (bs : List UInt8) (bare : Bool) (v : Value) (w : World) (hP : Pr pb base bs bare v w) (hl : bs.length ≤ 60000) :
    Calls Tryz.prog 42 #[.pointer (some ⟨pb, 0, none⟩)] w fun e w' => e = .returned (.bool false) ∧ w' = w := by
  obtain ⟨p, cap, rfl⟩ := hP.form
  have hc := hP.cell
  go_enter Tryz.func42, Tryz.ntmps42
  go_wp2
  go_ret
  exact ⟨congrArg (fun b => Ending.returned (.bool b)) (by simp; omega), rfl⟩

theorem ownsRow_slice {w : World} {base : Nat} {e : TypeId} {size : Nat} {v : Value} {n : Nat} {xs : List Value} (h : w.ownsRow base e size v n xs) : ∃ p cap, v = .slice p n cap := by
  rcases h.2 with ⟨h', h0⟩ | ⟨g, cap, cur, hv, _⟩
  · exact ⟨none, 0, by rw [h', h0]⟩
  · exact ⟨_, _, hv⟩

theorem grownBy_set' (w : World) (g o : Nat) (v : Value) : w.grownBy (w.setCell ⟨g, o, none⟩ v) (some g) :=
  ⟨rfl, rfl, rfl, by simp, fun k _ hk => Below.heap_setCell w ⟨g, o, none⟩ v k (fun e => hk (by rw [e]))⟩
theorem byteCells_app (a b : List UInt8) : Lib.byteCells (a ++ b) = Lib.byteCells a ++ Lib.byteCells b := by simp [Lib.byteCells]

def joinAll (ss : List ByteArray) : List UInt8 := ss.flatMap fun s => s.data.toList
theorem joinAll_snoc (ss : List ByteArray) (j : Nat) (hj : j < ss.length) : joinAll (ss.take (j + 1)) = joinAll (ss.take j) ++ ss[j].data.toList := by
  rw [List.take_succ_eq_append_getElem hj]; simp only [joinAll, List.flatMap_append, List.flatMap_cons, List.flatMap_nil, List.append_nil]
theorem joinAll_take_le (ss : List ByteArray) (j : Nat) : (joinAll (ss.take j)).length ≤ (joinAll ss).length := by
  have : joinAll ss = joinAll (ss.take j) ++ joinAll (ss.drop j) := by rw [joinAll, joinAll, joinAll, ← List.flatMap_append, List.take_append_drop]
  rw [this, List.length_append]; omega

set_option maxRecDepth 100000 in
set_option maxHeartbeats 2000000 in
theorem put_any (pb base b : Nat) (ss : List ByteArray) (bs : List UInt8) (bare : Bool) (v : Value) (w : World) (hP : Pr pb base bs bare v w) (hpb : pb < base) (hB : base ≤ w.heap.size) (hbb : base ≤ b)
    (hrow : w.heap[b]? = some (.cells (ss.map Value.string).toArray 9 (0, 0))) (hl : bs.length + (joinAll ss).length ≤ 60000) (hk : ss.length ≤ 1000) :
    Calls Tryz.prog 96 #[.pointer (some ⟨pb, 0, none⟩), .slice (some ⟨b, 0, none⟩) ss.length ss.length] w fun e w' => (∃ u, e = .returned u) ∧ ∃ v', Pr pb base (bs ++ joinAll ss) bare v' w' ∧ PK pb base w w' := by
  obtain ⟨i0, hi, hz0, hz1, hz2⟩ := info_parts info5
  go_enter Tryz.func96, Tryz.ntmps96
  go_wp2_with fail
  go_loopg [8] ss.length (fun gk i wr => ∃ (j : Nat) (v : Value), gk + j = ss.length ∧ i = .int .i64 j ∧ Pr pb base (bs ++ joinAll (ss.take j)) bare v wr ∧ PK pb base w wr)
  case atStart => exact ⟨0, v, rfl, rfl, by simpa [joinAll] using hP, PK.refl _ _ _⟩
  case round =>
    obtain ⟨j, v, hj, rfl, hP', hK⟩ := hrel
    by_cases hlt : j < ss.length
    · have hrow' := hK.high b _ 9 _ (by omega) hrow (by decide)
      have hs : wr.cell? ⟨b, j, none⟩ = some (.string ss[j]) := by simp [World.cell?, hrow', hlt]
      have hjn := joinAll_snoc ss j hlt
      have hle := joinAll_take_le ss (j + 1)
      rw [hjn, List.length_append] at hle
      have HJ : Hid (joinAll (ss.take (j + 1)) = joinAll (ss.take j) ++ ss[j].data.toList) := hjn
      have hsz : ss[j].data.toList.length = ss[j].size := by simp
      rw [hsz] at hle
      clear hsz
      generalize ss[j] = s at hs HJ hle
      obtain ⟨X, hX⟩ : ∃ X, X = bs ++ joinAll (ss.take j) := ⟨_, rfl⟩
      rw [← hX] at hP'
      have hXl : X.length = bs.length + (joinAll (ss.take j)).length := by rw [hX, List.length_append]
      have hlen : X.length ≤ 60000 := by omega
      have hl2 : X.length + s.size ≤ 60000 := by omega
      have HX : Hid (X = bs ++ joinAll (ss.take j)) := hX
      clear hX hXl
      obtain ⟨p, cap, rfl⟩ := hP'.form
      have hc := hP'.cell
      have hfz := hP'.frozen 0
      have hbz := hK.size
      have hown := hP'.own
      have HP : Hid (Pr pb base X bare (.slice p X.length cap) wr) := hP'
      have HG : Hid (gk + j = ss.length) := hj
      clear hjn hj hrow' hP'
      go_wp2_with (first
        | (go_at_call 42; refine (isFull_any pb base _ bare _ _ HP.out hlen).mono ?_; rintro e w1 ⟨rfl, rfl⟩)
        | (at_builtin; refine Lib.wpList_append_own_string _ rfl _ _ 82 9 rfl base 5 i0 Tryz.underlying82 Tryz.underlying9 hi hz0 hz1 hz2 _ _ _ rfl hown s rfl (by unfold maxLen; omega) (by omega) (by omega) ?_; intro v' w3 hown3 hgr3 _
           have hK3 : PK pb base _ w3 := PK.grown hown hgr3 (by omega)
           have hrow3 : w3.heap[pb]? = some (.cells #[.slice p X.length cap, .int .i64 0, .bool bare] 84 (0, 0)) := (hgr3.block pb (by omega) (fun e => by have := (hown.lt pb e.symm).1; omega)).trans HP.out.row
           have hc3 : w3.cell? ⟨pb, 0, none⟩ = some (.slice p X.length cap) := by simp [World.cell?, hrow3]
           have hf3 : w3.frozen? ⟨pb, 0, none⟩ = false := by simp [World.frozen?, hrow3]
           have HR3 : Hid (w3.heap[pb]? = some (.cells #[.slice p X.length cap, .int .i64 0, .bool bare] 84 (0, 0))) := hrow3
           have HO3 : Hid (w3.ownsRow base 5 1 v' (X.length + s.size) (Lib.byteCells X ++ Lib.strCells s)) := hown3
           obtain ⟨p', cap', rfl⟩ := ownsRow_slice hown3
           clear hrow3 hown3 hgr3))
      go_roundg (ss.length - (j + 1))
      case measure => have := HG.out; omega
      case rel =>
        refine ⟨j + 1, _, by omega, by go_num, ⟨heap_set HR3.out 0 _, ?_⟩, (hK.trans hK3).trans (PK.set pb base w3 0 _)⟩
        have h1 := HO3.out.kept (grownBy_set' w3 pb 0 (.slice p' (X.length + s.size) cap')) (.inr (fun e => by have := (HO3.out.lt pb e).1; omega))
        rw [HJ.out, ← List.append_assoc, ← HX.out, List.length_append, byteCells_app]
        simpa [Lib.strCells, Lib.byteCells] using h1
    · have hjl : j = ss.length := by omega
      subst hjl
      rw [List.take_length] at hP'
      go_wp2_with fail
      go_end0
      exact ⟨⟨_, rfl⟩, v, hP', hK⟩
end Go.Proofs.YthbnegggohegkaaGreatDoor
namespace Go.Proofs.YthbnegggohegkaaGreatDoor
open Go.RowKit

/-- How close an expression's parts hold together. -/
def lev (t : MT) : Int := if t.kind = 51 then (if t.text = ⟨#[43]⟩ then 4 else 5) else 7

set_option maxRecDepth 100000 in
set_option maxHeartbeats 1000000 in
theorem level_sim (t : MT) (h : Sim t) (w : World) : Calls Tryz.prog 147 #[nodeV t] w fun e w' => e = .returned (.int .i64 (lev t)) ∧ Below w.heap.size w w' := by
  cases h with
  | name s a p c hs =>
    have e1 : lev (MT.node 14 s 0 a p c []) = 7 := rfl
    rw [e1]
    simp only [nodeV, MT.kind_node, MT.text_node, MT.num_node, MT.at_node, MT.ptr_node, MT.cap_node, MT.kids_node]
    go_enter Tryz.func147, Tryz.ntmps147
    go_wp2
    go_ret
    exact ⟨rfl, below1 _ _⟩
  | bin s a p c x y hs hx hy =>
    rcases hs with rfl | rfl
    · have e1 : lev (MT.node 51 ⟨#[43]⟩ 0 a p c [x, y]) = 4 := by simp [lev, MT.kind_node, MT.text_node]
      rw [e1]
      simp only [nodeV, MT.kind_node, MT.text_node, MT.num_node, MT.at_node, MT.ptr_node, MT.cap_node, MT.kids_node]
      go_enter Tryz.func147, Tryz.ntmps147
      go_wp2
      go_ret
      exact ⟨rfl, below1 _ _⟩
    · have e1 : lev (MT.node 51 ⟨#[42]⟩ 0 a p c [x, y]) = 5 := by simp [lev, MT.kind_node, MT.text_node]
      rw [e1]
      simp only [nodeV, MT.kind_node, MT.text_node, MT.num_node, MT.at_node, MT.ptr_node, MT.cap_node, MT.kids_node]
      go_enter Tryz.func147, Tryz.ntmps147
      go_wp2
      go_ret
      exact ⟨rfl, below1 _ _⟩

/-- What plain does at a tree. -/
def Plain (pb base : Nat) (t : MT) (out : List UInt8) : Prop :=
  ∀ (bs : List UInt8) (v : Value) (w : World), Pr pb base bs false v w → base ≤ w.heap.size → t.In pb w → bs.length + out.length ≤ 50000 →
    Calls Tryz.prog 132 #[.pointer (some ⟨pb, 0, none⟩), nodeV t] w fun e w' => (∃ u, e = .returned u) ∧ ∃ v', Pr pb base (bs ++ out) false v' w' ∧ PK pb base w w'

/-- A pointer in a box, and a node in one. -/
structure Two (pb bp bn : Nat) (t : MT) (w : World) : Prop where
  p : w.heap[bp]? = some (.cells #[.pointer (some ⟨pb, 0, none⟩)] 114 (0, 0))
  n : w.heap[bn]? = some (.cells #[.int .i64 t.kind, .string t.text, .int .i64 t.num, .int .i64 t.at_, .slice t.ptr t.kids.length t.cap] 24 (0, 0))

theorem Two.keep {pb base bp bn : Nat} {t : MT} {w w' : World} (h : Two pb bp bn t w) (hk : PK pb base w w') (hp : bp ≠ pb) (hn : bn ≠ pb) : Two pb bp bn t w' :=
  ⟨hk.high bp _ _ _ hp h.p (by decide), hk.high bn _ _ _ hn h.n (by decide)⟩
theorem Two.cp {pb bp bn : Nat} {t : MT} {w : World} (h : Two pb bp bn t w) : w.cell? ⟨bp, 0, none⟩ = some (.pointer (some ⟨pb, 0, none⟩)) := by simp [World.cell?, h.p]
theorem Two.cn {pb bp bn : Nat} {t : MT} {w : World} (h : Two pb bp bn t w) : BoxAt w bn t := ⟨by simp [World.cell?, h.n], by simp [World.cell?, h.n], by simp [World.cell?, h.n], by simp [World.cell?, h.n], by simp [World.cell?, h.n]⟩

set_option maxHeartbeats 1000000 in
theorem part1_any (pb base bp bn : Nat) (t : MT) (out bs : List UInt8) (HPl : Plain pb base t out) (v : Value) (w : World) (hP : Pr pb base bs false v w) (hB : base ≤ w.heap.size) (hin : t.In pb w) (hl : bs.length + out.length ≤ 50000) (h2 : Two pb bp bn t w) :
    Calls Tryz.prog 131 #[.pointer (some ⟨bp, 0, none⟩), .pointer (some ⟨bn, 0, none⟩)] w fun e w' => (∃ u, e = .returned u) ∧ ∃ v', Pr pb base (bs ++ out) false v' w' ∧ PK pb base w w' := by
  have hc := h2.cp
  obtain ⟨k0, k1, k2, k3, k4⟩ := h2.cn
  go_enter Tryz.func131, Tryz.ntmps131
  go_wp2_with fail
  refine (HPl bs v _ hP hB hin hl).mono ?_
  rintro e w1 ⟨⟨u, rfl⟩, hr⟩
  go_wp2_with fail
  go_end0
  exact ⟨⟨_, rfl⟩, hr⟩

theorem Pr.set {pb base : Nat} {bs : List UInt8} {bare b : Bool} {v : Value} {w : World} (h : Pr pb base bs bare v w) (hpb : pb < base) : Pr pb base bs b v (w.setCell ⟨pb, 2, none⟩ (.bool b)) :=
  ⟨heap_set h.row 2 _, h.own.kept (grownBy_set' w pb 2 _) (.inr (fun e => by have := (h.own.lt pb e).1; omega))⟩

theorem In.pk {pb base : Nat} {t : MT} {w w' : World} (h : t.In pb w) (hk : PK pb base w w') (hpb : pb < base) : t.In pb w' := MT.In.below (hk.below (Nat.le_of_lt hpb) (Nat.le_refl _)) t h

set_option maxRecDepth 100000 in
set_option maxHeartbeats 2000000 in
theorem bracketed_any (pb base bp bn : Nat) (t : MT) (out bs : List UInt8) (HPl : Plain pb base t out) (v : Value) (w : World) (hP : Pr pb base bs false v w) (hpb : pb < base) (hB : base ≤ w.heap.size) (hin : t.In pb w) (hl : bs.length + out.length + 2 ≤ 50000) (h2 : Two pb bp bn t w) (hbp : bp ≠ pb) (hbn : bn ≠ pb) :
    Calls Tryz.prog 130 #[.pointer (some ⟨pb, 0, none⟩), .string ⟨#[40]⟩, .string ⟨#[41]⟩, .func (.func 131) #[] #[.pointer (some ⟨bp, 0, none⟩), .pointer (some ⟨bn, 0, none⟩)]] w fun e w' => (∃ u, e = .returned u) ∧ ∃ v', Pr pb base (bs ++ ([40] ++ out ++ [41])) false v' w' ∧ PK pb base w w' := by
  have HP : Hid (Plain pb base t out) := HPl
  clear HPl
  have c2 := hP.bare
  have f2 := hP.frozen 2
  have hP1 : Pr pb base bs false v (w.setCell ⟨pb, 2, none⟩ (.bool false)) := hP.set hpb
  have hK1 := PK.set pb base w 2 (.bool false)
  have hz1 := hK1.size
  have hP2 := hP1.below (below1 _ (.cells #[.string ⟨#[40]⟩] 9))
  have hK2 := hK1.trans (PK.of (pb := pb) (below1 (w.setCell ⟨pb, 2, none⟩ (.bool false)) (.cells #[.string ⟨#[40]⟩] 9)) (by omega))
  have hr2 := heap_alloc_new (w.setCell ⟨pb, 2, none⟩ (.bool false)) (.cells #[.string ⟨#[40]⟩] 9)
  go_enter Tryz.func130, Tryz.ntmps130
  go_wp2_with fail
  simp only [World.size_setCell] at hr2
  refine (put_any pb base w.heap.size [⟨#[40]⟩] bs false v _ hP2 hpb (by simp; omega) hB hr2 (by simp [joinAll]; omega) (by simp)).mono ?_
  rintro e w3 ⟨⟨u, rfl⟩, v3, hP3, hK3⟩
  have e40 : bs ++ joinAll [⟨#[40]⟩] = bs ++ [40] := by simp [joinAll]
  rw [e40] at hP3
  have hKA := hK2.trans hK3
  have hzA := hKA.size
  have h2A := h2.keep hKA hbp hbn
  have hinA := In.pk hin hKA hpb
  clear hP hP1 hP2 hK1 hK2 hK3 hr2 c2 f2 e40 h2 hin
  go_wp2_with fail
  refine (part1_any pb base bp bn t out (bs ++ [40]) HP.out v3 _ hP3 (by omega) hinA (by simp; omega) h2A).mono ?_
  rintro e w4 ⟨⟨u, rfl⟩, v4, hP4, hK4⟩
  have hKB := hKA.trans hK4
  have hzB := hKB.size
  have hP5 := hP4.below (below1 _ (.cells #[.string ⟨#[41]⟩] 9))
  have hKC := hKB.trans (PK.of (pb := pb) (below1 w4 (.cells #[.string ⟨#[41]⟩] 9)) (by omega))
  have hr5 := heap_alloc_new w4 (.cells #[.string ⟨#[41]⟩] 9)
  clear hP3 hP4 hKA hK4 h2A hinA
  go_wp2_with fail
  refine (put_any pb base w4.heap.size [⟨#[41]⟩] (bs ++ [40] ++ out) false v4 _ hP5 hpb (by simp; omega) (by omega) hr5 (by simp [joinAll]; omega) (by simp)).mono ?_
  rintro e w6 ⟨⟨u, rfl⟩, v6, hP6, hK6⟩
  have hKD := hKC.trans hK6
  have e41 : bs ++ [40] ++ out ++ joinAll [⟨#[41]⟩] = bs ++ ([40] ++ out ++ [41]) := by simp [joinAll]
  rw [e41] at hP6
  have c6 := hP6.bare
  have f6 := hP6.frozen 2
  have HE : Hid (Pr pb base (bs ++ ([40] ++ out ++ [41])) false v6 (w6.setCell ⟨pb, 2, none⟩ (.bool false)) ∧ PK pb base w (w6.setCell ⟨pb, 2, none⟩ (.bool false))) := ⟨hP6.set hpb, hKD.trans (PK.set pb base w6 2 _)⟩
  clear hP5 hr5 hKC hK6 hKB e41 hP6 hKD
  go_wp2_with fail
  go_end0
  exact ⟨⟨_, rfl⟩, v6, HE.out⟩

/-- Within brackets, if they are needed. -/
def brk (b : Bool) (out : List UInt8) : List UInt8 := if b then [40] ++ out ++ [41] else out

set_option maxRecDepth 100000 in
set_option maxHeartbeats 2000000 in
theorem part_any (pb base : Nat) (t : MT) (out bs : List UInt8) (HPl : Plain pb base t out) (need : Bool) (v : Value) (w : World) (hP : Pr pb base bs false v w) (hpb : pb < base) (hB : base ≤ w.heap.size) (hin : t.In pb w) (hl : bs.length + (brk need out).length ≤ 50000) :
    Calls Tryz.prog 101 #[.pointer (some ⟨pb, 0, none⟩), nodeV t, .bool need] w fun e w' => (∃ u, e = .returned u) ∧ ∃ v', Pr pb base (bs ++ brk need out) false v' w' ∧ PK pb base w w' := by
  have HP : Hid (Plain pb base t out) := HPl
  clear HPl
  have hb2 := below2 w (.cells #[.pointer (some ⟨pb, 0, none⟩)] 114) (nodeO t)
  have hP2 := hP.below hb2
  have hK2 := PK.of (pb := pb) hb2 hB
  have hin2 := In.pk hin hK2 hpb
  have h2 : Two pb w.heap.size (w.heap.size + 1) t ((w.alloc (.cells #[.pointer (some ⟨pb, 0, none⟩)] 114)).alloc (nodeO t)) := by
    refine ⟨?_, ?_⟩
    · exact (Below.heap_alloc _ _ _ (by simp)).trans (heap_alloc_new w _)
    · have := heap_alloc_new (w.alloc (.cells #[.pointer (some ⟨pb, 0, none⟩)] 114)) (nodeO t)
      rwa [World.size_alloc] at this
  have hc := hP2.bare
  cases need
  · go_enter Tryz.func101, Tryz.ntmps101
    go_wp2_with fail
    refine (HP.out bs v _ hP2 (by simp; omega) hin2 hl).mono ?_
    rintro e w3 ⟨⟨u, rfl⟩, v3, hP3, hK3⟩
    have HE : Hid (Pr pb base (bs ++ brk false out) false v3 w3 ∧ PK pb base w w3) := ⟨hP3, hK2.trans hK3⟩
    clear hP3 hK3 hP2 hK2 h2 hc
    go_wp2_with fail
    go_end0
    exact ⟨⟨_, rfl⟩, v3, HE.out⟩
  · go_enter Tryz.func101, Tryz.ntmps101
    go_wp2_with fail
    refine (bracketed_any pb base w.heap.size (w.heap.size + 1) t out bs HP.out v _ hP2 hpb (by simp; omega) hin2 (by simp [brk] at hl; omega) h2 (by omega) (by omega)).mono ?_
    rintro e w3 ⟨⟨u, rfl⟩, v3, hP3, hK3⟩
    have HE : Hid (Pr pb base (bs ++ brk true out) false v3 w3 ∧ PK pb base w w3) := ⟨hP3, hK2.trans hK3⟩
    clear hP3 hK3 hP2 hK2 h2 hc
    go_wp2_with fail
    refine bodyPost_ret (results_none rfl _ _ _) rfl ?_
    exact ⟨⟨_, rfl⟩, v3, HE.out⟩
end Go.Proofs.YthbnegggohegkaaGreatDoor
namespace Go.Proofs.YthbnegggohegkaaGreatDoor
open Go.RowKit

/-- How a name, a sum or a product is written. -/
inductive Wr : MT → List UInt8 → Prop
  | name (s : ByteArray) (a : Int) (p : Option Addr) (c : Nat) (hs : Abc s) : Wr (.node 14 s 0 a p c []) s.data.toList
  | bin (s : ByteArray) (a : Int) (p : Option Addr) (c : Nat) (x y : MT) (bx bY : List UInt8) (hs : Sgn s) (hx : Wr x bx) (hy : Wr y bY) :
      Wr (.node 51 s 0 a p c [x, y]) (brk (decide (lev x < lev (.node 51 s 0 a p c [x, y]))) bx ++ ([32] ++ s.data.toList ++ [32]) ++ brk (decide (lev y ≤ lev (.node 51 s 0 a p c [x, y]))) bY)

theorem Wr.sim {t : MT} {out : List UInt8} (h : Wr t out) : Sim t := by
  induction h with
  | name s a p c hs => exact .name s a p c hs
  | bin s a p c x y bx bY hs _ _ ihx ihy => exact .bin s a p c x y hs ihx ihy

theorem brk_len (b : Bool) (out : List UInt8) : out.length ≤ (brk b out).length ∧ (brk b out).length ≤ out.length + 2 := by
  cases b <;> simp [brk] <;> omega

set_option maxRecDepth 100000 in
set_option maxHeartbeats 2000000 in
theorem plain_name (pb base : Nat) (hpb : pb < base) (s : ByteArray) (a : Int) (p : Option Addr) (c : Nat) : Plain pb base (.node 14 s 0 a p c []) s.data.toList := by
  intro bs v w hP hB hin hl
  have hb2 := below2 w (.cells #[.pointer (some ⟨pb, 0, none⟩)] 114) (.cells (leafN 14 s a p c) 24)
  have hb3 := hb2.alloc (by simp; omega) (.cells #[.string s] 9)
  have hP3 := hP.below hb3
  have hK3 := PK.of (pb := pb) hb3 hB
  have hr3 := heap_alloc_new ((w.alloc (.cells #[.pointer (some ⟨pb, 0, none⟩)] 114)).alloc (.cells (leafN 14 s a p c) 24)) (.cells #[.string s] 9)
  simp only [World.size_alloc] at hr3
  simp only [nodeV, MT.kind_node, MT.text_node, MT.num_node, MT.at_node, MT.ptr_node, MT.cap_node, MT.kids_node, List.length_nil]
  go_enter Tryz.func132, Tryz.ntmps132
  go_wp2_with fail
  refine (put_any pb base (w.heap.size + 1 + 1) [s] bs false v _ hP3 hpb (by simp; omega) (by omega) hr3 (by simp [joinAll] at hl ⊢; omega) (by simp)).mono ?_
  rintro e w4 ⟨⟨u, rfl⟩, v4, hP4, hK4⟩
  have HE : Hid (Pr pb base (bs ++ s.data.toList) false v4 w4 ∧ PK pb base w w4) := ⟨by simpa [joinAll] using hP4, hK3.trans hK4⟩
  clear hP4 hK4 hP3 hK3 hr3 hb2 hb3
  go_wp2_with fail
  go_end0
  exact ⟨⟨_, rfl⟩, v4, HE.out⟩

theorem PK.drew (pb base : Nat) (w : World) : PK pb base w w.drew := ⟨rfl, rfl, rfl, Nat.le_refl _, fun _ _ _ => rfl, fun _ _ _ _ _ h _ => h⟩

set_option maxRecDepth 100000 in
set_option maxHeartbeats 4000000 in
theorem plain_bin (pb base : Nat) (hpb : pb < base) (s : ByteArray) (a : Int) (b o c : Nat) (x y : MT) (bx bY : List UInt8) (hs : Sgn s) (hx : Wr x bx) (hy : Wr y bY) (HX : Plain pb base x bx) (HY : Plain pb base y bY)
    (bs : List UInt8) (v : Value) (w : World) (hP : Pr pb base bs false v w) (hB : base ≤ w.heap.size) (hb : b < pb) (hL : MT.InL pb w b o [x, y])
    (hl : bs.length + (brk (decide (lev x < lev (.node 51 s 0 a (some ⟨b, o, none⟩) c [x, y]))) bx ++ ([32] ++ s.data.toList ++ [32]) ++ brk (decide (lev y ≤ lev (.node 51 s 0 a (some ⟨b, o, none⟩) c [x, y]))) bY).length ≤ 50000) :
    Calls Tryz.prog 132 #[.pointer (some ⟨pb, 0, none⟩), .agg (binN s a (some ⟨b, o, none⟩) c)] w fun e w' => (∃ u, e = .returned u) ∧ ∃ v', Pr pb base (bs ++ (brk (decide (lev x < lev (.node 51 s 0 a (some ⟨b, o, none⟩) c [x, y]))) bx ++ ([32] ++ s.data.toList ++ [32]) ++ brk (decide (lev y ≤ lev (.node 51 s 0 a (some ⟨b, o, none⟩) c [x, y]))) bY)) false v' w' ∧ PK pb base w w' := by
  have HLt : Hid (∀ W, Calls Tryz.prog 147 #[.agg (binN s a (some ⟨b, o, none⟩) c)] W fun e w' => e = .returned (.int .i64 (lev (.node 51 s 0 a (some ⟨b, o, none⟩) c [x, y]))) ∧ Below W.heap.size W w') := fun W => level_sim _ (.bin s a _ c x y hs hx.sim hy.sim) W
  generalize lev (.node 51 s 0 a (some ⟨b, o, none⟩) c [x, y]) = lt at HLt hl ⊢
  have hlx := (brk_len (decide (lev x < lt)) bx).1
  have hly := (brk_len (decide (lev y ≤ lt)) bY).1
  simp only [List.length_append, List.length_cons, List.length_nil] at hl
  have hsz : s.data.toList.length = s.size := rfl
  have HLx : Hid (∀ W, Calls Tryz.prog 147 #[nodeV x] W fun e w' => e = .returned (.int .i64 (lev x)) ∧ Below W.heap.size W w') := fun W => level_sim x hx.sim W
  have HLy : Hid (∀ W, Calls Tryz.prog 147 #[nodeV y] W fun e w' => e = .returned (.int .i64 (lev y)) ∧ Below W.heap.size W w') := fun W => level_sim y hy.sim W
  have h2 : Two pb w.heap.size (w.heap.size + 1) (.node 51 s 0 a (some ⟨b, o, none⟩) c [x, y]) ((w.alloc (.cells #[.pointer (some ⟨pb, 0, none⟩)] 114)).alloc (.cells (binN s a (some ⟨b, o, none⟩) c) 24)) := by
    refine ⟨?_, ?_⟩
    · exact (Below.heap_alloc _ _ _ (by simp)).trans (heap_alloc_new w _)
    · have := heap_alloc_new (w.alloc (.cells #[.pointer (some ⟨pb, 0, none⟩)] 114)) (.cells (binN s a (some ⟨b, o, none⟩) c) 24)
      rwa [World.size_alloc] at this
  have hb2 := below2 w (.cells #[.pointer (some ⟨pb, 0, none⟩)] 114) (.cells (binN s a (some ⟨b, o, none⟩) c) 24)
  have hP2 := hP.below hb2
  have hz2 : ((w.alloc (.cells #[.pointer (some ⟨pb, 0, none⟩)] 114)).alloc (.cells (binN s a (some ⟨b, o, none⟩) c) 24)).heap.size = w.heap.size + 2 := by simp
  have hK2 := PK.of (pb := pb) hb2 hB
  have HL2 : Hid (MT.InL pb ((w.alloc (.cells #[.pointer (some ⟨pb, 0, none⟩)] 114)).alloc (.cells (binN s a (some ⟨b, o, none⟩) c) 24)) b o [x, y]) := MT.InL.below (hb2.mono (by omega)) b o hb [x, y] hL
  go_enter Tryz.func132, Tryz.ntmps132
  go_wp2_with fail
  have HW : ∃ W2, W2 = ((w.alloc (.cells #[.pointer (some ⟨pb, 0, none⟩)] 114)).alloc (.cells (binN s a (some ⟨b, o, none⟩) c) 24)) := ⟨_, rfl⟩
  obtain ⟨W2, hW2⟩ := HW
  rw [← hW2] at h2 hb2 hP2 hz2 hK2 HL2 ⊢
  clear hW2 hL hP
  have HB : Hid (∀ W, PK pb base W2 W → (W.cell? ⟨w.heap.size, 0, none⟩ = some (.pointer (some ⟨pb, 0, none⟩)) ∧ W.cell? ⟨w.heap.size + 1, 0, none⟩ = some (.int .i64 51) ∧ W.cell? ⟨w.heap.size + 1, 1, none⟩ = some (.string s) ∧ W.cell? ⟨w.heap.size + 1, 2, none⟩ = some (.int .i64 0) ∧ W.cell? ⟨w.heap.size + 1, 3, none⟩ = some (.int .i64 a) ∧ W.cell? ⟨w.heap.size + 1, 4, none⟩ = some (.slice (some ⟨b, o, none⟩) 2 c))) := fun W hW => by
    have h3 := h2.keep hW (by omega) (by omega)
    obtain ⟨k0, k1, k2, k3, k4⟩ := h3.cn
    exact ⟨h3.cp, k0, k1, k2, k3, k4⟩
  have HK : Hid (∀ W, PK pb base W2 W → (W.cell? ⟨w.heap.size, 0, none⟩ = some (.pointer (some ⟨pb, 0, none⟩)) ∧ W.cell? ⟨w.heap.size + 1, 0, none⟩ = some (.int .i64 51) ∧ W.cell? ⟨w.heap.size + 1, 1, none⟩ = some (.string s) ∧ W.cell? ⟨w.heap.size + 1, 2, none⟩ = some (.int .i64 0) ∧ W.cell? ⟨w.heap.size + 1, 3, none⟩ = some (.int .i64 a) ∧ W.cell? ⟨w.heap.size + 1, 4, none⟩ = some (.slice (some ⟨b, o, none⟩) 2 c) ∧ W.cell? ⟨b, o, none⟩ = some (.int .i64 x.kind) ∧ W.cell? ⟨b, o + 1, none⟩ = some (.string x.text) ∧ W.cell? ⟨b, o + 2, none⟩ = some (.int .i64 x.num) ∧ W.cell? ⟨b, o + 3, none⟩ = some (.int .i64 x.at_) ∧ W.cell? ⟨b, o + 4, none⟩ = some (.slice x.ptr x.kids.length x.cap))) := fun W hW => by
    obtain ⟨p0, k0, k1, k2, k3, k4⟩ := HB.out W hW
    obtain ⟨⟨c0, c1, c2, c3, c4⟩, _⟩ := (MT.InL.below (hW.below (by omega) (Nat.le_refl _)) b o hb [x, y] HL2.out).get 0 (by simp)
    simp only [Nat.zero_mul, Nat.add_zero] at c0 c1 c2 c3 c4
    exact ⟨p0, k0, k1, k2, k3, k4, c0, c1, c2, c3, c4⟩
  obtain ⟨p0, k0, k1, k2, k3, k4, c0, c1, c2, c3, c4⟩ := HK.out W2 (PK.refl _ _ _)
  have HXP : Hid (∀ W, Below W2.heap.size W2 W → Calls Tryz.prog 101 #[.pointer (some ⟨pb, 0, none⟩), nodeV x, .bool (decide (lev x < lt))] W fun e w' => (∃ u, e = .returned u) ∧ ∃ v', Pr pb base (bs ++ brk (decide (lev x < lt)) bx) false v' w' ∧ PK pb base W2 w') := fun W hW =>
    (part_any pb base x bx bs HX (decide (lev x < lt)) v W (hP2.below hW) hpb (by have := hW.size; omega) (MT.In.below (hW.mono (by omega)) x (HL2.out.get 0 (by simp)).2) (by omega)).mono
      fun _ _ ⟨h1, v', h3, h4⟩ => ⟨h1, v', h3, (PK.of hW (by omega)).trans h4⟩
  have HS : Hid (Two pb w.heap.size (w.heap.size + 1) (.node 51 s 0 a (some ⟨b, o, none⟩) c [x, y]) W2 ∧ Pr pb base bs false v W2 ∧ PK pb base w W2) := ⟨h2, hP2, hK2⟩
  have hBW : base ≤ W2.heap.size := by omega
  have hbW : b < W2.heap.size := by omega
  clear h2 hP2 hK2 hb2
  go_region_held3 (fun W => W.cell? ⟨w.heap.size, 0, none⟩ = some (.pointer (some ⟨pb, 0, none⟩)) ∧ W.cell? ⟨w.heap.size + 1, 0, none⟩ = some (.int .i64 51) ∧ W.cell? ⟨w.heap.size + 1, 1, none⟩ = some (.string s) ∧ W.cell? ⟨w.heap.size + 1, 2, none⟩ = some (.int .i64 0) ∧ W.cell? ⟨w.heap.size + 1, 3, none⟩ = some (.int .i64 a) ∧ W.cell? ⟨w.heap.size + 1, 4, none⟩ = some (.slice (some ⟨b, o, none⟩) 2 c) ∧ W.cell? ⟨b, o, none⟩ = some (.int .i64 x.kind) ∧ W.cell? ⟨b, o + 1, none⟩ = some (.string x.text) ∧ W.cell? ⟨b, o + 2, none⟩ = some (.int .i64 x.num) ∧ W.cell? ⟨b, o + 3, none⟩ = some (.int .i64 x.at_) ∧ W.cell? ⟨b, o + 4, none⟩ = some (.slice x.ptr x.kids.length x.cap))
    (first | exact HK.out _ hkF | exact HK.out _ (PK.of hbB hBW) | exact HK.out _ (PK.of hbA hBW) | exact HK.out _ (PK.drew _ _ _))
    (first
      | (go_at_call_of 147 (MT.kind x); refine (HLx.out _).mono ?_; rintro e w1 ⟨rfl, hb0⟩; have hbA : Below W2.heap.size W2 w1 := ((Below.refl _ _).drew).trans (hb0.mono (by simp)))
      | (go_at_call 147; refine (HLt.out _).mono ?_; rintro e w2 ⟨rfl, hb1⟩; have hbB : Below W2.heap.size W2 w2 := hbA.trans (hb1.mono hbA.size))
      | (go_at_call 101; refine (HXP.out _ hbB).mono ?_; rintro e w3 ⟨⟨u, rfl⟩, v3, hP3, hkF⟩))
  clear p0 k0 k1 k2 k3 k4 c0 c1 c2 c3 c4 hb0 hb1 hbA hbB
  obtain ⟨p0, k0, k1, k2, k3, k4⟩ := HB.out w3 hkF
  have hz3 := hkF.size
  have hb4 := below1 w3 (.cells #[.string ⟨#[32]⟩, .string s, .string ⟨#[32]⟩] 9)
  have hP4 := hP3.below hb4
  have hK4 := hkF.trans (PK.of (pb := pb) hb4 (by omega))
  have hr4 := heap_alloc_new w3 (.cells #[.string ⟨#[32]⟩, .string s, .string ⟨#[32]⟩] 9)
  have HX4 : Hid (Pr pb base (bs ++ brk (decide (lev x < lt)) bx) false v3 (w3.alloc (.cells #[.string ⟨#[32]⟩, .string s, .string ⟨#[32]⟩] 9)) ∧ PK pb base W2 (w3.alloc (.cells #[.string ⟨#[32]⟩, .string s, .string ⟨#[32]⟩] 9)) ∧ (w3.alloc (.cells #[.string ⟨#[32]⟩, .string s, .string ⟨#[32]⟩] 9)).heap[w3.heap.size]? = some (.cells #[.string ⟨#[32]⟩, .string s, .string ⟨#[32]⟩] 9 (0, 0))) := ⟨hP4, hK4, hr4⟩
  clear hP3 hkF hb4 hP4 hK4 hr4 HXP HK
  go_wp2_with fail
  refine (put_any pb base w3.heap.size [⟨#[32]⟩, s, ⟨#[32]⟩] (bs ++ brk (decide (lev x < lt)) bx) false v3 _ HX4.out.1 hpb (by simp; omega) (by omega) HX4.out.2.2 (by simp [joinAll]; omega) (by simp)).mono ?_
  rintro e w5 ⟨⟨u5, rfl⟩, v5, hP5, hK5⟩
  have hK6 := HX4.out.2.1.trans hK5
  have hz5 := hK6.size
  have e5 : bs ++ brk (decide (lev x < lt)) bx ++ joinAll [⟨#[32]⟩, s, ⟨#[32]⟩] = bs ++ brk (decide (lev x < lt)) bx ++ ([32] ++ s.data.toList ++ [32]) := by simp [joinAll]
  rw [e5] at hP5
  have HK : Hid (∀ W, PK pb base w5 W → (W.cell? ⟨w.heap.size, 0, none⟩ = some (.pointer (some ⟨pb, 0, none⟩)) ∧ W.cell? ⟨w.heap.size + 1, 0, none⟩ = some (.int .i64 51) ∧ W.cell? ⟨w.heap.size + 1, 1, none⟩ = some (.string s) ∧ W.cell? ⟨w.heap.size + 1, 2, none⟩ = some (.int .i64 0) ∧ W.cell? ⟨w.heap.size + 1, 3, none⟩ = some (.int .i64 a) ∧ W.cell? ⟨w.heap.size + 1, 4, none⟩ = some (.slice (some ⟨b, o, none⟩) 2 c) ∧ W.cell? ⟨b, o + 5, none⟩ = some (.int .i64 y.kind) ∧ W.cell? ⟨b, o + 5 + 1, none⟩ = some (.string y.text) ∧ W.cell? ⟨b, o + 5 + 2, none⟩ = some (.int .i64 y.num) ∧ W.cell? ⟨b, o + 5 + 3, none⟩ = some (.int .i64 y.at_) ∧ W.cell? ⟨b, o + 5 + 4, none⟩ = some (.slice y.ptr y.kids.length y.cap))) := fun W hW => by
    obtain ⟨p0, k0, k1, k2, k3, k4⟩ := HB.out W (hK6.trans hW)
    obtain ⟨⟨c0, c1, c2, c3, c4⟩, _⟩ := (MT.InL.below ((hK6.trans hW).below (by omega) (Nat.le_refl _)) b o hb [x, y] HL2.out).get 1 (by simp)
    simp only [Nat.one_mul] at c0 c1 c2 c3 c4
    exact ⟨p0, k0, k1, k2, k3, k4, c0, c1, c2, c3, c4⟩
  have HYP : Hid (∀ W, Below w5.heap.size w5 W → Calls Tryz.prog 101 #[.pointer (some ⟨pb, 0, none⟩), nodeV y, .bool (decide (lev y ≤ lt))] W fun e w' => (∃ u, e = .returned u) ∧ ∃ v', Pr pb base (bs ++ brk (decide (lev x < lt)) bx ++ ([32] ++ s.data.toList ++ [32]) ++ brk (decide (lev y ≤ lt)) bY) false v' w' ∧ PK pb base w5 w') := fun W hW =>
    (part_any pb base y bY (bs ++ brk (decide (lev x < lt)) bx ++ ([32] ++ s.data.toList ++ [32])) HY (decide (lev y ≤ lt)) v5 W (hP5.below hW) hpb (by have := hW.size; omega) (MT.In.below ((hK6.below (by omega) (Nat.le_refl _)).trans (hW.mono (by omega))) y (HL2.out.get 1 (by simp)).2) (by simp only [List.length_append, List.length_cons, List.length_nil]; omega)).mono
      fun _ _ ⟨h1, v', h3, h4⟩ => ⟨h1, v', h3, (PK.of hW (by omega)).trans h4⟩
  have HS6 : Hid (PK pb base w w5) := HS.out.2.2.trans hK6
  have hBW5 : base ≤ w5.heap.size := by omega
  have hbW5 : b < w5.heap.size := by omega
  clear p0 k0 k1 k2 k3 k4 hP5 hK5 hK6 HX4 HB e5
  go_wp2_with fail
  obtain ⟨p0, k0, k1, k2, k3, k4, c0, c1, c2, c3, c4⟩ := HK.out w5 (PK.refl _ _ _)
  go_region_held3 (fun W => W.cell? ⟨w.heap.size, 0, none⟩ = some (.pointer (some ⟨pb, 0, none⟩)) ∧ W.cell? ⟨w.heap.size + 1, 0, none⟩ = some (.int .i64 51) ∧ W.cell? ⟨w.heap.size + 1, 1, none⟩ = some (.string s) ∧ W.cell? ⟨w.heap.size + 1, 2, none⟩ = some (.int .i64 0) ∧ W.cell? ⟨w.heap.size + 1, 3, none⟩ = some (.int .i64 a) ∧ W.cell? ⟨w.heap.size + 1, 4, none⟩ = some (.slice (some ⟨b, o, none⟩) 2 c) ∧ W.cell? ⟨b, o + 5, none⟩ = some (.int .i64 y.kind) ∧ W.cell? ⟨b, o + 5 + 1, none⟩ = some (.string y.text) ∧ W.cell? ⟨b, o + 5 + 2, none⟩ = some (.int .i64 y.num) ∧ W.cell? ⟨b, o + 5 + 3, none⟩ = some (.int .i64 y.at_) ∧ W.cell? ⟨b, o + 5 + 4, none⟩ = some (.slice y.ptr y.kids.length y.cap))
    (first | exact HK.out _ hkG | exact HK.out _ (PK.of hbD hBW5) | exact HK.out _ (PK.of hbC hBW5) | exact HK.out _ (PK.drew _ _ _))
    (first
      | (go_at_call_of 147 (MT.kind y); refine (HLy.out _).mono ?_; rintro e w6 ⟨rfl, hb0⟩; have hbC : Below w5.heap.size w5 w6 := ((Below.refl _ _).drew).trans (hb0.mono (by simp)))
      | (go_at_call 147; refine (HLt.out _).mono ?_; rintro e w7 ⟨rfl, hb1⟩; have hbD : Below w5.heap.size w5 w7 := hbC.trans (hb1.mono hbC.size))
      | (go_at_call 101; refine (HYP.out _ hbD).mono ?_; rintro e w8 ⟨⟨u8, rfl⟩, v8, hP8, hkG⟩))
  have HE : Hid (Pr pb base (bs ++ (brk (decide (lev x < lt)) bx ++ 32 :: (s.data.toList ++ [32]) ++ brk (decide (lev y ≤ lt)) bY)) false v8 w8 ∧ PK pb base w w8) := ⟨by simpa using hP8, HS6.out.trans hkG⟩
  clear hP8 hkG
  go_wp2_with fail
  go_end0
  exact ⟨⟨_, rfl⟩, v8, HE.out⟩

theorem plain_wr (pb base : Nat) (hpb : pb < base) {t : MT} {out : List UInt8} (h : Wr t out) : Plain pb base t out := by
  induction h with
  | name s a p c hs => exact plain_name pb base hpb s a p c
  | bin s a p c x y bx bY hs hx hy ihx ihy =>
    intro bs v w hP hB hin hl
    have hk := hin.kidsL
    simp only [MT.kids_node, MT.ptr_node] at hk
    rcases hk with hk | ⟨b, o, rfl, hb, hL⟩
    · cases hk
    · exact plain_bin pb base hpb s a b o c x y bx bY hs hx hy ihx ihy bs v w hP hB hb hL hl
end Go.Proofs.YthbnegggohegkaaGreatDoor
namespace Go.Proofs.YthbnegggohegkaaGreatDoor
open Go.RowKit

set_option maxRecDepth 100000 in
set_option maxHeartbeats 1000000 in
theorem expression_any (pb base : Nat) (t : MT) (out bs : List UInt8) (HPl : Plain pb base t out) (v : Value) (w : World) (hP : Pr pb base bs false v w) (hpb : pb < base) (hB : base ≤ w.heap.size) (hin : t.In pb w) (hl : bs.length + out.length ≤ 50000) :
    Calls Tryz.prog 71 #[.pointer (some ⟨pb, 0, none⟩), nodeV t] w fun e w' => (∃ u, e = .returned u) ∧ ∃ v', Pr pb base (bs ++ out) false v' w' ∧ PK pb base w w' := by
  have HP : Hid (Plain pb base t out) := HPl
  clear HPl
  have hb1 := below1 w (nodeO t)
  have hP1 := hP.below hb1
  have hK1 := PK.of (pb := pb) hb1 hB
  have hin1 := In.pk hin hK1 hpb
  go_enter Tryz.func71, Tryz.ntmps71
  go_wp2_with fail
  refine (part_any pb base t out bs HP.out false v _ hP1 hpb (by simp; omega) hin1 hl).mono ?_
  rintro e w3 ⟨⟨u, rfl⟩, v3, hP3, hK3⟩
  have HE : Hid (Pr pb base (bs ++ out) false v3 w3 ∧ PK pb base w w3) := ⟨hP3, hK1.trans hK3⟩
  clear hP3 hK3 hP1 hK1
  go_wp2_with fail
  go_end0
  exact ⟨⟨_, rfl⟩, v3, HE.out⟩

set_option maxRecDepth 100000 in
set_option maxHeartbeats 1000000 in
theorem own_bin (pb base : Nat) (s : ByteArray) (a : Int) (p : Option Addr) (c : Nat) (x y : MT) (out bs : List UInt8) (HPl : Plain pb base (.node 51 s 0 a p c [x, y]) out) (v : Value) (w : World) (hP : Pr pb base bs false v w) (hpb : pb < base) (hB : base ≤ w.heap.size) (hin : (MT.node 51 s 0 a p c [x, y]).In pb w) (hl : bs.length + out.length ≤ 50000) :
    Calls Tryz.prog 41 #[.pointer (some ⟨pb, 0, none⟩), .agg (binN s a p c)] w fun e w' => (∃ u, e = .returned u) ∧ ∃ v', Pr pb base (bs ++ out) false v' w' ∧ PK pb base w w' := by
  have HP : Hid (Plain pb base (.node 51 s 0 a p c [x, y]) out) := HPl
  clear HPl
  have hb2 := below2 w (.cells #[.pointer (some ⟨pb, 0, none⟩)] 114) (.cells (binN s a p c) 24)
  have hP2 := hP.below hb2
  have hK2 := PK.of (pb := pb) hb2 hB
  have hin2 := In.pk hin hK2 hpb
  go_enter Tryz.func41, Tryz.ntmps41
  go_wp2_with fail
  refine (takes_2_51 _).mono ?_
  rintro e w3 ⟨rfl, rfl⟩
  go_wp2_with fail
  refine (takes_3_51 _).mono ?_
  rintro e w3 ⟨rfl, rfl⟩
  go_wp2_with fail
  refine (takes_12_51 _).mono ?_
  rintro e w3 ⟨rfl, rfl⟩
  go_wp2_with fail
  refine (expression_any pb base (.node 51 s 0 a p c [x, y]) out bs HP.out v _ hP2 hpb (by simp; omega) hin2 hl).mono ?_
  rintro e w3 ⟨⟨u, rfl⟩, v3, hP3, hK3⟩
  have HE : Hid (Pr pb base (bs ++ out) false v3 w3 ∧ PK pb base w w3) := ⟨hP3, hK2.trans hK3⟩
  clear hP3 hK3 hP2 hK2
  go_wp2_with fail
  go_end0
  exact ⟨⟨_, rfl⟩, v3, HE.out⟩

set_option maxRecDepth 100000 in
set_option maxHeartbeats 1000000 in
theorem print_bin {gw ow gs os : Nat} (s : ByteArray) (a : Int) (p : Option Addr) (c : Nat) (x y : MT) (out : List UInt8) (hW : Wr (.node 51 s 0 a p c [x, y]) out) (hsz : (MT.node 51 s 0 a p c [x, y]).size ≤ 60) (w : World) (ht : TabsAt gw ow gs os w) (hin : (MT.node 51 s 0 a p c [x, y]).In w.heap.size w) (hl : out.length ≤ 50000) :
    Calls Tryz.prog 26 #[.agg (binN s a p c)] w fun e w' => e = .returned (.tuple #[.string ⟨out.toArray⟩, .nilIface]) ∧ Below w.heap.size w w' := by
  have HR := right_sim (gw := gw) (ow := ow) (gs := gs) (os := os) _ hW.sim hsz
  have hb1 := below1 w (.cells (binN s a p c) 24)
  have ht1 := ht.below (Nat.le_refl _) hb1
  have hin1 := MT.In.mono (B' := (w.alloc (.cells (binN s a p c) 24)).heap.size) (by simp) _ (MT.In.below hb1 _ hin)
  go_enter Tryz.func26, Tryz.ntmps26
  go_wp2_with fail
  refine (HR _ ht1 hin1).mono ?_
  rintro e w2 ⟨rfl, hb2⟩
  have hB2 := hb1.trans (hb2.mono (by simp))
  have hz2 := hb2.size
  simp only [World.size_alloc] at hz2
  have hrow : (w2.alloc (.cells #[.slice none 0 0, .int .i64 0, .bool false] 84)).heap[w.heap.size]? = some (.cells (binN s a p c) 24 (0, 0)) :=
    (Below.heap_alloc _ _ _ (by omega)).trans ((hb2.block w.heap.size (by simp)).trans (heap_alloc_new w _))
  have hP3 : Pr w2.heap.size (w2.heap.size + 1) [] false (.slice none 0 0) (w2.alloc (.cells #[.slice none 0 0, .int .i64 0, .bool false] 84)) := ⟨heap_alloc_new w2 _, World.ownsRow_nil _ _ _ _⟩
  have hb3 := below1 w2 (.cells #[.slice none 0 0, .int .i64 0, .bool false] 84)
  have hin3 := MT.In.mono (B' := w2.heap.size) (by omega) _ (MT.In.below (hB2.trans (hb3.mono (by omega))) _ hin)
  have HPl := plain_wr w2.heap.size (w2.heap.size + 1) (by omega) hW
  obtain ⟨k0, k1, k2, k3, k4⟩ : BoxAt (w2.alloc (.cells #[.slice none 0 0, .int .i64 0, .bool false] 84)) w.heap.size (.node 51 s 0 a p c [x, y]) := ((BoxAt.new w (.node 51 s 0 a p c [x, y])).below (by simp) hb2).below (by omega) hb3
  clear ht1 hin1 hb1 HR
  go_wp2_with fail
  refine (own_bin w2.heap.size (w2.heap.size + 1) s a p c x y out [] HPl _ _ hP3 (by omega) (by simp) hin3 (by simpa using hl)).mono ?_
  rintro e w4 ⟨⟨u, rfl⟩, v4, hP4, hK4⟩
  have hP4' : Pr w2.heap.size (w2.heap.size + 1) out false v4 w4 := hP4
  clear hP4
  go_wp2_with fail
  refine (isFull_any w2.heap.size (w2.heap.size + 1) out false v4 _ hP4' (by omega)).mono ?_
  rintro e w5 ⟨rfl, rfl⟩
  have hc4 := hP4'.cell
  have hcv := conv_own hP4'.own
  have HE : Hid (Below w.heap.size w w5) := (hB2.trans (hb3.mono (by omega))).trans (hK4.below (by omega) (by omega))
  clear hK4 hP4' hb3 hB2 hb2 hP3 hrow k0 k1 k2 k3 k4
  go_wp2_with fail
  go_ret2
  exact ⟨rfl, HE.out⟩
end Go.Proofs.YthbnegggohegkaaGreatDoor
namespace Go.Proofs.YthbnegggohegkaaGreatDoor
open Go.RowKit
/-- What a printer has: the bytes that were written, how far in it is, whether it is in a head. -/
structure PS where
  bs : List UInt8
  ind : Nat
  bare : Bool
/-- Parts are written as long as there is room. -/
def putS : List ByteArray → PS → PS
  | [], s => s
  | p :: ps, s => putS ps (if s.bs.length ≤ 60000 then { s with bs := s.bs ++ p.data.toList } else s)
theorem putS_snoc : ∀ (ss : List ByteArray) (s : PS) (j : Nat) (hj : j < ss.length), putS (ss.take (j + 1)) s = (if (putS (ss.take j) s).bs.length ≤ 60000 then { (putS (ss.take j) s) with bs := (putS (ss.take j) s).bs ++ ss[j].data.toList } else putS (ss.take j) s)
  | p :: ss, s, 0, _ => by simp [putS]
  | p :: ss, s, j + 1, hj => by
    simp only [List.take_succ_cons, putS, List.getElem_cons_succ]
    exact putS_snoc ss _ j (by simpa using hj)
  | [], _, _, hj => absurd hj (by simp)
theorem putS_ind : ∀ (ss : List ByteArray) (s : PS), (putS ss s).ind = s.ind
  | [], _ => rfl
  | p :: ss, s => by rw [putS, putS_ind ss]; split <;> rfl
theorem putS_bare : ∀ (ss : List ByteArray) (s : PS), (putS ss s).bare = s.bare
  | [], _ => rfl
  | p :: ss, s => by rw [putS, putS_bare ss]; split <;> rfl
/-- A printer in memory. -/
structure Pr2 (pb base : Nat) (s : PS) (v : Value) (w : World) : Prop where
  row : w.heap[pb]? = some (.cells #[v, .int .i64 s.ind, .bool s.bare] 84 (0, 0))
  own : w.ownsRow base 5 1 v s.bs.length (Lib.byteCells s.bs)
  len : s.bs.length ≤ 4294967296
variable {pb base L : Nat} {s : PS} {v : Value} {w w' : World}
theorem Pr2.c0 (h : Pr2 pb base s v w) : w.cell? ⟨pb, 0, none⟩ = some v := by simp [World.cell?, h.row]
theorem Pr2.c1 (h : Pr2 pb base s v w) : w.cell? ⟨pb, 1, none⟩ = some (.int .i64 s.ind) := by simp [World.cell?, h.row]
theorem Pr2.c2 (h : Pr2 pb base s v w) : w.cell? ⟨pb, 2, none⟩ = some (.bool s.bare) := by simp [World.cell?, h.row]
theorem Pr2.fz (h : Pr2 pb base s v w) (o : Nat) : w.frozen? ⟨pb, o, none⟩ = false := by simp [World.frozen?, h.row]
theorem Pr2.lt (h : Pr2 pb base s v w) : pb < w.heap.size := (Array.getElem?_eq_some_iff.1 h.row).1
theorem Pr2.below (h : Pr2 pb base s v w) (hb : Below w.heap.size w w') : Pr2 pb base s v w' := by
  refine ⟨(hb.block pb h.lt).trans h.row, ⟨h.own.1, ?_⟩, h.len⟩
  rcases h.own.2 with hn | ⟨g, cap, cur, rfl, hg, hgg, rest⟩
  · exact .inl hn
  · exact .inr ⟨g, cap, cur, rfl, hg, (hb.block g (Array.getElem?_eq_some_iff.1 hgg).1).trans hgg, rest⟩
theorem Pr2.form (h : Pr2 pb base s v w) : ∃ p cap, v = .slice p s.bs.length cap := ownsRow_slice h.own
theorem Pr2.bare (h : Pr2 pb base s v w) (hpb : pb < base) (b : Bool) : Pr2 pb base { s with bare := b } v (w.setCell ⟨pb, 2, none⟩ (.bool b)) :=
  ⟨heap_set h.row 2 _, h.own.kept (grownBy_set' w pb 2 _) (.inr (fun e => by have := (h.own.lt pb e).1; omega)), h.len⟩
theorem Pr2.ind (h : Pr2 pb base s v w) (hpb : pb < base) (i : Nat) : Pr2 pb base { s with ind := i } v (w.setCell ⟨pb, 1, none⟩ (.int .i64 i)) :=
  ⟨heap_set h.row 1 _, h.own.kept (grownBy_set' w pb 1 _) (.inr (fun e => by have := (h.own.lt pb e).1; omega)), h.len⟩
/-- What a writer does: a function of what the printer has. -/
def Wc (fn : Nat) (args : Array Value) (pb base L : Nat) (C : World → Prop) (g : PS → PS) : Prop :=
  ∀ (s : PS) (v : Value) (w : World), s.ind ≤ L → Pr2 pb base s v w → base ≤ w.heap.size → C w →
    Calls Tryz.prog fn args w fun e w' => (∃ u, e = .returned u) ∧ ∃ v', Pr2 pb base (g s) v' w' ∧ (g s).ind = s.ind ∧ PK pb base w w'
/-- A writer of a node. -/
def Wf (fn pb base L : Nat) (x : MT) (g : PS → PS) : Prop := Wc fn #[.pointer (some ⟨pb, 0, none⟩), nodeV x] pb base L (fun w => x.In pb w) g
set_option maxHeartbeats 400000 in
theorem full_any (hP : Pr2 pb base s v w) (b : Bool) (hb : decide (60000 < s.bs.length) = b) :
    Calls Tryz.prog 42 #[.pointer (some ⟨pb, 0, none⟩)] w fun e w' => e = .returned (.bool b) ∧ w' = w := by
  obtain ⟨p, cap, rfl⟩ := hP.form
  have hc := hP.c0
  go_enter Tryz.func42, Tryz.ntmps42
  go_wp2
  go_ret
  exact ⟨congrArg (fun b => Ending.returned (.bool b)) (by rw [← hb]; simp; omega), rfl⟩
set_option maxRecDepth 100000 in
set_option maxHeartbeats 2000000 in
theorem put2_any (b : Nat) (ss : List ByteArray) (s : PS) (v : Value) (w : World) (hP : Pr2 pb base s v w) (hpb : pb < base) (hB : base ≤ w.heap.size) (hbb : base ≤ b)
    (hrow : w.heap[b]? = some (.cells (ss.map Value.string).toArray 9 (0, 0))) (hl : ∀ x ∈ ss, x.size ≤ 4000000000) (hk : ss.length ≤ 1000) :
    Calls Tryz.prog 96 #[.pointer (some ⟨pb, 0, none⟩), .slice (some ⟨b, 0, none⟩) ss.length ss.length] w fun e w' => (∃ u, e = .returned u) ∧ ∃ v', Pr2 pb base (putS ss s) v' w' ∧ PK pb base w w' := by
  obtain ⟨i0, hi, hz0, hz1, hz2⟩ := info_parts info5
  go_enter Tryz.func96, Tryz.ntmps96
  go_wp2_with fail
  go_loopg [8] ss.length (fun gk i wr => ∃ (j : Nat) (v : Value), gk + j = ss.length ∧ i = .int .i64 j ∧ Pr2 pb base (putS (ss.take j) s) v wr ∧ PK pb base w wr)
  case atStart => exact ⟨0, v, rfl, rfl, by simpa [putS] using hP, PK.refl _ _ _⟩
  case round =>
    obtain ⟨j, v, hj, rfl, hP', hK⟩ := hrel
    by_cases hlt : j < ss.length
    · have hrow' := hK.high b _ 9 _ (by omega) hrow (by decide)
      have hs : wr.cell? ⟨b, j, none⟩ = some (.string ss[j]) := by simp [World.cell?, hrow', hlt]
      have HJ : Hid (putS (ss.take (j + 1)) s = _) := putS_snoc ss s j hlt
      have hsz : ss[j].size ≤ 4000000000 := hl _ (List.getElem_mem hlt)
      generalize ss[j] = x at hs HJ hsz
      obtain ⟨X, hX⟩ : ∃ X, X = putS (ss.take j) s := ⟨_, rfl⟩
      rw [← hX] at hP' HJ
      have HG : Hid (gk + j = ss.length) := hj
      have hbz := hK.size
      clear hj hrow' hX
      obtain ⟨p, cap, rfl⟩ := hP'.form
      have hc := hP'.c0
      have hfz := hP'.fz 0
      have hown := hP'.own
      have HP : Hid (Pr2 pb base X (.slice p X.bs.length cap) wr) := hP'
      by_cases hfull : X.bs.length ≤ 60000
      · have HF : Hid (X.bs.length ≤ 60000) := hfull
        clear hP'
        go_wp2_with (first
          | (go_at_call 42; refine (full_any HP.out false (by simpa using hfull)).mono ?_; rintro e w1 ⟨rfl, rfl⟩)
          | (at_builtin; refine Lib.wpList_append_own_string _ rfl _ _ 82 9 rfl base 5 i0 Tryz.underlying82 Tryz.underlying9 hi hz0 hz1 hz2 _ _ _ rfl hown x rfl (by unfold maxLen; omega) (by omega) (by omega) ?_; intro v' w3 hown3 hgr3 _
             have hK3 : PK pb base _ w3 := PK.grown hown hgr3 (by omega)
             have hrow3 : w3.heap[pb]? = some (.cells #[.slice p X.bs.length cap, .int .i64 X.ind, .bool X.bare] 84 (0, 0)) := (hgr3.block pb (by omega) (fun e => by have := (hown.lt pb e.symm).1; omega)).trans HP.out.row
             have hc3 : w3.cell? ⟨pb, 0, none⟩ = some (.slice p X.bs.length cap) := by simp [World.cell?, hrow3]
             have hf3 : w3.frozen? ⟨pb, 0, none⟩ = false := by simp [World.frozen?, hrow3]
             have HR3 : Hid (w3.heap[pb]? = some (.cells #[.slice p X.bs.length cap, .int .i64 X.ind, .bool X.bare] 84 (0, 0))) := hrow3
             have HO3 : Hid (w3.ownsRow base 5 1 v' (X.bs.length + x.size) (Lib.byteCells X.bs ++ Lib.strCells x)) := hown3
             obtain ⟨p', cap', rfl⟩ := ownsRow_slice hown3
             clear hrow3 hown3 hgr3))
        go_roundg (ss.length - (j + 1))
        case measure => have := HG.out; omega
        case rel =>
          have hHG := HG.out
          refine ⟨j + 1, .slice p' (X.bs.length + x.size) cap', by omega, by go_num, ?_, (hK.trans hK3).trans (PK.set pb base w3 0 _)⟩
          have h1 := HO3.out.kept (grownBy_set' w3 pb 0 (.slice p' (X.bs.length + x.size) cap')) (.inr (fun e => by have := (HO3.out.lt pb e).1; omega))
          rw [HJ.out, if_pos HF.out]
          refine ⟨heap_set HR3.out 0 _, ?_, ?_⟩
          · show World.ownsRow _ base 5 1 _ (X.bs ++ x.data.toList).length (Lib.byteCells (X.bs ++ x.data.toList))
            rw [List.length_append, byteCells_app]
            simpa [Lib.strCells, Lib.byteCells] using h1
          · show (X.bs ++ x.data.toList).length ≤ _
            have e1 : x.data.toList.length = x.size := by simp
            rw [List.length_append, e1]; have := HF.out; omega
      · have HF : Hid (¬ X.bs.length ≤ 60000) := hfull
        clear hP'
        go_wp2_with (first
          | (go_at_call 42; refine (full_any HP.out true (by simpa using hfull)).mono ?_; rintro e w1 ⟨rfl, rfl⟩))
        go_roundg (ss.length - (j + 1))
        case measure => have := HG.out; omega
        case rel =>
          have hHG := HG.out
          refine ⟨j + 1, .slice p X.bs.length cap, by omega, by go_num, ?_, hK⟩
          rw [HJ.out, if_neg HF.out]
          exact HP.out
    · have hjl : j = ss.length := by omega
      subst hjl
      rw [List.take_length] at hP'
      go_wp2_with fail
      go_end0
      exact ⟨⟨_, rfl⟩, v, hP', hK⟩
/-- put, as it is called: its parts lie in a new row. -/
theorem putc (ss : List ByteArray) (hP : Pr2 pb base s v w) (hpb : pb < base) (hB : base ≤ w.heap.size) (hl : ∀ x ∈ ss, x.size ≤ 4000000000) (hk : ss.length ≤ 1000) {b : Nat} (hb : b = w.heap.size) :
    Calls Tryz.prog 96 #[.pointer (some ⟨pb, 0, none⟩), .slice (some ⟨b, 0, none⟩) ss.length ss.length] (w.alloc (.cells (ss.map Value.string).toArray 9)) fun e w' => (∃ u, e = .returned u) ∧ ∃ v', Pr2 pb base (putS ss s) v' w' ∧ PK pb base w w' := by
  subst hb
  refine (put2_any w.heap.size ss s v _ (hP.below (below1 _ _)) hpb (by simp; omega) hB (heap_alloc_new w _) hl hk).mono ?_
  rintro e w' ⟨h1, v', h2, h3⟩
  exact ⟨h1, v', h2, (PK.of (below1 _ _) hB).trans h3⟩
end Go.Proofs.YthbnegggohegkaaGreatDoor
namespace Go.Proofs.YthbnegggohegkaaGreatDoor
open Go.RowKit
variable {pb base L : Nat} {s : PS} {v : Value} {w w' : World}
/-- The function is one that is called. -/
def Ent (fn : Nat) : Prop := ∀ (args : Array Value) (w : World), (callFunc fn args).run Tryz.prog w = .ok (.enter fn args) w
theorem upon_ent {fn : Nat} {args : Array Value} {w : World} {o : Oper} {a : Act} {K : Act → World → Prop} {Q : Exit → Act → World → Prop} (hE : Ent fn) {R : Ending → World → Prop} (h : Calls Tryz.prog fn args w R) (hR : ∀ e w', R e w' → ∃ v, e = .returned v ∧ K (a.put o.dst v) w') :
    Oper.upon Tryz.prog o a K Q (Sem.run Tryz.prog (callFunc fn args) w) := by
  rw [hE]
  refine Calls.mono h ?_
  intro e w' hr
  obtain ⟨v, rfl, hk⟩ := hR e w' hr
  exact hk
/-- So many tabs. -/
def tabs : Nat → PS → PS
  | 0, s => s
  | n + 1, s => putS [⟨#[9]⟩] (tabs n s)
theorem tabs_ind : ∀ (n : Nat) (s : PS), (tabs n s).ind = s.ind
  | 0, _ => rfl
  | n + 1, s => by rw [tabs, putS_ind, tabs_ind n]
set_option maxRecDepth 100000 in
set_option maxHeartbeats 2000000 in
theorem indent_any (hpb : pb < base) (hL : s.ind ≤ 1000) (hP : Pr2 pb base s v w) (hB : base ≤ w.heap.size) :
    Calls Tryz.prog 95 #[.pointer (some ⟨pb, 0, none⟩)] w fun e w' => (∃ u, e = .returned u) ∧ ∃ v', Pr2 pb base (tabs s.ind s) v' w' ∧ PK pb base w w' := by
  have hc := hP.c1
  go_enter Tryz.func95, Tryz.ntmps95
  go_wp2_with fail
  go_loopg [6] s.ind (fun gk i wr => ∃ (j : Nat) (v : Value), gk + j = s.ind ∧ i = .int .i64 j ∧ Pr2 pb base (tabs j s) v wr ∧ PK pb base w wr)
  case atStart => exact ⟨0, v, rfl, rfl, hP, PK.refl _ _ _⟩
  case round =>
    obtain ⟨j, v, hj, rfl, hP', hK⟩ := hrel
    have hz := hK.size
    by_cases hlt : j < s.ind
    · have HG : Hid (gk + j = s.ind) := hj
      have HP : Hid (Pr2 pb base (tabs j s) v wr) := hP'
      clear hj hP'
      go_wp2_with (first
        | (go_at_call 96; refine (putc [⟨#[9]⟩] HP.out hpb (by omega) (by first | (simp; done) | (simp; decide)) (by simp) rfl).mono ?_; rintro e w3 ⟨⟨u, rfl⟩, v3, hP3, hK3⟩; have HP3 : Hid (Pr2 pb base _ v3 w3) := hP3; clear hP3))
      go_roundg (s.ind - (j + 1))
      case measure => have := HG.out; omega
      case rel => exact ⟨j + 1, v3, by omega, by go_num, HP3.out, hK.trans hK3⟩
    · have hjl : j = s.ind := by omega
      subst hjl
      go_wp2_with fail
      go_end0
      exact ⟨⟨_, rfl⟩, v, hP', hK⟩
set_option maxRecDepth 100000 in
set_option maxHeartbeats 2000000 in
theorem line_any {fn : Nat} {caps : Array Value} {C : World → Prop} {g : PS → PS} (hpb : pb < base) (hL : L ≤ 1000) (h : Wc fn caps pb base L C g) (hC : ∀ w w', C w → PK pb base w w' → C w') (hE : Ent fn) :
    Wc 63 #[.pointer (some ⟨pb, 0, none⟩), .func (.func fn) #[] caps] pb base L C (fun s => putS [⟨#[10]⟩] (g (tabs s.ind s))) := by
  intro s v w hi hP hB hc
  have H : Hid (Wc fn caps pb base L C g) := h
  go_enter Tryz.func63, Tryz.ntmps63
  go_wp2_with fail
  refine (indent_any hpb (Nat.le_trans hi hL) hP hB).mono ?_
  rintro e w1 ⟨⟨u, rfl⟩, v1, hP1, hK1⟩
  have hz1 := hK1.size
  have hc1 := hC _ _ hc hK1
  go_wp2_with fail
  refine upon_ent hE (H.out (tabs s.ind s) v1 w1 (by rw [tabs_ind]; exact hi) hP1 (by omega) hc1) ?_
  rintro e w2 ⟨⟨u2, rfl⟩, v2, hP2, hi2, hK2⟩
  refine ⟨u2, rfl, ?_⟩
  simp only [Act.put, List.setIfInBounds_toArray, List.set_cons_succ, List.set_cons_zero]
  have hz2 := hK2.size
  go_wp2_with fail
  refine (putc [⟨#[10]⟩] hP2 hpb (by omega) (by first | (simp; done) | (simp; decide)) (by simp) rfl).mono ?_
  rintro e w3 ⟨⟨u3, rfl⟩, v3, hP3, hK3⟩
  have HE : Hid (Pr2 pb base (putS [⟨#[10]⟩] (g (tabs s.ind s))) v3 w3 ∧ (putS [⟨#[10]⟩] (g (tabs s.ind s))).ind = s.ind ∧ PK pb base w w3) := ⟨hP3, by rw [putS_ind, hi2, tabs_ind], (hK1.trans hK2).trans hK3⟩
  clear hP hP1 hP2 hP3 hK1 hK2 hK3
  go_wp2_with fail
  go_end0
  exact ⟨⟨_, rfl⟩, v3, HE.out⟩
set_option maxRecDepth 100000 in
set_option maxHeartbeats 2000000 in
/-- Within brackets nothing is taken for a statement's block. -/
theorem brack_any {fn : Nat} {caps : Array Value} {C : World → Prop} {g : PS → PS} {o c : ByteArray} (hpb : pb < base) (ho : o.size ≤ 4000000000) (hsh : c.size ≤ 4000000000) (h : Wc fn caps pb base L C g) (hC : ∀ w w', C w → PK pb base w w' → C w') (hE : Ent fn) :
    Wc 130 #[.pointer (some ⟨pb, 0, none⟩), .string o, .string c, .func (.func fn) #[] caps] pb base L C (fun s => { (putS [c] (g (putS [o] { s with bare := false }))) with bare := s.bare }) := by
  intro s v w hi hP hB hc
  have H : Hid (Wc fn caps pb base L C g) := h
  have c2 := hP.c2
  have f2 := hP.fz 2
  have hP1 := hP.bare hpb false
  have hK1 := PK.set pb base w 2 (.bool false)
  have hz1 := hK1.size
  go_enter Tryz.func130, Tryz.ntmps130
  go_wp2_with fail
  refine (putc [o] hP1 hpb (by omega) (by simpa using ho) (by simp) (by simp)).mono ?_
  rintro e w3 ⟨⟨u, rfl⟩, v3, hP3, hK3⟩
  have hK4 := hK1.trans hK3
  have hz4 := hK4.size
  have hc3 := hC _ _ hc hK4
  clear hP hP1 hK1 hK3 c2 f2 hz1
  go_wp2_with fail
  refine upon_ent hE (H.out _ v3 w3 (by rw [putS_ind]; exact hi) hP3 (by omega) hc3) ?_
  rintro e w5 ⟨⟨u5, rfl⟩, v5, hP5, hi5, hK5⟩
  refine ⟨u5, rfl, ?_⟩
  simp only [Act.put, List.setIfInBounds_toArray, List.set_cons_succ, List.set_cons_zero]
  rw [putS_ind] at hi5
  have hK6 := hK4.trans hK5
  have hz6 := hK6.size
  clear hP3 hK4 hK5 hz4
  go_wp2_with fail
  refine (putc [c] hP5 hpb (by omega) (by simpa using hsh) (by simp) rfl).mono ?_
  rintro e w7 ⟨⟨u7, rfl⟩, v7, hP7, hK7⟩
  have c7 := hP7.c2
  have f7 := hP7.fz 2
  have HE : Hid (Pr2 pb base { (putS [c] (g (putS [o] { s with bare := false }))) with bare := s.bare } v7 (w7.setCell ⟨pb, 2, none⟩ (.bool s.bare)) ∧ (putS [c] (g (putS [o] { s with bare := false }))).ind = s.ind ∧ PK pb base w (w7.setCell ⟨pb, 2, none⟩ (.bool s.bare))) := ⟨hP7.bare hpb s.bare, by rw [putS_ind, hi5], (hK6.trans hK7).trans (PK.set pb base w7 2 _)⟩
  clear hP5 hP7 hK6 hK7 hz6
  go_wp2_with fail
  go_end0
  exact ⟨⟨_, rfl⟩, v7, HE.out⟩
/-- Nodes behind one another, below the printer. -/
def Kd (pb : Nat) (p : Option Addr) (ys : List MT) (w : World) : Prop := ys = [] ∨ ∃ b o, p = some ⟨b, o, none⟩ ∧ b < pb ∧ MT.InL pb w b o ys
theorem Kd.pk {p : Option Addr} {ys : List MT} (hpb : pb < base) (h : Kd pb p ys w) (hk : PK pb base w w') : Kd pb p ys w' := by
  rcases h with h | ⟨b, o, h1, h2, h3⟩
  · exact .inl h
  · exact .inr ⟨b, o, h1, h2, MT.InL.below (hk.below (by omega) (Nat.le_refl _)) b o h2 _ h3⟩
theorem BoxAt.pk {b : Nat} {t : MT} (h : BoxAt w b t) (hk : PK pb base w w') (hb : b ≠ pb) {cs : Array Value} (hr : w.heap[b]? = some (.cells cs 24 (0, 0))) : BoxAt w' b t := by
  have e := hk.high b cs 24 _ hb hr (by decide)
  have e2 : ∀ o, w'.cell? ⟨b, o, none⟩ = w.cell? ⟨b, o, none⟩ := fun o => by simp [World.cell?, e, hr]
  obtain ⟨k0, k1, k2, k3, k4⟩ := h
  exact ⟨(e2 _).trans k0, (e2 _).trans k1, (e2 _).trans k2, (e2 _).trans k3, (e2 _).trans k4⟩
def listG (gs : Nat → PS → PS) : Nat → PS → PS
  | 0, s => s
  | n + 1, s => gs n (if 0 < n then putS [⟨#[44, 32]⟩] (listG gs n s) else listG gs n s)
set_option maxRecDepth 100000 in
set_option maxHeartbeats 4000000 in
theorem listW_any {fn : Nat} {p : Option Addr} {c : Nat} {ys : List MT} {gs : Nat → PS → PS} (hpb : pb < base) (hlen : ys.length ≤ 1099511627776) (h : ∀ (i : Nat) (hi : i < ys.length), Wf fn pb base L ys[i] (gs i)) (hE : Ent fn) :
    Wc 70 #[.pointer (some ⟨pb, 0, none⟩), .slice p ys.length c, .func (.func fn) #[.pointer (some ⟨pb, 0, none⟩)] #[]] pb base L (Kd pb p ys) (listG gs ys.length) := by
  intro s v w hi hP hB hc
  have H : Hid (∀ (i : Nat) (hi : i < ys.length), Wf fn pb base L ys[i] (gs i)) := h
  have HC : Hid (Kd pb p ys w) := hc
  clear h hc
  go_enter Tryz.func70, Tryz.ntmps70
  go_wp2_with fail
  go_loopg [10] ys.length (fun gk i wr => ∃ (j : Nat) (v : Value), gk + j = ys.length ∧ i = .int .i64 j ∧ Pr2 pb base (listG gs j s) v wr ∧ (listG gs j s).ind = s.ind ∧ PK pb base w wr)
  case atStart => exact ⟨0, v, rfl, rfl, hP, rfl, PK.refl _ _ _⟩
  case round =>
    obtain ⟨j, v, hj, rfl, hP', hi', hK⟩ := hrel
    have hz := hK.size
    by_cases hlt : j < ys.length
    · have HG : Hid (gk + j = ys.length) := hj
      have HP : Hid (Pr2 pb base (listG gs j s) v wr ∧ (listG gs j s).ind = s.ind) := ⟨hP', hi'⟩
      have HJ : Hid (Wf fn pb base L ys[j] (gs j)) := H.out j hlt
      rcases HC.out.pk hpb hK with hk | ⟨b, o, hp, hbp, hL⟩
      · rw [hk] at hlt; exact absurd hlt (by simp)
      · subst hp
        have i1 : (j : Int) < ys.length := by omega
        have hbz : b < wr.heap.size := by omega
        obtain ⟨⟨c0, c1, c2, c3, c4⟩, hin⟩ := hL.get j hlt
        have HIN : Hid (ys[j].In pb wr) := hin
        obtain ⟨y, hy⟩ : ∃ y, y = ys[j] := ⟨_, rfl⟩
        rw [← hy] at c0 c1 c2 c3 c4 HJ HIN
        have HB1 : Hid (PK pb base wr (wr.alloc (nodeO y))) := PK.of (below1 _ _) (by omega)
        have HP1 : Hid (Pr2 pb base (listG gs j s) v (wr.alloc (nodeO y))) := HP.out.1.below (below1 _ _)
        have HI1 : Hid (y.In pb (wr.alloc (nodeO y))) := In.pk HIN.out HB1.out hpb
        have HD1 : Hid (BoxAt (wr.alloc (nodeO y)) wr.heap.size y) := BoxAt.new wr y
        clear hj hP' hi' hL hin hy
        by_cases h0 : 0 < j
        · have i0 : (0 : Int) < j := by omega
          have HE0 : Hid (listG gs (j + 1) s = gs j (putS [⟨#[44, 32]⟩] (listG gs j s))) := by show listG gs (j + 1) s = _; rw [listG, if_pos h0]
          go_wp2_with (first
            | (go_at_call 96; go_loud (refine (putc [⟨#[44, 32]⟩] HP1.out hpb (by simp only [World.size_alloc]; omega) (by first | (simp; done) | (simp; decide)) (by simp) (by simp)).mono ?_; rintro e w3 ⟨⟨u, rfl⟩, v3, hP3, hK3⟩; have HP3 : Hid (Pr2 pb base (putS [⟨#[44, 32]⟩] (listG gs j s)) v3 w3) := hP3; have HI3 : Hid (y.In pb w3) := In.pk HI1.out hK3 hpb; obtain ⟨d0, d1, d2, d3, d4⟩ : BoxAt w3 wr.heap.size y := HD1.out.pk hK3 (by omega) (heap_alloc_new _ _); have hz3 := hK3.size; have hz4 : wr.heap.size + 1 ≤ w3.heap.size := (by simpa using hz3); clear hP3 hz3))
            | (refine upon_ent hE (HJ.out _ _ _ (by rw [putS_ind, HP.out.2]; exact hi) HP3.out (by omega) HI3.out) ?_; rintro e w5 ⟨⟨u5, rfl⟩, v5, hP5, hi5, hK5⟩; refine ⟨u5, rfl, ?_⟩; simp only [Act.put, List.setIfInBounds_toArray, List.set_cons_succ, List.set_cons_zero]))
          go_roundg (ys.length - (j + 1))
          case measure => have := HG.out; omega
          case rel => exact ⟨j + 1, v5, by omega, by go_num, by rw [HE0.out]; exact hP5, by rw [HE0.out, hi5, putS_ind]; exact HP.out.2, ((hK.trans HB1.out).trans hK3).trans hK5⟩
        · have i0 : ¬ ((0 : Int) < j) := by omega
          have HE0 : Hid (listG gs (j + 1) s = gs j (listG gs j s)) := by show listG gs (j + 1) s = _; rw [listG, if_neg h0]
          go_wp2_with (first | (refine upon_ent hE (HJ.out _ _ _ (by rw [HP.out.2]; exact hi) HP1.out (by simp only [World.size_alloc]; omega) HI1.out) ?_; rintro e w5 ⟨⟨u5, rfl⟩, v5, hP5, hi5, hK5⟩; refine ⟨u5, rfl, ?_⟩; simp only [Act.put, List.setIfInBounds_toArray, List.set_cons_succ, List.set_cons_zero]))
          go_roundg (ys.length - (j + 1))
          case measure => have := HG.out; omega
          case rel => exact ⟨j + 1, v5, by omega, by go_num, by rw [HE0.out]; exact hP5, by rw [HE0.out, hi5]; exact HP.out.2, (hK.trans HB1.out).trans hK5⟩
    · have hjl : j = ys.length := by omega
      subst hjl
      go_wp2_with fail
      go_end0
      exact ⟨⟨_, rfl⟩, v, hP', hi', hK⟩
end Go.Proofs.YthbnegggohegkaaGreatDoor
namespace Go.Proofs.YthbnegggohegkaaGreatDoor
open Go.RowKit
variable {pb base L : Nat} {s : PS} {v : Value} {w w' : World}
def linesG (gs : Nat → PS → PS) : Nat → PS → PS
  | 0, s => s
  | n + 1, s => putS [⟨#[10]⟩] (gs n (tabs (linesG gs n s).ind (linesG gs n s)))
/-- What a line within brackets has around it: who writes, and what. -/
structure In1 (pb bw bn fn : Nat) (y : MT) (w : World) : Prop where
  wr : w.heap[bw]? = some (.cells #[.func (.func fn) #[.pointer (some ⟨pb, 0, none⟩)] #[]] 85 (0, 0))
  nd : w.heap[bn]? = some (.cells #[.int .i64 y.kind, .string y.text, .int .i64 y.num, .int .i64 y.at_, .slice y.ptr y.kids.length y.cap] 24 (0, 0))
  inn : y.In pb w
theorem In1.pk {bw bn fn : Nat} {y : MT} (hpb : pb < base) (hw : bw ≠ pb) (hn : bn ≠ pb) (h : In1 pb bw bn fn y w) (hk : PK pb base w w') : In1 pb bw bn fn y w' :=
  ⟨hk.high bw _ _ _ hw h.wr (by decide), hk.high bn _ _ _ hn h.nd (by decide), In.pk h.inn hk hpb⟩
theorem box_of {bn : Nat} {y : MT} (h : w.heap[bn]? = some (.cells #[.int .i64 y.kind, .string y.text, .int .i64 y.num, .int .i64 y.at_, .slice y.ptr y.kids.length y.cap] 24 (0, 0))) : BoxAt w bn y :=
  ⟨by simp [World.cell?, h], by simp [World.cell?, h], by simp [World.cell?, h], by simp [World.cell?, h], by simp [World.cell?, h]⟩
set_option maxRecDepth 100000 in
set_option maxHeartbeats 1000000 in
theorem in1_any {bw bn fn : Nat} {y : MT} {g : PS → PS} (h : Wf fn pb base L y g) (hE : Ent fn) : Wc 128 #[.pointer (some ⟨bw, 0, none⟩), .pointer (some ⟨bn, 0, none⟩)] pb base L (In1 pb bw bn fn y) g := by
  intro s v w hi hP hB hc
  have H : Hid (Wf fn pb base L y g) := h
  have c0 : w.cell? ⟨bw, 0, none⟩ = some (.func (.func fn) #[.pointer (some ⟨pb, 0, none⟩)] #[]) := by simp [World.cell?, hc.wr]
  obtain ⟨k0, k1, k2, k3, k4⟩ := box_of hc.nd
  go_enter Tryz.func128, Tryz.ntmps128
  go_wp2_with fail
  refine upon_ent hE (H.out s v _ hi hP hB hc.inn) ?_
  rintro e w5 ⟨⟨u5, rfl⟩, v5, hP5, hi5, hK5⟩
  refine ⟨u5, rfl, ?_⟩
  simp only [Act.put, List.setIfInBounds_toArray, List.set_cons_succ, List.set_cons_zero]
  go_wp2_with fail
  go_end0
  exact ⟨⟨_, rfl⟩, v5, hP5, hi5, hK5⟩
set_option maxRecDepth 100000 in
set_option maxHeartbeats 4000000 in
theorem inside_any {fn : Nat} {p : Option Addr} {c : Nat} {ys : List MT} {gs : Nat → PS → PS} (hpb : pb < base) (hL : L < 1000) (hlen : ys.length ≤ 1099511627776) (h : ∀ (i : Nat) (hi : i < ys.length), Wf fn pb base (L + 1) ys[i] (gs i)) (hE : Ent fn) :
    Wc 97 #[.pointer (some ⟨pb, 0, none⟩), .slice p ys.length c, .func (.func fn) #[.pointer (some ⟨pb, 0, none⟩)] #[]] pb base L (Kd pb p ys) (fun s => putS [⟨#[125]⟩] (tabs s.ind { (linesG gs ys.length { (putS [⟨#[123, 10]⟩] s) with ind := s.ind + 1 }) with ind := s.ind })) := by
  intro s v w hi hP hB hc
  have H : Hid (∀ (i : Nat) (hi : i < ys.length), Wf fn pb base (L + 1) ys[i] (gs i)) := h
  have HC : Hid (Kd pb p ys w) := hc
  clear h hc
  have b1 := below1 w (.cells #[.func (.func fn) #[.pointer (some ⟨pb, 0, none⟩)] #[]] 85)
  have r1 := heap_alloc_new w (.cells #[.func (.func fn) #[.pointer (some ⟨pb, 0, none⟩)] #[]] 85)
  have hP1 := hP.below b1
  have hK1 : PK pb base w _ := PK.of b1 hB
  go_enter Tryz.func97, Tryz.ntmps97
  go_wp2_with fail
  refine (putc [⟨#[123, 10]⟩] hP1 hpb (by simp only [World.size_alloc]; omega) (by first | (simp; done) | (simp; decide)) (by simp) (by simp)).mono ?_
  rintro e w2 ⟨⟨u, rfl⟩, v2, hP2, hK2⟩
  have hR2 := hK2.high w.heap.size _ _ _ (by omega) r1 (by decide)
  have hK3 := hK1.trans hK2
  have hz3 := hK3.size
  have c1 := hP2.c1
  rw [putS_ind] at c1
  have f1 := hP2.fz 1
  have hP3 := hP2.ind hpb (s.ind + 1)
  have hR3 : (w2.setCell ⟨pb, 1, none⟩ (.int .i64 ((s.ind + 1 : Nat) : Int))).heap[w.heap.size]? = _ := (Below.heap_setCell w2 ⟨pb, 1, none⟩ _ w.heap.size (by show w.heap.size ≠ pb; omega)).trans hR2
  have hK4 : PK pb base w (w2.setCell ⟨pb, 1, none⟩ (.int .i64 ((s.ind + 1 : Nat) : Int))) := hK3.trans (PK.set pb base w2 1 _)
  have e1 : ((s.ind + 1 : Nat) : Int) = (s.ind : Int) + 1 := by omega
  rw [e1] at hP3 hR3 hK4
  have HS : Hid (Pr2 pb base { (putS [⟨#[123, 10]⟩] s) with ind := s.ind + 1 } v2 (w2.setCell ⟨pb, 1, none⟩ (.int .i64 ((s.ind : Int) + 1))) ∧ (w2.setCell ⟨pb, 1, none⟩ (.int .i64 ((s.ind : Int) + 1))).heap[w.heap.size]? = some (.cells #[.func (.func fn) #[.pointer (some ⟨pb, 0, none⟩)] #[]] 85 (0, 0)) ∧ PK pb base w (w2.setCell ⟨pb, 1, none⟩ (.int .i64 ((s.ind : Int) + 1)))) := ⟨hP3, hR3, hK4⟩
  clear hP hP1 hP2 hP3 hR2 hR3 hK1 hK2 hK3 hK4 r1 b1 e1
  go_wp2_with fail
  obtain ⟨W2, hW2⟩ : ∃ W, W = w2.setCell ⟨pb, 1, none⟩ (.int .i64 ((s.ind : Int) + 1)) := ⟨_, rfl⟩
  rw [← hW2] at HS ⊢
  obtain ⟨s2, hs2⟩ : ∃ s2 : PS, s2 = { (putS [⟨#[123, 10]⟩] s) with ind := s.ind + 1 } := ⟨_, rfl⟩
  rw [← hs2] at HS
  have HS2 : Hid (s2 = { (putS [⟨#[123, 10]⟩] s) with ind := s.ind + 1 }) := hs2
  have hs3 : s2.ind = s.ind + 1 := by rw [hs2]
  clear hW2 hs2 c1 f1 hz3
  go_loopg [20] ys.length (fun gk i wr => ∃ (j : Nat) (v : Value), gk + j = ys.length ∧ i = .int .i64 j ∧ Pr2 pb base (linesG gs j s2) v wr ∧ (linesG gs j s2).ind = s.ind + 1 ∧ wr.heap[w.heap.size]? = some (.cells #[.func (.func fn) #[.pointer (some ⟨pb, 0, none⟩)] #[]] 85 (0, 0)) ∧ PK pb base w wr)
  case atStart => exact ⟨0, v2, rfl, rfl, HS.out.1, hs3, HS.out.2.1, HS.out.2.2⟩
  case round =>
    obtain ⟨j, v, hj, rfl, hP', hi', hR, hK⟩ := hrel
    have hz := hK.size
    by_cases hlt : j < ys.length
    · have HG : Hid (gk + j = ys.length) := hj
      have HP : Hid (Pr2 pb base (linesG gs j s2) v wr ∧ (linesG gs j s2).ind = s.ind + 1) := ⟨hP', hi'⟩
      have HJ : Hid (Wf fn pb base (L + 1) ys[j] (gs j)) := H.out j hlt
      rcases HC.out.pk hpb hK with hk | ⟨b, o, hp, hbp, hLL⟩
      · rw [hk] at hlt; exact absurd hlt (by simp)
      · subst hp
        have i1 : (j : Int) < ys.length := by omega
        have hbz : b < wr.heap.size := by omega
        obtain ⟨⟨c0, c1, c2, c3, c4⟩, hin⟩ := hLL.get j hlt
        have HIN : Hid (ys[j].In pb wr) := hin
        obtain ⟨y, hy⟩ : ∃ y, y = ys[j] := ⟨_, rfl⟩
        rw [← hy] at c0 c1 c2 c3 c4 HJ HIN
        have HB1 : Hid (PK pb base wr (wr.alloc (nodeO y))) := PK.of (below1 _ _) (by omega)
        have HP1 : Hid (Pr2 pb base (linesG gs j s2) v (wr.alloc (nodeO y))) := HP.out.1.below (below1 _ _)
        have hRz : w.heap.size < wr.heap.size := (Array.getElem?_eq_some_iff.1 hR).1
        have HD1 : Hid (In1 pb w.heap.size wr.heap.size fn y (wr.alloc (nodeO y))) := ⟨(Below.heap_alloc _ _ _ hRz).trans hR, heap_alloc_new wr _, In.pk HIN.out HB1.out hpb⟩
        have HLN : Hid (Wc 63 #[.pointer (some ⟨pb, 0, none⟩), .func (.func 128) #[] #[.pointer (some ⟨w.heap.size, 0, none⟩), .pointer (some ⟨wr.heap.size, 0, none⟩)]] pb base (L + 1) (In1 pb w.heap.size wr.heap.size fn y) (fun s => putS [⟨#[10]⟩] (gs j (tabs s.ind s)))) := line_any hpb (by omega) (in1_any HJ.out hE) (fun _ _ h1 h2 => h1.pk hpb (by omega) (by omega) h2) Tryz.call128
        have HRR : Hid (wr.heap[w.heap.size]? = some (.cells #[.func (.func fn) #[.pointer (some ⟨pb, 0, none⟩)] #[]] 85 (0, 0))) := hR
        clear hj hP' hi' hLL hin hy hR
        go_wp2_with (first
          | (go_at_call 63; refine (HLN.out _ _ _ (by rw [HP.out.2]; omega) HP1.out (by simp only [World.size_alloc]; omega) HD1.out).mono ?_; rintro e w5 ⟨⟨u5, rfl⟩, v5, hP5, hi5, hK5⟩))
        go_roundg (ys.length - (j + 1))
        case measure => have := HG.out; omega
        case rel => exact ⟨j + 1, v5, by omega, by go_num, hP5, hi5.trans HP.out.2, (HB1.out.trans hK5).high _ _ _ _ (by omega) HRR.out (by decide), (hK.trans HB1.out).trans hK5⟩
    · have hjl : j = ys.length := by omega
      subst hjl
      obtain ⟨s5, hs5⟩ : ∃ s5, s5 = linesG gs ys.length s2 := ⟨_, rfl⟩
      rw [← hs5] at hP' hi'
      have d1 := hP'.c1
      rw [hi'] at d1
      have e5 : ((s.ind + 1 : Nat) : Int) = (s.ind : Int) + 1 := by omega
      rw [e5] at d1
      have g1 := hP'.fz 1
      have HP6 : Hid (Pr2 pb base { s5 with ind := s.ind } v (wr.setCell ⟨pb, 1, none⟩ (.int .i64 s.ind)) ∧ PK pb base w (wr.setCell ⟨pb, 1, none⟩ (.int .i64 s.ind))) := ⟨hP'.ind hpb s.ind, hK.trans (PK.set pb base wr 1 _)⟩
      have HS5 : Hid (s5 = linesG gs ys.length s2) := hs5
      have hz6 := HP6.out.2.size
      clear hP' hi' hR hK hs5 e5
      go_wp2_with (first
        | (go_at_call 95; refine (indent_any (s := { s5 with ind := s.ind }) hpb (Nat.le_trans hi (by omega)) HP6.out.1 (by omega)).mono ?_; rintro e w7 ⟨⟨u7, rfl⟩, v7, hP7, hK7⟩; have hz7 := (HP6.out.2.trans hK7).size)
        | (go_at_call 96; refine (putc [⟨#[125]⟩] hP7 hpb (by omega) (by first | (simp; done) | (simp; decide)) (by simp) rfl).mono ?_; rintro e w8 ⟨⟨u8, rfl⟩, v8, hP8, hK8⟩))
      go_end0
      refine ⟨⟨_, rfl⟩, v8, ?_, ?_, (HP6.out.2.trans hK7).trans hK8⟩
      · rw [HS5.out, HS2.out] at hP8; exact hP8
      · rw [putS_ind, tabs_ind]
end Go.Proofs.YthbnegggohegkaaGreatDoor
namespace Go.Proofs.YthbnegggohegkaaGreatDoor
open Go.RowKit
variable {pb base L : Nat} {s : PS} {v : Value} {w w' : World}
theorem PK.drw (pb base : Nat) (w : World) : PK pb base w w.drew := ⟨rfl, rfl, rfl, Nat.le_refl _, fun _ _ _ => rfl, fun _ _ _ _ _ h _ => h⟩
theorem lt_of {w : World} {b : Nat} {o : Obj} (h : w.heap[b]? = some o) : b < w.heap.size := (Array.getElem?_eq_some_iff.1 h).1
theorem cells1 {w : World} {b : Nat} {v0 : Value} {t : TypeId} {fr : Nat × Nat} (h : w.heap[b]? = some (.cells #[v0] t fr)) : w.cell? ⟨b, 0, none⟩ = some v0 := by simp [World.cell?, h]
theorem cells5 {w : World} {b : Nat} {v0 v1 v2 v3 v4 : Value} {t : TypeId} {fr : Nat × Nat} (h : w.heap[b]? = some (.cells #[v0, v1, v2, v3, v4] t fr)) : w.cell? ⟨b, 0, none⟩ = some v0 ∧ w.cell? ⟨b, 1, none⟩ = some v1 ∧ w.cell? ⟨b, 2, none⟩ = some v2 ∧ w.cell? ⟨b, 3, none⟩ = some v3 ∧ w.cell? ⟨b, 4, none⟩ = some v4 := by simp [World.cell?, h]
theorem hb0_ (w : World) (A C : Obj) : ((w.alloc A).alloc C).heap[w.heap.size]? = some A := (Below.heap_alloc _ _ _ (by simp)).trans (heap_alloc_new w _)
theorem nb0_ (w : World) (A C : Obj) : ((w.alloc A).alloc C).heap[w.heap.size + 1]? = some C := by have := heap_alloc_new (w.alloc A) C; rwa [World.size_alloc] at this
theorem hb0x_ (w : World) (A C D : Obj) : (((w.alloc A).alloc C).alloc D).heap[w.heap.size]? = some A := (Below.heap_alloc _ _ _ (by simp only [World.size_alloc]; omega)).trans (hb0_ w A C)
theorem nb0x_ (w : World) (A C D : Obj) : (((w.alloc A).alloc C).alloc D).heap[w.heap.size + 1]? = some C := (Below.heap_alloc _ _ _ (by simp only [World.size_alloc]; omega)).trans (nb0_ w A C)
theorem nvk {k : Int} {t : ByteArray} {n a : Int} {p : Option Addr} {c : Nat} {ks : List MT} : nodeV (.node k t n a p c ks) = .agg #[.int .i64 k, .string t, .int .i64 n, .int .i64 a, .slice p ks.length c] := rfl
theorem nv0 {k : Int} {t : ByteArray} {n a : Int} {p : Option Addr} {c : Nat} : nodeV (.node k t n a p c []) = .agg #[.int .i64 k, .string t, .int .i64 n, .int .i64 a, .slice p 0 c] := rfl
theorem nv1 {k : Int} {t : ByteArray} {n a : Int} {p : Option Addr} {c : Nat} {y0 : MT} : nodeV (.node k t n a p c [y0]) = .agg #[.int .i64 k, .string t, .int .i64 n, .int .i64 a, .slice p 1 c] := rfl
theorem nv2 {k : Int} {t : ByteArray} {n a : Int} {p : Option Addr} {c : Nat} {y0 y1 : MT} : nodeV (.node k t n a p c [y0, y1]) = .agg #[.int .i64 k, .string t, .int .i64 n, .int .i64 a, .slice p 2 c] := rfl
theorem nv3 {k : Int} {t : ByteArray} {n a : Int} {p : Option Addr} {c : Nat} {y0 y1 y2 : MT} : nodeV (.node k t n a p c [y0, y1, y2]) = .agg #[.int .i64 k, .string t, .int .i64 n, .int .i64 a, .slice p 3 c] := rfl
theorem nv4 {k : Int} {t : ByteArray} {n a : Int} {p : Option Addr} {c : Nat} {y0 y1 y2 y3 : MT} : nodeV (.node k t n a p c [y0, y1, y2, y3]) = .agg #[.int .i64 k, .string t, .int .i64 n, .int .i64 a, .slice p 4 c] := rfl
theorem nvt1 {k : Int} {t : ByteArray} {n a : Int} {p : Option Addr} {c : Nat} {y0 : MT} {ks : List MT} : nodeV (.node k t n a p c (y0 :: ks)) = .agg #[.int .i64 k, .string t, .int .i64 n, .int .i64 a, .slice p (ks.length + 1) c] := rfl
theorem nvt2 {k : Int} {t : ByteArray} {n a : Int} {p : Option Addr} {c : Nat} {y0 y1 : MT} {ks : List MT} : nodeV (.node k t n a p c (y0 :: y1 :: ks)) = .agg #[.int .i64 k, .string t, .int .i64 n, .int .i64 a, .slice p (ks.length + 2) c] := rfl
theorem al_nil : ∀ x ∈ ([] : List ByteArray), x.size ≤ 4000000000 := fun _ h => absurd h (by simp)
theorem al_cons {x : ByteArray} {xs : List ByteArray} (h : x.size ≤ 4000000000) (k : ∀ y ∈ xs, y.size ≤ 4000000000) : ∀ y ∈ x :: xs, y.size ≤ 4000000000 := fun y hy => by
  rcases List.mem_cons.1 hy with rfl | hy
  · exact h
  · exact k y hy
set_option maxRecDepth 100000 in
set_option maxHeartbeats 4000000 in
theorem receiver_any  {t : ByteArray} {n : Int} {a : Int} {p : Option Addr} {c : Nat} {y0 : MT}  {g0 : PS → PS} (ht : t.size ≤ 4000000000) (h0 : Wf 72 pb base L y0 g0) (hpb : pb < base) : Wf 69 pb base L (.node 12 t n a p c [y0]) (fun s => (g0 (putS [t, ⟨#[32]⟩] s))) := by
  intro s v w hi hP hB hin
  have hkk := hin.kidsL
  simp only [MT.kids_node, MT.ptr_node] at hkk
  rcases hkk with hkk | ⟨b, o, rfl, hbp, hL⟩
  · cases hkk
  have Hh0 : Hid _ := h0
  clear h0
  have hb0 : Below w.heap.size w (w.alloc (.cells #[.int .i64 12, .string t, .int .i64 n, .int .i64 a, .slice (some ⟨b, o, none⟩) 1 c] 24)) := below1 _ _
  have hP0 := hP.below hb0
  have hK0 : PK pb base w _ := PK.of (pb := pb) hb0 hB
  have HI0 : Hid _ := In.pk hin hK0 hpb
  have nd0 := heap_alloc_new w (.cells #[.int .i64 12, .string t, .int .i64 n, .int .i64 a, .slice (some ⟨b, o, none⟩) 1 c] 24)
  have HL0 : Hid (MT.InL pb _ b o [y0]) := MT.InL.below (hb0.mono (by omega)) b o hbp _ hL
  have hz0 := lt_of nd0
  have HD0 : Hid (_ ∧ _ ∧ _) := ⟨hP0, hK0, nd0⟩
  have hbz : b < w.heap.size := by omega
  clear hP hin hb0 hP0 hK0 nd0 hL
  rw [nv1]
  go_enter Tryz.func69, Tryz.ntmps69
  go_wp2_with fail
  refine (putc [t, ⟨#[32]⟩] HD0.out.1 hpb (Nat.le_trans hB HD0.out.2.1.size) (al_cons ht (al_cons (by decide) al_nil)) (by simp) (by first | rfl | simp)).mono ?_
  rintro e w1 ⟨⟨u1, rfl⟩, v1, hP1, hk1⟩
  have HJ1 : Hid ((putS [t, ⟨#[32]⟩] s).ind = s.ind) := (putS_ind _ _).trans (Eq.refl s.ind)
  have hK1 : PK pb base w w1 := HD0.out.2.1.trans hk1
  have nd1 := hk1.high (w.heap.size) _ _ _ (by omega) HD0.out.2.2 (by decide)
  have HI1 : Hid _ := In.pk HI0.out hk1 hpb
  have HL1 : Hid (MT.InL pb w1 b o [y0]) := MT.InL.below (hk1.below (by omega) (Nat.le_refl _)) b o hbp _ HL0.out
  have hz1 := lt_of nd1
  have HD1 : Hid (_ ∧ _ ∧ _) := ⟨hP1, hK1, nd1⟩
  obtain ⟨k0, k1, k2, k3, k4⟩ := cells5 nd1
  obtain ⟨c00, c01, c02, c03, c04⟩ : MT.CellsAt w1 b o y0 := (HL1.out.get 0 (by simp)).1
  have hbz1 : b < w1.heap.size := by omega
  clear hP1 hK1 nd1 hk1 HD0 HI0 HL0
  go_wp2_with fail
  refine (Hh0.out _ _ _ (Nat.le_trans (Nat.le_of_eq HJ1.out) hi) HD1.out.1 (Nat.le_trans hB HD1.out.2.1.size) (HL1.out.get 0 (by simp)).2).mono ?_
  rintro e w2 ⟨⟨u2, rfl⟩, v2, hP2, hi2, hk2⟩
  have HJ2 : Hid ((g0 (putS [t, ⟨#[32]⟩] s)).ind = s.ind) := hi2.trans HJ1.out
  clear hi2
  have HE : Hid (_ ∧ PK pb base w w2) := ⟨hP2, HD1.out.2.1.trans hk2⟩
  clear hP2 hk2 k0 k1 k2 k3 k4 c00 c01 c02 c03 c04
  go_wp2_with fail
  go_end0
  exact ⟨⟨_, rfl⟩, v2, HE.out.1, HJ2.out, HE.out.2⟩
set_option maxRecDepth 100000 in
set_option maxHeartbeats 4000000 in
theorem two_x  {n : Int} {a : Int} {p : Option Addr} {c : Nat} {y0 y1 : MT}  {g0 g1 : PS → PS} (h0 : Wf 71 pb base L y0 g0) (h1 : Wf 71 pb base L y1 g1) (hpb : pb < base) : Wf 75 pb base L (.node 40 ⟨#[]⟩ n a p c [y0, y1]) (fun s => (g1 (putS [⟨#[58, 32]⟩] (g0 s)))) := by
  intro s v w hi hP hB hin
  have hkk := hin.kidsL
  simp only [MT.kids_node, MT.ptr_node] at hkk
  rcases hkk with hkk | ⟨b, o, rfl, hbp, hL⟩
  · cases hkk
  have Hh0 : Hid _ := h0
  clear h0
  have Hh1 : Hid _ := h1
  clear h1
  have hb0 : Below w.heap.size w (w.alloc (.cells #[.int .i64 40, .string ⟨#[]⟩, .int .i64 n, .int .i64 a, .slice (some ⟨b, o, none⟩) 2 c] 24)) := below1 _ _
  have hP0 := hP.below hb0
  have hK0 : PK pb base w _ := PK.of (pb := pb) hb0 hB
  have HI0 : Hid _ := In.pk hin hK0 hpb
  have nd0 := heap_alloc_new w (.cells #[.int .i64 40, .string ⟨#[]⟩, .int .i64 n, .int .i64 a, .slice (some ⟨b, o, none⟩) 2 c] 24)
  have HL0 : Hid (MT.InL pb _ b o [y0, y1]) := MT.InL.below (hb0.mono (by omega)) b o hbp _ hL
  have hz0 := lt_of nd0
  have HD0 : Hid (_ ∧ _ ∧ _) := ⟨hP0, hK0, nd0⟩
  have hbz : b < w.heap.size := by omega
  obtain ⟨c00, c01, c02, c03, c04⟩ : MT.CellsAt w b o y0 := (hL.get 0 (by simp)).1
  clear hP hin hb0 hP0 hK0 nd0 hL
  rw [nv2]
  go_enter Tryz.func75, Tryz.ntmps75
  go_wp2_with fail
  refine (Hh0.out _ _ _ (Nat.le_trans (Nat.le_of_eq (Eq.refl s.ind)) hi) HD0.out.1 (Nat.le_trans hB HD0.out.2.1.size) (HL0.out.get 0 (by simp)).2).mono ?_
  rintro e w1 ⟨⟨u1, rfl⟩, v1, hP1, hi1, hk1⟩
  have HJ1 : Hid ((g0 s).ind = s.ind) := hi1.trans (Eq.refl s.ind)
  clear hi1
  have hK1 : PK pb base w w1 := HD0.out.2.1.trans hk1
  have nd1 := hk1.high (w.heap.size) _ _ _ (by omega) HD0.out.2.2 (by decide)
  have HI1 : Hid _ := In.pk HI0.out hk1 hpb
  have HL1 : Hid (MT.InL pb w1 b o [y0, y1]) := MT.InL.below (hk1.below (by omega) (Nat.le_refl _)) b o hbp _ HL0.out
  have hz1 := lt_of nd1
  have HD1 : Hid (_ ∧ _ ∧ _) := ⟨hP1, hK1, nd1⟩
  clear c00 c01 c02 c03 c04
  obtain ⟨k0, k1, k2, k3, k4⟩ := cells5 nd1
  have hbz1 : b < w1.heap.size := by omega
  clear hP1 hK1 nd1 hk1 HD0 HI0 HL0
  go_wp2_with fail
  refine (putc [⟨#[58, 32]⟩] HD1.out.1 hpb (Nat.le_trans hB HD1.out.2.1.size) (al_cons (by decide) al_nil) (by simp) (by first | rfl | simp)).mono ?_
  rintro e w2 ⟨⟨u2, rfl⟩, v2, hP2, hk2⟩
  have HJ2 : Hid ((putS [⟨#[58, 32]⟩] (g0 s)).ind = s.ind) := (putS_ind _ _).trans HJ1.out
  have hK2 : PK pb base w w2 := HD1.out.2.1.trans hk2
  have nd2 := hk2.high (w.heap.size) _ _ _ (by omega) HD1.out.2.2 (by decide)
  have HI2 : Hid _ := In.pk HI1.out hk2 hpb
  have HL2 : Hid (MT.InL pb w2 b o [y0, y1]) := MT.InL.below (hk2.below (by omega) (Nat.le_refl _)) b o hbp _ HL1.out
  have hz2 := lt_of nd2
  have HD2 : Hid (_ ∧ _ ∧ _) := ⟨hP2, hK2, nd2⟩
  clear k0 k1 k2 k3 k4
  obtain ⟨k0, k1, k2, k3, k4⟩ := cells5 nd2
  obtain ⟨c10, c11, c12, c13, c14⟩ : MT.CellsAt w2 b (o + 5) y1 := (HL2.out.get 1 (by simp)).1
  have hbz2 : b < w2.heap.size := by omega
  clear hP2 hK2 nd2 hk2 HD1 HI1 HJ1 HL1
  go_wp2_with fail
  refine (Hh1.out _ _ _ (Nat.le_trans (Nat.le_of_eq HJ2.out) hi) HD2.out.1 (Nat.le_trans hB HD2.out.2.1.size) (HL2.out.get 1 (by simp)).2).mono ?_
  rintro e w3 ⟨⟨u3, rfl⟩, v3, hP3, hi3, hk3⟩
  have HJ3 : Hid ((g1 (putS [⟨#[58, 32]⟩] (g0 s))).ind = s.ind) := hi3.trans HJ2.out
  clear hi3
  have HE : Hid (_ ∧ PK pb base w w3) := ⟨hP3, HD2.out.2.1.trans hk3⟩
  clear hP3 hk3 k0 k1 k2 k3 k4 c10 c11 c12 c13 c14
  go_wp2_with fail
  go_end0
  exact ⟨⟨_, rfl⟩, v3, HE.out.1, HJ3.out, HE.out.2⟩
end Go.Proofs.YthbnegggohegkaaGreatDoor
namespace Go.Proofs.YthbnegggohegkaaGreatDoor
open Go.RowKit

/-- A row of texts. -/
def TextsAt (w : World) (p : Option Addr) (ws : List Bytes) : Prop :=
  (ws = [] ∧ p = none) ∨ ∃ g, p = some ⟨g, 0, none⟩ ∧ g < w.heap.size ∧ ∀ (i : Nat) (h : i < ws.length), w.cell? ⟨g, i, none⟩ = some (.string ⟨ws[i].toArray⟩)
theorem TextsAt.below {w w' : World} {p : Option Addr} {ws : List Bytes} (h : TextsAt w p ws) {B : Nat} (hB : w.heap.size ≤ B) (hb : Below B w w') : TextsAt w' p ws := by
  rcases h with h | ⟨g, h1, h3, h4⟩
  · exact .inl h
  · exact .inr ⟨g, h1, by have := hb.size; omega, fun i hi => (hb.cell (p := ⟨g, i, none⟩) (by show g < B; omega)).trans (h4 i hi)⟩

theorem contains_split (ws : List Bytes) (x : Bytes) (j : Nat) (h : j < ws.length) (e : ws[j] = x) : ws.contains x = true := by
  rw [List.contains_iff_mem, ← e]; exact List.getElem_mem h
theorem contains_not (ws : List Bytes) (x : Bytes) (h : ∀ (m : Nat) (hm : m < ws.length), ws[m] ≠ x) : ws.contains x = false := by
  cases e : ws.contains x with
  | false => rfl
  | true =>
    rw [List.contains_iff_mem] at e
    obtain ⟨m, hm, e⟩ := List.getElem_of_mem e
    exact absurd e (h m hm)

set_option maxHeartbeats 1000000 in
theorem index_any (ws : List Bytes) (p : Option Addr) (c : Nat) (x : ByteArray) (w : World) (hl : ws.length ≤ 100) (hT : TextsAt w p ws) :
    Calls Tryz.prog 140 #[.slice p ws.length c, .string x] w fun e w' => ∃ r : Int, e = .returned (.int .i64 r) ∧ Hid (decide (0 ≤ r) = ws.contains x.data.toList) ∧ w' = w := by
  have HT : Hid _ := hT
  clear hT
  go_enter Tryz.func140, Tryz.ntmps140
  go_wp2_with fail
  go_loopg [8] ws.length (fun gk i wr => ∃ j : Nat, gk + j = ws.length ∧ i = .int .i64 j ∧ wr = w ∧ Hid (∀ (m : Nat) (hm : m < ws.length), m < j → ws[m] ≠ x.data.toList))
  case atStart => exact ⟨0, rfl, rfl, rfl, fun _ _ h => by omega⟩
  case round =>
    obtain ⟨j, hj, rfl, rfl, hno⟩ := hrel
    by_cases hlt : j < ws.length
    · obtain ⟨g, rfl, hg, hc⟩ := HT.out.resolve_left (fun h => by rw [h.1] at hlt; simp at hlt)
      have hx := hc j hlt
      have HE : Hid (∀ y : ByteArray, y = ⟨ws[j].toArray⟩ → (x.toList == y.toList) = (ws[j] == x.data.toList)) := fun y hy => by
        subst hy; rw [ByteArray.toList_eq, ByteArray.toList_eq]
        show (x.data.toList == ws[j].toArray.toList) = _
        rw [List.toList_toArray, Bool.beq_comm]
      obtain ⟨y, hy⟩ : ∃ y : ByteArray, y = ⟨ws[j].toArray⟩ := ⟨_, rfl⟩
      rw [← hy] at hx
      have he := HE.out y hy
      clear hc HE hy
      cases hb : ws[j] == x.data.toList with
      | true =>
        have HC : Hid (ws.contains x.data.toList = true) := contains_split ws _ j hlt (eq_of_beq hb)
        rw [hb] at he
        clear hb hno
        go_wp2_with fail
        go_ret
        exact ⟨j, rfl, by show _ = _; rw [HC.out]; simp, rfl⟩
      | false =>
        have HN : Hid (∀ (m : Nat) (hm : m < ws.length), m < j + 1 → ws[m] ≠ x.data.toList) := fun m hm h => by
          rcases Nat.lt_or_ge m j with h1 | h1
          · exact hno.out m hm h1
          · obtain rfl : m = j := by omega
            exact ne_of_beq_false hb
        rw [hb] at he
        have HJ : Hid (gk + j = ws.length) := hj
        clear hb hno hj
        go_wp2_with fail
        go_roundg (ws.length - (j + 1))
        case measure => have := HJ.out; omega
        case rel => exact ⟨j + 1, by omega, by go_num, rfl, HN.out⟩
    · have HC : Hid (ws.contains x.data.toList = false) := contains_not ws _ (fun m hm => hno.out m hm (by omega))
      clear hno hj
      go_wp2_with fail
      go_ret
      exact ⟨-1, rfl, by show _ = _; rw [HC.out]; rfl, rfl⟩

set_option maxHeartbeats 1000000 in
theorem contains_any (ws : List Bytes) (p : Option Addr) (c : Nat) (x : ByteArray) (w : World) (hl : ws.length ≤ 100) (hT : TextsAt w p ws) :
    Calls Tryz.prog 122 #[.slice p ws.length c, .string x] w fun e w' => e = .returned (.bool (ws.contains x.data.toList)) ∧ w' = w := by
  have HI : Hid (Calls Tryz.prog 140 #[.slice p ws.length c, .string x] w fun e w' => ∃ r : Int, e = .returned (.int .i64 r) ∧ Hid (decide (0 ≤ r) = ws.contains x.data.toList) ∧ w' = w) := index_any ws p c x w hl hT
  clear hT
  obtain ⟨q, hq⟩ : ∃ q, q = ws.contains x.data.toList := ⟨_, rfl⟩
  rw [← hq] at HI ⊢
  clear hq
  go_enter Tryz.func122, Tryz.ntmps122
  go_wp2_with fail
  refine Calls.mono HI.out ?_
  rintro e w1 ⟨r, rfl, hr, rfl⟩
  clear HI
  go_wp2_with fail
  go_ret
  exact ⟨congrArg (fun b => Ending.returned (.bool b)) hr.out, rfl⟩

set_option maxHeartbeats 4000000 in
theorem words_any (rl : Nat) (hrl : rl ≤ 30) (w : World) : Calls Tryz.prog 123 #[.int .i64 rl] w fun e w' => ∃ p, e = .returned (.slice p (wordsN rl).length (wordsN rl).length) ∧ TextsAt w' p (wordsN rl) ∧ Below w.heap.size w w' := by
  rcases role_cases hrl with rfl | rfl | rfl | rfl | rfl | rfl | rfl | rfl | rfl | rfl | rfl | rfl | rfl | rfl | rfl | rfl | rfl | rfl | rfl | rfl | rfl | rfl | rfl | rfl | rfl | rfl | rfl | rfl | rfl | rfl | rfl
  all_goals
    go_enter Tryz.func123, Tryz.ntmps123
    go_wp2
    go_ret
    first
      | exact ⟨none, rfl, .inl ⟨rfl, rfl⟩, Below.refl _ _⟩
      | (refine ⟨some ⟨w.heap.size, 0, none⟩, rfl, .inr ⟨_, rfl, by simp, ?_⟩, below1 _ _⟩; (intro i hi; match i, hi with | 0, _ => exact cell_mid _ _ _ _ _ _ rfl rfl | 1, _ => exact cell_mid _ _ _ _ _ _ rfl rfl | i + 2, h => exact absurd h (by show ¬ (i + 2 < 2); omega)); done)
      | (refine ⟨some ⟨w.heap.size, 0, none⟩, rfl, .inr ⟨_, rfl, by simp, ?_⟩, below1 _ _⟩; (intro i hi; match i, hi with | 0, _ => exact cell_mid _ _ _ _ _ _ rfl rfl | 1, _ => exact cell_mid _ _ _ _ _ _ rfl rfl | 2, _ => exact cell_mid _ _ _ _ _ _ rfl rfl | i + 3, h => exact absurd h (by show ¬ (i + 3 < 3); omega)); done)
      | (refine ⟨some ⟨w.heap.size, 0, none⟩, rfl, .inr ⟨_, rfl, by simp, ?_⟩, below1 _ _⟩; (intro i hi; match i, hi with | 0, _ => exact cell_mid _ _ _ _ _ _ rfl rfl | 1, _ => exact cell_mid _ _ _ _ _ _ rfl rfl | 2, _ => exact cell_mid _ _ _ _ _ _ rfl rfl | 3, _ => exact cell_mid _ _ _ _ _ _ rfl rfl | i + 4, h => exact absurd h (by show ¬ (i + 4 < 4); omega)); done)
      | (refine ⟨some ⟨w.heap.size, 0, none⟩, rfl, .inr ⟨_, rfl, by simp, ?_⟩, below1 _ _⟩; (intro i hi; match i, hi with | 0, _ => exact cell_mid _ _ _ _ _ _ rfl rfl | 1, _ => exact cell_mid _ _ _ _ _ _ rfl rfl | 2, _ => exact cell_mid _ _ _ _ _ _ rfl rfl | 3, _ => exact cell_mid _ _ _ _ _ _ rfl rfl | 4, _ => exact cell_mid _ _ _ _ _ _ rfl rfl | 5, _ => exact cell_mid _ _ _ _ _ _ rfl rfl | i + 6, h => exact absurd h (by show ¬ (i + 6 < 6); omega)); done)
theorem words_len (rl : Nat) : (wordsN rl).length ≤ 100 := by
  unfold wordsN
  repeat' split
  all_goals simp

theorem tokB_error {s : Bytes} {kd : Nat} {e : Nat × Nat} (h : scanSpec s = .error e) : tokB s kd = false := by unfold tokB; rw [h]
theorem tokB_ok {s : Bytes} {kd : Nat} {ts : List Tok} (h : scanSpec s = .ok ts) : tokB s kd = (ts.length == 2 && (ts.getD 0 (0, [], 0)).1 == kd && (ts.getD 0 (0, [], 0)).2.1 == s) := by unfold tokB; rw [h]

set_option maxRecDepth 100000 in
set_option maxHeartbeats 1000000 in
theorem token_any {gw ow gs os : Nat} (s : ByteArray) (kd : Nat) (w : World) (ht : TabsAt gw ow gs os w) :
    Calls Tryz.prog 125 #[.string s, .int .i64 kd] w fun e w' => e = .returned (.bool (tokB s.data.toList kd)) ∧ Below w.heap.size w w' := by
  obtain ⟨R, hR⟩ : ∃ R, R = scanSpec s.data.toList := ⟨_, rfl⟩
  have HS : Hid (∀ W, TabsAt gw ow gs os W → Calls Tryz.prog 141 #[.string s] W fun e w' => ScanRes W w' e R) := fun W hW => by rw [hR]; exact scan_any s W hW
  cases R with
  | error c =>
    rw [tokB_error hR.symm]
    clear hR
    go_enter Tryz.func125, Tryz.ntmps125
    go_wp2_with fail
    refine (HS.out _ ht).mono ?_
    intro e w1 hres
    cases hres with
    | error c p b he hlo hwr hb =>
      subst he
      go_wp2_with fail
      go_ret
      exact ⟨rfl, hb⟩
  | ok ts =>
    rw [tokB_ok hR.symm]
    clear hR
    by_cases h2 : ts.length = 2
    · match ts, h2 with
      | [(k0, t0, a0), (k1, t1, a1)], _ =>
        show Calls Tryz.prog 125 #[.string s, .int .i64 kd] w fun e w' => e = .returned (.bool (true && k0 == kd && t0 == s.data.toList)) ∧ Below w.heap.size w w'
        rw [Bool.true_and]
        have hnk : ((k0 : Int) == (kd : Int)) = (k0 == kd) := by
          cases h : k0 == kd with
          | true => rw [eq_of_beq h]; simp
          | false => have := ne_of_beq_false h; simp; omega
        have hnt : ∀ y : ByteArray, y.data.toList = t0 → (y.toList == s.toList) = (t0 == s.data.toList) := fun y hy => by rw [ByteArray.toList_eq, ByteArray.toList_eq, hy]
        have HNT : Hid _ := hnt
        clear hnt
        obtain ⟨q1, hq1⟩ : ∃ q, q = (k0 == kd) := ⟨_, rfl⟩
        obtain ⟨q2, hq2⟩ : ∃ q, q = (t0 == s.data.toList) := ⟨_, rfl⟩
        rw [← hq1] at hnk ⊢
        rw [← hq2] at HNT ⊢
        clear hq1 hq2
        go_enter Tryz.func125, Tryz.ntmps125
        go_wp2_with fail
        refine (HS.out _ ht).mono ?_
        intro e w1 hres
        cases hres with
        | ok ts v he ho hn hb =>
          subst he
          obtain ⟨g, cap, rfl⟩ : ∃ g cap, v = .slice (some ⟨g, 0, none⟩) 2 cap := by
            rcases ho.2 with ⟨_, h1⟩ | ⟨g, cap, cur, hv, _⟩
            · cases h1
            · exact ⟨g, cap, hv⟩
          have c0 := (own_cell ho 0 _ rfl).1
          have c1 := (own_cell ho 1 _ rfl).1
          have hy := HNT.out ⟨t0.toArray⟩ (by simp)
          generalize (⟨t0.toArray⟩ : ByteArray) = y at c1 hy
          clear ho HNT HS
          have h3 : (q1 && q2) = if q1 then q2 else false := by cases q1 <;> rfl
          cases q1
          all_goals
            go_wp2_with fail
            go_ret
            exact ⟨rfl, hb⟩
    · have hv : (ts.length == 2 && (ts.getD 0 (0, [], 0)).1 == kd && (ts.getD 0 (0, [], 0)).2.1 == s.data.toList) = false := by rw [beq_false_of_ne h2]; rfl
      rw [hv]
      have hi2 : ((ts.length : Int) == 2) = false := by simp; omega
      clear hv h2
      go_enter Tryz.func125, Tryz.ntmps125
      go_wp2_with fail
      refine (HS.out _ ht).mono ?_
      intro e w1 hres
      cases hres with
      | ok ts v he ho hn hb =>
        subst he
        obtain ⟨p, cap, rfl⟩ := ownsRow_slice ho
        clear ho
        go_wp2_with fail
        go_ret
        exact ⟨rfl, hb⟩
end Go.Proofs.YthbnegggohegkaaGreatDoor
namespace Go.Proofs.YthbnegggohegkaaGreatDoor
open Go.RowKit

set_option maxRecDepth 100000 in
set_option maxHeartbeats 4000000 in
theorem fits_name (k : Int) (hk : k = 2 ∨ k = 3 ∨ k = 4 ∨ k = 5 ∨ k = 6 ∨ k = 7 ∨ k = 8 ∨ k = 9 ∨ k = 10 ∨ k = 11 ∨ k = 12 ∨ k = 18 ∨ k = 41 ∨ k = 45) (s : ByteArray) (n a : Int) (p : Option Addr) (m c rl : Nat) (w : World) (q : Bool) (hn : ∀ W, Below w.heap.size w W → Calls Tryz.prog 121 #[.string s] W fun e w' => e = .returned (.bool q) ∧ Below W.heap.size W w') : Calls Tryz.prog 90 #[.agg (nd k s n a p m c), .int .i64 (rl : Nat)] w fun e w' => e = .returned (.bool q) ∧ Below w.heap.size w w' := by
  have HN : Hid _ := hn
  clear hn
  rcases hk with rfl | rfl | rfl | rfl | rfl | rfl | rfl | rfl | rfl | rfl | rfl | rfl | rfl | rfl
  all_goals
    go_enter Tryz.func90, Tryz.ntmps90
    go_wp2_with fail
    refine (HN.out _ (below1 _ _)).mono ?_
    rintro e w1 ⟨rfl, hb⟩
    go_wp2_with fail
    go_ret
    exact ⟨rfl, (below1 _ _).trans (hb.mono (by simp))⟩

set_option maxRecDepth 100000 in
set_option maxHeartbeats 4000000 in
theorem fits_label0 (k : Int) (hk : k = 23 ∨ k = 24 ∨ k = 25 ∨ k = 26 ∨ k = 31 ∨ k = 32) (n a : Int) (p : Option Addr) (m c rl : Nat) (w : World) : Calls Tryz.prog 90 #[.agg (nd k ⟨#[]⟩ n a p m c), .int .i64 (rl : Nat)] w fun e w' => e = .returned (.bool true) ∧ Below w.heap.size w w' := by
  rcases hk with rfl | rfl | rfl | rfl | rfl | rfl
  all_goals
    go_enter Tryz.func90, Tryz.ntmps90
    go_wp2
    go_ret
    exact ⟨rfl, below1 _ _⟩

set_option maxRecDepth 100000 in
set_option maxHeartbeats 4000000 in
theorem fits_assign (s : ByteArray) (n a : Int) (p : Option Addr) (m c rl : Nat) (w : World) : Calls Tryz.prog 90 #[.agg (nd 20 s n a p m c), .int .i64 (rl : Nat)] w fun e w' => e = .returned (.bool (assignB s.data.toList)) ∧ Below w.heap.size w w' := by
  have HN : Hid (∀ W, Calls Tryz.prog 124 #[.string s] W fun e w' => e = .returned (.bool (assignB s.data.toList)) ∧ w' = W) := fun W => assign_any s W
  generalize assignB s.data.toList = q at HN ⊢
  go_enter Tryz.func90, Tryz.ntmps90
  go_wp2_with fail
  refine (HN.out _).mono ?_
  rintro e w1 ⟨rfl, rfl⟩
  go_wp2_with fail
  go_ret
  exact ⟨rfl, below1 _ _⟩

set_option maxRecDepth 100000 in
set_option maxHeartbeats 4000000 in
theorem fits_token (k : Int) (kd : Nat) (hk : (k = 35 ∧ kd = 4) ∨ (k = 36 ∧ kd = 5)) (s : ByteArray) (n a : Int) (p : Option Addr) (m c rl : Nat) (w : World) (q : Bool) (hn : ∀ W, Below w.heap.size w W → Calls Tryz.prog 125 #[.string s, .int .i64 kd] W fun e w' => e = .returned (.bool q) ∧ Below W.heap.size W w') : Calls Tryz.prog 90 #[.agg (nd k s n a p m c), .int .i64 (rl : Nat)] w fun e w' => e = .returned (.bool q) ∧ Below w.heap.size w w' := by
  have HN : Hid _ := hn
  clear hn
  rcases hk with ⟨rfl, rfl⟩ | ⟨rfl, rfl⟩
  all_goals
    go_enter Tryz.func90, Tryz.ntmps90
    go_wp2_with fail
    refine (HN.out _ (below1 _ _)).mono ?_
    rintro e w1 ⟨rfl, hb⟩
    go_wp2_with fail
    go_ret
    exact ⟨rfl, (below1 _ _).trans (hb.mono (by simp))⟩

set_option maxRecDepth 100000 in
set_option maxHeartbeats 4000000 in
theorem fits_text (s : ByteArray) (n a : Int) (p : Option Addr) (m c rl : Nat) (w : World) : Calls Tryz.prog 90 #[.agg (nd 37 s n a p m c), .int .i64 (rl : Nat)] w fun e w' => e = .returned (.bool (decide (s.data.toList.length ≤ 65536))) ∧ Below w.heap.size w w' := by
  have hq : decide (s.data.toList.length ≤ 65536) = decide ((s.size : Int) ≤ 65536) := by
    have : s.data.toList.length = s.size := by simp
    rw [this]; by_cases h : s.size ≤ 65536
    · rw [decide_eq_true h, decide_eq_true (by omega)]
    · rw [decide_eq_false h, decide_eq_false (by omega)]
  rw [hq]
  clear hq
  go_enter Tryz.func90, Tryz.ntmps90
  go_wp2
  go_ret
  exact ⟨rfl, below1 _ _⟩

set_option maxRecDepth 100000 in
set_option maxHeartbeats 4000000 in
theorem fits_binary (s : ByteArray) (n a : Int) (p : Option Addr) (m c rl : Nat) (w : World) : Calls Tryz.prog 90 #[.agg (nd 51 s n a p m c), .int .i64 (rl : Nat)] w fun e w' => e = .returned (.bool (binB s.data.toList)) ∧ Below w.heap.size w w' := by
  have HN : Hid (∀ W, Calls Tryz.prog 127 #[.string s] W fun e w' => e = .returned (.int .i64 (levelN s.data.toList : Nat)) ∧ w' = W) := fun W => level_any s W
  rw [bin_level]
  generalize levelN s.data.toList = q at HN ⊢
  go_enter Tryz.func90, Tryz.ntmps90
  go_wp2_with fail
  refine (HN.out _).mono ?_
  rintro e w1 ⟨rfl, rfl⟩
  go_wp2_with fail
  go_ret
  exact ⟨rfl, below1 _ _⟩

set_option maxRecDepth 100000 in
set_option maxHeartbeats 4000000 in
theorem fits_none0 (k : Int) (h2 : (k == 2) = false) (h3 : (k == 3) = false) (h4 : (k == 4) = false) (h5 : (k == 5) = false) (h6 : (k == 6) = false) (h7 : (k == 7) = false) (h8 : (k == 8) = false) (h9 : (k == 9) = false) (h10 : (k == 10) = false) (h11 : (k == 11) = false) (h12 : (k == 12) = false) (h18 : (k == 18) = false) (h41 : (k == 41) = false) (h45 : (k == 45) = false) (h23 : (k == 23) = false) (h24 : (k == 24) = false) (h25 : (k == 25) = false) (h26 : (k == 26) = false) (h31 : (k == 31) = false) (h32 : (k == 32) = false) (h14 : (k == 14) = false) (h40 : (k == 40) = false) (h20 : (k == 20) = false) (h34 : (k == 34) = false) (h35 : (k == 35) = false) (h36 : (k == 36) = false) (h37 : (k == 37) = false) (h50 : (k == 50) = false) (h51 : (k == 51) = false) (n a : Int) (p : Option Addr) (m c rl : Nat) (w : World) : Calls Tryz.prog 90 #[.agg (nd k ⟨#[]⟩ n a p m c), .int .i64 (rl : Nat)] w fun e w' => e = .returned (.bool true) ∧ Below w.heap.size w w' := by
  go_enter Tryz.func90, Tryz.ntmps90
  go_wp2
  go_ret
  exact ⟨rfl, below1 _ _⟩

set_option maxRecDepth 100000 in
set_option maxHeartbeats 4000000 in
theorem fits_none1 (k : Int) (h2 : (k == 2) = false) (h3 : (k == 3) = false) (h4 : (k == 4) = false) (h5 : (k == 5) = false) (h6 : (k == 6) = false) (h7 : (k == 7) = false) (h8 : (k == 8) = false) (h9 : (k == 9) = false) (h10 : (k == 10) = false) (h11 : (k == 11) = false) (h12 : (k == 12) = false) (h18 : (k == 18) = false) (h41 : (k == 41) = false) (h45 : (k == 45) = false) (h23 : (k == 23) = false) (h24 : (k == 24) = false) (h25 : (k == 25) = false) (h26 : (k == 26) = false) (h31 : (k == 31) = false) (h32 : (k == 32) = false) (h14 : (k == 14) = false) (h40 : (k == 40) = false) (h20 : (k == 20) = false) (h34 : (k == 34) = false) (h35 : (k == 35) = false) (h36 : (k == 36) = false) (h37 : (k == 37) = false) (h50 : (k == 50) = false) (h51 : (k == 51) = false) (s : ByteArray) (n a : Int) (p : Option Addr) (m c rl : Nat) (w : World) (h0 : (s.toList == []) = false) : Calls Tryz.prog 90 #[.agg (nd k s n a p m c), .int .i64 (rl : Nat)] w fun e w' => e = .returned (.bool false) ∧ Below w.heap.size w w' := by
  go_enter Tryz.func90, Tryz.ntmps90
  go_wp2
  go_ret
  exact ⟨rfl, below1 _ _⟩

set_option maxRecDepth 100000 in
set_option maxHeartbeats 4000000 in
theorem fits_step0 (s : ByteArray) (hs : s = ⟨#[43, 43]⟩ ∨ s = ⟨#[45, 45]⟩) (n a : Int) (p : Option Addr) (m c rl : Nat) (w : World) : Calls Tryz.prog 90 #[.agg (nd 34 s n a p m c), .int .i64 (rl : Nat)] w fun e w' => e = .returned (.bool true) ∧ Below w.heap.size w w' := by
  rcases hs with rfl | rfl
  all_goals
    go_enter Tryz.func90, Tryz.ntmps90
    go_wp2
    go_ret
    exact ⟨rfl, below1 _ _⟩

set_option maxRecDepth 100000 in
set_option maxHeartbeats 4000000 in
theorem fits_step1 (s : ByteArray) (n a : Int) (p : Option Addr) (m c rl : Nat) (w : World) (h0 : (s.toList == [43, 43]) = false) (h1 : (s.toList == [45, 45]) = false) : Calls Tryz.prog 90 #[.agg (nd 34 s n a p m c), .int .i64 (rl : Nat)] w fun e w' => e = .returned (.bool false) ∧ Below w.heap.size w w' := by
  go_enter Tryz.func90, Tryz.ntmps90
  go_wp2
  go_ret
  exact ⟨rfl, below1 _ _⟩

set_option maxRecDepth 100000 in
set_option maxHeartbeats 4000000 in
theorem fits_pair28a (n a : Int) (p : Option Addr) (m c : Nat) (w : World) : Calls Tryz.prog 90 #[.agg (nd 40 ⟨#[]⟩ n a p m c), .int .i64 28] w fun e w' => e = .returned (.bool true) ∧ Below w.heap.size w w' := by
  go_enter Tryz.func90, Tryz.ntmps90
  go_wp2
  go_ret
  exact ⟨rfl, below1 _ _⟩

end Go.Proofs.YthbnegggohegkaaGreatDoor
namespace Go.Proofs.YthbnegggohegkaaGreatDoor
open Go.RowKit

set_option maxRecDepth 100000 in
set_option maxHeartbeats 4000000 in
theorem fits_label1 (k : Int) (hk : k = 23 ∨ k = 24 ∨ k = 25 ∨ k = 26 ∨ k = 31 ∨ k = 32) (s : ByteArray) (n a : Int) (p : Option Addr) (m c rl : Nat) (w : World) (h0 : (s.toList == []) = false) (q : Bool) (hn : ∀ W, Below w.heap.size w W → Calls Tryz.prog 121 #[.string s] W fun e w' => e = .returned (.bool q) ∧ Below W.heap.size W w') : Calls Tryz.prog 90 #[.agg (nd k s n a p m c), .int .i64 (rl : Nat)] w fun e w' => e = .returned (.bool q) ∧ Below w.heap.size w w' := by
  have HN : Hid _ := hn
  clear hn
  rcases hk with rfl | rfl | rfl | rfl | rfl | rfl
  all_goals
    go_enter Tryz.func90, Tryz.ntmps90
    go_wp2_with fail
    refine (HN.out _ (below1 _ _)).mono ?_
    rintro e w1 ⟨rfl, hb⟩
    go_wp2_with fail
    go_ret
    exact ⟨rfl, (below1 _ _).trans (hb.mono (by simp))⟩

set_option maxRecDepth 100000 in
set_option maxHeartbeats 4000000 in
theorem fits_pair28b (s : ByteArray) (n a : Int) (p : Option Addr) (m c : Nat) (w : World) (h0 : (s.toList == []) = false) : Calls Tryz.prog 90 #[.agg (nd 40 s n a p m c), .int .i64 28] w fun e w' => e = .returned (.bool false) ∧ Below w.heap.size w w' := by
  go_enter Tryz.func90, Tryz.ntmps90
  go_wp2
  go_ret
  exact ⟨rfl, below1 _ _⟩

set_option maxRecDepth 100000 in
set_option maxHeartbeats 4000000 in
theorem fits_pair29 (s : ByteArray) (n a : Int) (p : Option Addr) (m c : Nat) (w : World) (q : Bool) (hn : ∀ W, Below w.heap.size w W → Calls Tryz.prog 121 #[.string s] W fun e w' => e = .returned (.bool q) ∧ Below W.heap.size W w') : Calls Tryz.prog 90 #[.agg (nd 40 s n a p m c), .int .i64 29] w fun e w' => e = .returned (.bool q) ∧ Below w.heap.size w w' := by
  have HN : Hid _ := hn
  clear hn
  go_enter Tryz.func90, Tryz.ntmps90
  go_wp2_with fail
  refine (HN.out _ (below1 _ _)).mono ?_
  rintro e w1 ⟨rfl, hb⟩
  go_wp2_with fail
  go_ret
  exact ⟨rfl, (below1 _ _).trans (hb.mono (by simp))⟩

set_option maxRecDepth 100000 in
set_option maxHeartbeats 4000000 in
theorem fits_pair (s : ByteArray) (n a : Int) (p : Option Addr) (m c rl : Nat) (w : World) (h28 : (((rl : Nat) : Int) == 28) = false) (h29 : (((rl : Nat) : Int) == 29) = false) : Calls Tryz.prog 90 #[.agg (nd 40 s n a p m c), .int .i64 (rl : Nat)] w fun e w' => e = .returned (.bool false) ∧ Below w.heap.size w w' := by
  go_enter Tryz.func90, Tryz.ntmps90
  go_wp2
  go_ret
  exact ⟨rfl, below1 _ _⟩

set_option maxRecDepth 100000 in
set_option maxHeartbeats 4000000 in
theorem fits_unary0 (s : ByteArray) (n a : Int) (p : Option Addr) (m c rl : Nat) (w : World) (hu : ∀ W, Calls Tryz.prog 126 #[.string s] W fun e w' => e = .returned (.bool false) ∧ w' = W) : Calls Tryz.prog 90 #[.agg (nd 50 s n a p m c), .int .i64 (rl : Nat)] w fun e w' => e = .returned (.bool false) ∧ Below w.heap.size w w' := by
  have HN : Hid _ := hu
  clear hu
  go_enter Tryz.func90, Tryz.ntmps90
  go_wp2_with fail
  refine (HN.out _).mono ?_
  rintro e w1 ⟨rfl, rfl⟩
  go_wp2_with fail
  go_ret
  exact ⟨rfl, below1 _ _⟩

set_option maxRecDepth 100000 in
set_option maxHeartbeats 4000000 in
theorem fits_unary1 (s : ByteArray) (n a : Int) (p : Option Addr) (m c rl : Nat) (w : World) (hu : ∀ W, Calls Tryz.prog 126 #[.string s] W fun e w' => e = .returned (.bool true) ∧ w' = W) (h0 : (s.toList == [42]) = true) : Calls Tryz.prog 90 #[.agg (nd 50 s n a p m c), .int .i64 (rl : Nat)] w fun e w' => e = .returned (.bool true) ∧ Below w.heap.size w w' := by
  have HN : Hid _ := hu
  clear hu
  go_enter Tryz.func90, Tryz.ntmps90
  go_wp2_with fail
  refine (HN.out _).mono ?_
  rintro e w1 ⟨rfl, rfl⟩
  go_wp2_with fail
  go_ret
  exact ⟨rfl, below1 _ _⟩

set_option maxRecDepth 100000 in
set_option maxHeartbeats 4000000 in
theorem fits_unary2 (s : ByteArray) (n a : Int) (p : Option Addr) (m c rl : Nat) (w : World) (hu : ∀ W, Calls Tryz.prog 126 #[.string s] W fun e w' => e = .returned (.bool true) ∧ w' = W) (h0 : (s.toList == [42]) = false) (q : Bool) (hq : ((((rl : Nat) : Int)) != 14) = q) : Calls Tryz.prog 90 #[.agg (nd 50 s n a p m c), .int .i64 (rl : Nat)] w fun e w' => e = .returned (.bool q) ∧ Below w.heap.size w w' := by
  have HN : Hid _ := hu
  clear hu
  have HQ : Hid _ := hq
  clear hq
  go_enter Tryz.func90, Tryz.ntmps90
  go_wp2_with fail
  refine (HN.out _).mono ?_
  rintro e w1 ⟨rfl, rfl⟩
  go_wp2_with fail
  go_ret
  exact ⟨congrArg (fun b => Ending.returned (.bool b)) HQ.out, below1 _ _⟩

set_option maxRecDepth 100000 in
set_option maxHeartbeats 4000000 in
theorem fits_word1 (s : ByteArray) (n a : Int) (p : Option Addr) (m c rl : Nat) (w : World) (hn : ∀ W, Below w.heap.size w W → Calls Tryz.prog 121 #[.string s] W fun e w' => e = .returned (.bool true) ∧ Below W.heap.size W w') : Calls Tryz.prog 90 #[.agg (nd 14 s n a p m c), .int .i64 (rl : Nat)] w fun e w' => e = .returned (.bool true) ∧ Below w.heap.size w w' := by
  have HN : Hid _ := hn
  clear hn
  go_enter Tryz.func90, Tryz.ntmps90
  go_wp2_with fail
  refine wp_region_noPanic ?_
  refine wp_region_held (S := fun W => W.cell? ⟨w.heap.size, 1, none⟩ = some (.string s)) (by kernel_rfl) ?_
  obtain ⟨W4, hW4⟩ : ∃ W4, W4 = (w.alloc (.cells (nd 14 s n a p m c) 24)).drew := ⟨_, rfl⟩
  have e4 : ({ (w.alloc (.cells (nd 14 s n a p m c) 24)) with drawn := (w.alloc (.cells (nd 14 s n a p m c) 24)).drawn + 1 } : World) = W4 := hW4.symm
  rw [e4]
  have hB4 : Below w.heap.size w W4 := by rw [hW4]; exact (below1 _ _).drew
  have hS : W4.cell? ⟨w.heap.size, 1, none⟩ = some (.string s) := by rw [hW4]; simp
  have hz4 : W4.heap.size = w.heap.size + 1 := by rw [hW4]; simp
  have HK : Hid (∀ W, Below W4.heap.size W4 W → W.cell? ⟨w.heap.size, 1, none⟩ = some (.string s)) := fun W hW => (hW.cell (p := ⟨w.heap.size, 1, none⟩) (by show w.heap.size < _; omega)).trans hS
  clear e4 hW4
  have b5 : Below W4.heap.size W4 W4 := Below.refl _ _
  refine wpAnyH_take (i := 0) (v := .pointer (some ⟨w.heap.size, 1, none⟩)) rfl (by kernel_rfl) (by kernel_rfl) (by kernel_rfl) (fun _ _ _ h => h) (Or.inl ⟨by rfl, ?r⟩) hS ?_
  case r => intro W hW; simp [go_sem, execOp, Act.eval]
  simp only [List.getElem_toArray, List.getElem_cons_zero, Act.put, List.setIfInBounds_toArray, List.set_cons_succ, List.set_cons_zero]
  refine wpAnyH_take (i := 1) (v := .string s) rfl (by kernel_rfl) (by kernel_rfl) (by kernel_rfl) (fun _ _ _ h => h) (Or.inl ⟨by rfl, ?r⟩) hS ?_
  case r => intro W hW; simp [go_sem, execOp, Act.eval, hW]
  simp only [List.getElem_toArray, List.getElem_cons_zero, List.getElem_cons_succ, Act.put, List.setIfInBounds_toArray, List.set_cons_succ, List.set_cons_zero]
  refine wpAnyH_all (rs := [2]) (by kernel_rfl) (by simp) (fun i1 hi1 => ?_)
  obtain rfl : i1 = 2 := by simpa using hi1
  clear hi1
  refine wpOp_step rfl (fun K hK => ite_yes rfl ?_)
  simp only [List.getElem_toArray, List.getElem_cons_zero, List.getElem_cons_succ]
  go_simp
  refine (HN.out _ (hB4.trans (b5.mono hB4.size))).mono ?_
  rintro e w1 ⟨rfl, c5⟩
  have b5' : Below W4.heap.size W4 w1 := b5.trans (c5.mono b5.size)
  go_simp
  refine hK _ _ ⟨HK.out _ b5', ?_⟩
  clear hK K hS b5
  have hS := HK.out _ b5'
  have b5 : Below W4.heap.size W4 w1 := b5'
  clear b5'
  refine wpAnyH_take (i := 3) (v := .bool true) rfl (by kernel_rfl) (by kernel_rfl) (by kernel_rfl) (fun _ _ _ h => h) (Or.inl ⟨by rfl, ?r⟩) hS ?_
  case r => intro W hW; simp [go_sem, execOp, Act.eval]
  simp only [List.getElem_toArray, List.getElem_cons_zero, List.getElem_cons_succ, Act.put, List.setIfInBounds_toArray, List.set_cons_succ, List.set_cons_zero]
  refine wpAnyH_take (i := 4) (v := undef) rfl (by kernel_rfl) (by kernel_rfl) (by kernel_rfl) (fun _ _ _ h => h) (Or.inr ⟨by rfl, rfl⟩) hS ?_
  refine wpAnyH_take (i := 5) (v := undef) rfl (by kernel_rfl) (by kernel_rfl) (by kernel_rfl) (fun _ _ _ h => h) (Or.inr ⟨by rfl, rfl⟩) hS ?_
  refine wpAnyH_take (i := 6) (v := undef) rfl (by kernel_rfl) (by kernel_rfl) (by kernel_rfl) (fun _ _ _ h => h) (Or.inr ⟨by rfl, rfl⟩) hS ?_
  refine wpAnyH_take (i := 7) (v := undef) rfl (by kernel_rfl) (by kernel_rfl) (by kernel_rfl) (fun _ _ _ h => h) (Or.inr ⟨by rfl, rfl⟩) hS ?_
  refine wpAnyH_take (i := 8) (v := undef) rfl (by kernel_rfl) (by kernel_rfl) (by kernel_rfl) (fun _ _ _ h => h) (Or.inr ⟨by rfl, rfl⟩) hS ?_
  refine wpAnyH_take (i := 9) (v := .bool true) rfl (by kernel_rfl) (by kernel_rfl) (by kernel_rfl) (fun _ _ _ h => h) (Or.inl ⟨by rfl, ?r⟩) hS ?_
  case r => intro W hW; simp [go_sem, execOp, Act.eval, Act.put]
  refine wpAnyH_take (i := 10) (v := .bool true) rfl (by kernel_rfl) (by kernel_rfl) (by kernel_rfl) (fun _ _ _ h => h) (Or.inl ⟨by rfl, ?r⟩) hS ?_
  case r => intro W hW; simp [go_sem, execOp, Act.eval, Act.put]
  refine wpAnyH_done (by kernel_rfl) ?_ _
  refine NoPanic.normal ?_
  try simp only [List.getElem_toArray, List.getElem_cons_zero, List.getElem_cons_succ, Act.put, List.setIfInBounds_toArray, List.set_cons_succ, List.set_cons_zero]
  have HE : Hid _ := hB4.trans (b5.mono hB4.size)
  clear hB4 b5 HK hS
  go_wp2_with fail
  go_ret
  exact ⟨rfl, HE.out⟩

set_option maxRecDepth 100000 in
set_option maxHeartbeats 4000000 in
theorem fits_word2 (s : ByteArray) (n a : Int) (p : Option Addr) (m c rl : Nat) (w : World) (hn : ∀ W, Below w.heap.size w W → Calls Tryz.prog 121 #[.string s] W fun e w' => e = .returned (.bool false) ∧ Below W.heap.size W w') (ws : List Bytes) (hw : ∀ W, Below w.heap.size w W → Calls Tryz.prog 123 #[.int .i64 (rl : Nat)] W fun e w' => ∃ p, e = .returned (.slice p ws.length ws.length) ∧ TextsAt w' p ws ∧ Below W.heap.size W w') (hc : ∀ W p, TextsAt W p ws → Calls Tryz.prog 122 #[.slice p ws.length ws.length, .string s] W fun e w' => e = .returned (.bool (ws.contains s.data.toList)) ∧ w' = W) : Calls Tryz.prog 90 #[.agg (nd 14 s n a p m c), .int .i64 (rl : Nat)] w fun e w' => e = .returned (.bool (ws.contains s.data.toList)) ∧ Below w.heap.size w w' := by
  have HN : Hid _ := hn
  clear hn
  have HW : Hid _ := hw
  clear hw
  have HC : Hid _ := hc
  clear hc
  generalize ws.contains s.data.toList = z at HC ⊢
  go_enter Tryz.func90, Tryz.ntmps90
  go_wp2_with fail
  refine wp_region_noPanic ?_
  refine wp_region_held (S := fun W => W.cell? ⟨w.heap.size, 1, none⟩ = some (.string s)) (by kernel_rfl) ?_
  obtain ⟨W4, hW4⟩ : ∃ W4, W4 = (w.alloc (.cells (nd 14 s n a p m c) 24)).drew := ⟨_, rfl⟩
  have e4 : ({ (w.alloc (.cells (nd 14 s n a p m c) 24)) with drawn := (w.alloc (.cells (nd 14 s n a p m c) 24)).drawn + 1 } : World) = W4 := hW4.symm
  rw [e4]
  have hB4 : Below w.heap.size w W4 := by rw [hW4]; exact (below1 _ _).drew
  have hS : W4.cell? ⟨w.heap.size, 1, none⟩ = some (.string s) := by rw [hW4]; simp
  have hz4 : W4.heap.size = w.heap.size + 1 := by rw [hW4]; simp
  have HK : Hid (∀ W, Below W4.heap.size W4 W → W.cell? ⟨w.heap.size, 1, none⟩ = some (.string s)) := fun W hW => (hW.cell (p := ⟨w.heap.size, 1, none⟩) (by show w.heap.size < _; omega)).trans hS
  clear e4 hW4
  have b5 : Below W4.heap.size W4 W4 := Below.refl _ _
  refine wpAnyH_take (i := 0) (v := .pointer (some ⟨w.heap.size, 1, none⟩)) rfl (by kernel_rfl) (by kernel_rfl) (by kernel_rfl) (fun _ _ _ h => h) (Or.inl ⟨by rfl, ?r⟩) hS ?_
  case r => intro W hW; simp [go_sem, execOp, Act.eval]
  simp only [List.getElem_toArray, List.getElem_cons_zero, Act.put, List.setIfInBounds_toArray, List.set_cons_succ, List.set_cons_zero]
  refine wpAnyH_take (i := 1) (v := .string s) rfl (by kernel_rfl) (by kernel_rfl) (by kernel_rfl) (fun _ _ _ h => h) (Or.inl ⟨by rfl, ?r⟩) hS ?_
  case r => intro W hW; simp [go_sem, execOp, Act.eval, hW]
  simp only [List.getElem_toArray, List.getElem_cons_zero, List.getElem_cons_succ, Act.put, List.setIfInBounds_toArray, List.set_cons_succ, List.set_cons_zero]
  refine wpAnyH_all (rs := [2]) (by kernel_rfl) (by simp) (fun i2 hi2 => ?_)
  obtain rfl : i2 = 2 := by simpa using hi2
  clear hi2
  refine wpOp_step rfl (fun K hK => ite_yes rfl ?_)
  simp only [List.getElem_toArray, List.getElem_cons_zero, List.getElem_cons_succ]
  go_simp
  refine (HN.out _ (hB4.trans (b5.mono hB4.size))).mono ?_
  rintro e w2 ⟨rfl, c5⟩
  have b5' : Below W4.heap.size W4 w2 := b5.trans (c5.mono b5.size)
  go_simp
  refine hK _ _ ⟨HK.out _ b5', ?_⟩
  clear hK K hS b5
  have hS := HK.out _ b5'
  have b5 : Below W4.heap.size W4 w2 := b5'
  clear b5'
  refine wpAnyH_take (i := 3) (v := .bool false) rfl (by kernel_rfl) (by kernel_rfl) (by kernel_rfl) (fun _ _ _ h => h) (Or.inl ⟨by rfl, ?r⟩) hS ?_
  case r => intro W hW; simp [go_sem, execOp, Act.eval]
  simp only [List.getElem_toArray, List.getElem_cons_zero, List.getElem_cons_succ, Act.put, List.setIfInBounds_toArray, List.set_cons_succ, List.set_cons_zero]
  refine wpAnyH_take (i := 4) (v := .int .i64 (rl : Nat)) rfl (by kernel_rfl) (by kernel_rfl) (by kernel_rfl) (fun _ _ _ h => h) (Or.inl ⟨by rfl, ?r⟩) hS ?_
  case r => intro W hW; simp [go_sem, execOp, Act.eval]
  simp only [List.getElem_toArray, List.getElem_cons_zero, List.getElem_cons_succ, Act.put, List.setIfInBounds_toArray, List.set_cons_succ, List.set_cons_zero]
  refine wpAnyH_take (i := 6) (v := .pointer (some ⟨w.heap.size, 1, none⟩)) rfl (by kernel_rfl) (by kernel_rfl) (by kernel_rfl) (fun _ _ _ h => h) (Or.inl ⟨by rfl, ?r⟩) hS ?_
  case r => intro W hW; simp [go_sem, execOp, Act.eval]
  simp only [List.getElem_toArray, List.getElem_cons_zero, List.getElem_cons_succ, Act.put, List.setIfInBounds_toArray, List.set_cons_succ, List.set_cons_zero]
  refine wpAnyH_take (i := 7) (v := .string s) rfl (by kernel_rfl) (by kernel_rfl) (by kernel_rfl) (fun _ _ _ h => h) (Or.inl ⟨by rfl, ?r⟩) hS ?_
  case r => intro W hW; simp [go_sem, execOp, Act.eval, hW]
  simp only [List.getElem_toArray, List.getElem_cons_zero, List.getElem_cons_succ, Act.put, List.setIfInBounds_toArray, List.set_cons_succ, List.set_cons_zero]
  refine wpAnyH_all (rs := [5]) (by kernel_rfl) (by simp) (fun i3 hi3 => ?_)
  obtain rfl : i3 = 5 := by simpa using hi3
  clear hi3
  refine wpOp_step rfl (fun K hK => ite_yes rfl ?_)
  simp only [List.getElem_toArray, List.getElem_cons_zero, List.getElem_cons_succ]
  go_simp
  refine (HW.out _ (hB4.trans (b5.mono hB4.size))).mono ?_
  rintro e w3 ⟨q0, rfl, hT, c5⟩
  have b5' : Below W4.heap.size W4 w3 := b5.trans (c5.mono b5.size)
  go_simp
  refine hK _ _ ⟨HK.out _ b5', ?_⟩
  clear hK K hS b5
  have hS := HK.out _ b5'
  have b5 : Below W4.heap.size W4 w3 := b5'
  clear b5'
  refine wpAnyH_all (rs := [8]) (by kernel_rfl) (by simp) (fun i4 hi4 => ?_)
  obtain rfl : i4 = 8 := by simpa using hi4
  clear hi4
  refine wpOp_step rfl (fun K hK => ite_yes rfl ?_)
  simp only [List.getElem_toArray, List.getElem_cons_zero, List.getElem_cons_succ]
  go_simp
  refine (HC.out _ _ hT).mono ?_
  rintro e w4 ⟨rfl, rfl⟩
  have b5' : Below W4.heap.size W4 w4 := b5
  go_simp
  refine hK _ _ ⟨HK.out _ b5', ?_⟩
  clear hK K hS b5
  have hS := HK.out _ b5'
  have b5 : Below W4.heap.size W4 w4 := b5'
  clear b5'
  refine wpAnyH_take (i := 9) (v := .bool z) rfl (by kernel_rfl) (by kernel_rfl) (by kernel_rfl) (fun _ _ _ h => h) (Or.inl ⟨by rfl, ?r⟩) hS ?_
  case r => intro W hW; simp [go_sem, execOp, Act.eval]
  simp only [List.getElem_toArray, List.getElem_cons_zero, List.getElem_cons_succ, Act.put, List.setIfInBounds_toArray, List.set_cons_succ, List.set_cons_zero]
  refine wpAnyH_take (i := 10) (v := .bool z) rfl (by kernel_rfl) (by kernel_rfl) (by kernel_rfl) (fun _ _ _ h => h) (Or.inl ⟨by rfl, ?r⟩) hS ?_
  case r => intro W hW; simp [go_sem, execOp, Act.eval]
  simp only [List.getElem_toArray, List.getElem_cons_zero, List.getElem_cons_succ, Act.put, List.setIfInBounds_toArray, List.set_cons_succ, List.set_cons_zero]
  refine wpAnyH_done (by kernel_rfl) ?_ _
  refine NoPanic.normal ?_
  try simp only [List.getElem_toArray, List.getElem_cons_zero, List.getElem_cons_succ, Act.put, List.setIfInBounds_toArray, List.set_cons_succ, List.set_cons_zero]
  have HE : Hid _ := hB4.trans (b5.mono hB4.size)
  clear hB4 b5 HK hS
  go_wp2_with fail
  go_ret
  exact ⟨rfl, HE.out⟩

end Go.Proofs.YthbnegggohegkaaGreatDoor
