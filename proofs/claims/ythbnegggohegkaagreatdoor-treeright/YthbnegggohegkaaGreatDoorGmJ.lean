/-
  What a printer has written, and the walks of (*printer).isFull and put.
  The walks of level, and of part and bracketed out of plain's.
  The walks of slices.Index and slices.Contains at rows of texts, of (role).words, and of isToken.
  The document's own answer for trees: letters, digits, among, Name, at every text.
  The document's own answer for trees: whole, pointed, Level, at every text.
  The document's own answer for trees: pointed, at every text.
  A text is one token, an int or a float, just if its digits are so.
  The walk of textFits, at every node: names, labels, signs, numbers, texts.
  The walk of textFits at labels, names, pairs and unary signs.
-/
import Derived.Test.YthbnegggohegkaaGreatDoorRiJ
import Derived.Test.YthbnegggohegkaaGreatDoorAkJ
import Derived.Lib.AppendStr
import Derived.Test.YthbnegggohegkaaGreatDoorGiJ
import Derived.Test.YthbnegggohegkaaGreatDoorFJ
import Derived.Test.YthbnegggohegkaaGreatDoorNmJ
namespace Go.Proofs.YthbnegggohegkaaGreatDoor
open Go.RowKit

/-- What a printer's calls leave as it was: all below base but the printer's own block; and of the rest whatever is no row of bytes. -/
structure PK (pb base : Nat) (w w' : World) : Prop where
  os : w'.os = w.os
  tape : w'.tape = w.tape
  output : w'.output = w.output
  size : w.heap.size ≤ w'.heap.size
  low : ∀ k, k < base → k ≠ pb → w'.heap[k]? = w.heap[k]?
  high : ∀ k cs t fr, k ≠ pb → w.heap[k]? = some (.cells cs t fr) → t ≠ 5 → w'.heap[k]? = some (.cells cs t fr)

theorem PK.refl (pb base : Nat) (w : World) : PK pb base w w := ⟨rfl, rfl, rfl, Nat.le_refl _, fun _ _ _ => rfl, fun _ _ _ _ _ h _ => h⟩
theorem PK.trans {pb base : Nat} {A B C : World} (h : PK pb base A B) (k : PK pb base B C) : PK pb base A C :=
  ⟨k.os.trans h.os, k.tape.trans h.tape, k.output.trans h.output, Nat.le_trans h.size k.size, fun i hi hp => (k.low i hi hp).trans (h.low i hi hp), fun i cs t fr hp hi ht => k.high i cs t fr hp (h.high i cs t fr hp hi ht) ht⟩
theorem PK.of {pb base : Nat} {w w' : World} (hb : Below w.heap.size w w') (hB : base ≤ w.heap.size) : PK pb base w w' :=
  ⟨hb.os, hb.tape, hb.output, hb.size, fun k hk _ => hb.block k (by omega), fun k cs t fr _ h _ => (hb.block k (Array.getElem?_eq_some_iff.1 h).1).trans h⟩
theorem PK.set (pb base : Nat) (w : World) (o : Nat) (v : Value) : PK pb base w (w.setCell ⟨pb, o, none⟩ v) :=
  ⟨rfl, rfl, rfl, by simp, fun k _ hk => Below.heap_setCell w ⟨pb, o, none⟩ v k hk, fun k cs t fr hk h _ => (Below.heap_setCell w ⟨pb, o, none⟩ v k hk).trans h⟩
theorem PK.grown {pb base n : Nat} {w w' : World} {v : Value} {xs : List Value} (hown : w.ownsRow base 5 1 v n xs) (hg : w.grownBy w' v.ownBlock) (hB : base ≤ w.heap.size) : PK pb base w w' :=
  ⟨hg.os, hg.tape, hg.output, hg.size, fun k hk _ => hg.block k (by omega) (fun e => by have := (hown.lt k e.symm).1; omega),
   fun k cs t fr _ h ht => (hg.block k (Array.getElem?_eq_some_iff.1 h).1 (fun e => by
     rcases hown.2 with ⟨rfl, _⟩ | ⟨g, cap, cur, rfl, _, hgg, _⟩
     · cases e
     · cases e; rw [hgg] at h; cases h; exact ht rfl)).trans h⟩
theorem PK.below {pb base B : Nat} {w w' : World} (h : PK pb base w w') (hB : B ≤ base) (hp : B ≤ pb) : Below B w w' :=
  ⟨h.os, h.tape, h.output, h.size, fun k hk => h.low k (by omega) (by omega)⟩

/-- What a printer holds: the bytes that were written. -/
structure Pr (pb base : Nat) (bs : List UInt8) (bare : Bool) (v : Value) (w : World) : Prop where
  row : w.heap[pb]? = some (.cells #[v, .int .i64 0, .bool bare] 84 (0, 0))
  own : w.ownsRow base 5 1 v bs.length (Lib.byteCells bs)

theorem Pr.cell {pb base : Nat} {bs : List UInt8} {bare : Bool} {v : Value} {w : World} (h : Pr pb base bs bare v w) : w.cell? ⟨pb, 0, none⟩ = some v := by simp [World.cell?, h.row]
theorem Pr.bare {pb base : Nat} {bs : List UInt8} {bare : Bool} {v : Value} {w : World} (h : Pr pb base bs bare v w) : w.cell? ⟨pb, 2, none⟩ = some (.bool bare) := by simp [World.cell?, h.row]
theorem Pr.frozen {pb base : Nat} {bs : List UInt8} {bare : Bool} {v : Value} {w : World} (h : Pr pb base bs bare v w) (o : Nat) : w.frozen? ⟨pb, o, none⟩ = false := by simp [World.frozen?, h.row]
theorem Pr.below {pb base : Nat} {bs : List UInt8} {bare : Bool} {v : Value} {w w' : World} (h : Pr pb base bs bare v w) (hb : Below w.heap.size w w') : Pr pb base bs bare v w' := by
  refine ⟨(hb.block pb (Array.getElem?_eq_some_iff.1 h.row).1).trans h.row, h.own.1, ?_⟩
  rcases h.own.2 with hn | ⟨g, cap, cur, rfl, hg, hgg, rest⟩
  · exact .inl hn
  · exact .inr ⟨g, cap, cur, rfl, hg, (hb.block g (Array.getElem?_eq_some_iff.1 hgg).1).trans hgg, rest⟩
theorem Pr.form {pb base : Nat} {bs : List UInt8} {bare : Bool} {v : Value} {w : World} (h : Pr pb base bs bare v w) : ∃ p cap, v = .slice p bs.length cap := by
  rcases h.own.2 with ⟨h', h0⟩ | ⟨g, cap, cur, hv, _⟩
  · exact ⟨none, 0, by rw [h', h0]⟩
  · exact ⟨_, _, hv⟩

set_option maxHeartbeats 400000 in
theorem isFull_any (pb base : Nat) (bs : List UInt8) (bare : Bool) (v : Value) (w : World) (hP : Pr pb base bs bare v w) (hl : bs.length ≤ 60000) :
    Calls Tryz.prog 42 #[.pointer (some ⟨pb, 0, none⟩)] w fun e w' => e = .returned (.bool false) ∧ w' = w := by
  obtain ⟨p, cap, rfl⟩ := hP.form
  have hc := hP.cell
  go_enter Tryz.func42, Tryz.ntmps42
  go_wp2
  go_ret
  exact ⟨congrArg (fun b => Ending.returned (.bool b)) (by simp; omega), rfl⟩

theorem ownsRow_slice {w : World} {base : Nat} {e : TypeId} {size : Nat} {v : Value} {n : Nat} {xs : List Value} (h : w.ownsRow base e size v n xs) : ∃ p cap, v = .slice p n cap := by
  rcases h.2 with ⟨h', h0⟩ | ⟨g, cap, cur, hv, _⟩
  · exact ⟨none, 0, by rw [h', h0]⟩
  · exact ⟨_, _, hv⟩

theorem grownBy_set' (w : World) (g o : Nat) (v : Value) : w.grownBy (w.setCell ⟨g, o, none⟩ v) (some g) :=
  ⟨rfl, rfl, rfl, by simp, fun k _ hk => Below.heap_setCell w ⟨g, o, none⟩ v k (fun e => hk (by rw [e]))⟩
theorem byteCells_app (a b : List UInt8) : Lib.byteCells (a ++ b) = Lib.byteCells a ++ Lib.byteCells b := by simp [Lib.byteCells]

def joinAll (ss : List ByteArray) : List UInt8 := ss.flatMap fun s => s.data.toList
theorem joinAll_snoc (ss : List ByteArray) (j : Nat) (hj : j < ss.length) : joinAll (ss.take (j + 1)) = joinAll (ss.take j) ++ ss[j].data.toList := by
  rw [List.take_succ_eq_append_getElem hj]; simp only [joinAll, List.flatMap_append, List.flatMap_cons, List.flatMap_nil, List.append_nil]
theorem joinAll_take_le (ss : List ByteArray) (j : Nat) : (joinAll (ss.take j)).length ≤ (joinAll ss).length := by
  have : joinAll ss = joinAll (ss.take j) ++ joinAll (ss.drop j) := by rw [joinAll, joinAll, joinAll, ← List.flatMap_append, List.take_append_drop]
  rw [this, List.length_append]; omega

set_option maxRecDepth 100000 in
set_option maxHeartbeats 2000000 in
theorem put_any (pb base b : Nat) (ss : List ByteArray) (bs : List UInt8) (bare : Bool) (v : Value) (w : World) (hP : Pr pb base bs bare v w) (hpb : pb < base) (hB : base ≤ w.heap.size) (hbb : base ≤ b)
    (hrow : w.heap[b]? = some (.cells (ss.map Value.string).toArray 9 (0, 0))) (hl : bs.length + (joinAll ss).length ≤ 60000) (hk : ss.length ≤ 1000) :
    Calls Tryz.prog 96 #[.pointer (some ⟨pb, 0, none⟩), .slice (some ⟨b, 0, none⟩) ss.length ss.length] w fun e w' => (∃ u, e = .returned u) ∧ ∃ v', Pr pb base (bs ++ joinAll ss) bare v' w' ∧ PK pb base w w' := by
  obtain ⟨i0, hi, hz0, hz1, hz2⟩ := info_parts info5
  go_enter Tryz.func96, Tryz.ntmps96
  go_wp2_with fail
  go_loopg [8] ss.length (fun gk i wr => ∃ (j : Nat) (v : Value), gk + j = ss.length ∧ i = .int .i64 j ∧ Pr pb base (bs ++ joinAll (ss.take j)) bare v wr ∧ PK pb base w wr)
  case atStart => exact ⟨0, v, rfl, rfl, by simpa [joinAll] using hP, PK.refl _ _ _⟩
  case round =>
    obtain ⟨j, v, hj, rfl, hP', hK⟩ := hrel
    by_cases hlt : j < ss.length
    · have hrow' := hK.high b _ 9 _ (by omega) hrow (by decide)
      have hs : wr.cell? ⟨b, j, none⟩ = some (.string ss[j]) := by simp [World.cell?, hrow', hlt]
      have hjn := joinAll_snoc ss j hlt
      have hle := joinAll_take_le ss (j + 1)
      rw [hjn, List.length_append] at hle
      have HJ : Hid (joinAll (ss.take (j + 1)) = joinAll (ss.take j) ++ ss[j].data.toList) := hjn
      have hsz : ss[j].data.toList.length = ss[j].size := by simp
      rw [hsz] at hle
      clear hsz
      generalize ss[j] = s at hs HJ hle
      obtain ⟨X, hX⟩ : ∃ X, X = bs ++ joinAll (ss.take j) := ⟨_, rfl⟩
      rw [← hX] at hP'
      have hXl : X.length = bs.length + (joinAll (ss.take j)).length := by rw [hX, List.length_append]
      have hlen : X.length ≤ 60000 := by omega
      have hl2 : X.length + s.size ≤ 60000 := by omega
      have HX : Hid (X = bs ++ joinAll (ss.take j)) := hX
      clear hX hXl
      obtain ⟨p, cap, rfl⟩ := hP'.form
      have hc := hP'.cell
      have hfz := hP'.frozen 0
      have hbz := hK.size
      have hown := hP'.own
      have HP : Hid (Pr pb base X bare (.slice p X.length cap) wr) := hP'
      have HG : Hid (gk + j = ss.length) := hj
      clear hjn hj hrow' hP'
      go_wp2_with (first
        | (go_at_call 42; refine (isFull_any pb base _ bare _ _ HP.out hlen).mono ?_; rintro e w1 ⟨rfl, rfl⟩)
        | (at_builtin; refine Lib.wpList_append_own_string _ rfl _ _ 82 9 rfl base 5 i0 Tryz.underlying82 Tryz.underlying9 hi hz0 hz1 hz2 _ _ _ rfl hown s rfl (by unfold maxLen; omega) (by omega) (by omega) ?_; intro v' w3 hown3 hgr3 _
           have hK3 : PK pb base _ w3 := PK.grown hown hgr3 (by omega)
           have hrow3 : w3.heap[pb]? = some (.cells #[.slice p X.length cap, .int .i64 0, .bool bare] 84 (0, 0)) := (hgr3.block pb (by omega) (fun e => by have := (hown.lt pb e.symm).1; omega)).trans HP.out.row
           have hc3 : w3.cell? ⟨pb, 0, none⟩ = some (.slice p X.length cap) := by simp [World.cell?, hrow3]
           have hf3 : w3.frozen? ⟨pb, 0, none⟩ = false := by simp [World.frozen?, hrow3]
           have HR3 : Hid (w3.heap[pb]? = some (.cells #[.slice p X.length cap, .int .i64 0, .bool bare] 84 (0, 0))) := hrow3
           have HO3 : Hid (w3.ownsRow base 5 1 v' (X.length + s.size) (Lib.byteCells X ++ Lib.strCells s)) := hown3
           obtain ⟨p', cap', rfl⟩ := ownsRow_slice hown3
           clear hrow3 hown3 hgr3))
      go_roundg (ss.length - (j + 1))
      case measure => have := HG.out; omega
      case rel =>
        refine ⟨j + 1, _, by omega, by go_num, ⟨heap_set HR3.out 0 _, ?_⟩, (hK.trans hK3).trans (PK.set pb base w3 0 _)⟩
        have h1 := HO3.out.kept (grownBy_set' w3 pb 0 (.slice p' (X.length + s.size) cap')) (.inr (fun e => by have := (HO3.out.lt pb e).1; omega))
        rw [HJ.out, ← List.append_assoc, ← HX.out, List.length_append, byteCells_app]
        simpa [Lib.strCells, Lib.byteCells] using h1
    · have hjl : j = ss.length := by omega
      subst hjl
      rw [List.take_length] at hP'
      go_wp2_with fail
      go_end0
      exact ⟨⟨_, rfl⟩, v, hP', hK⟩
end Go.Proofs.YthbnegggohegkaaGreatDoor
namespace Go.Proofs.YthbnegggohegkaaGreatDoor
open Go.RowKit

/-- How close an expression's parts hold together. -/
def lev (t : MT) : Int := if t.kind = 51 then (if t.text = ⟨#[43]⟩ then 4 else 5) else 7

set_option maxRecDepth 100000 in
set_option maxHeartbeats 1000000 in
theorem level_sim (t : MT) (h : Sim t) (w : World) : Calls Tryz.prog 147 #[nodeV t] w fun e w' => e = .returned (.int .i64 (lev t)) ∧ Below w.heap.size w w' := by
  cases h with
  | name s a p c hs =>
    have e1 : lev (MT.node 14 s 0 a p c []) = 7 := rfl
    rw [e1]
    simp only [nodeV, MT.kind_node, MT.text_node, MT.num_node, MT.at_node, MT.ptr_node, MT.cap_node, MT.kids_node]
    go_enter Tryz.func147, Tryz.ntmps147
    go_wp2
    go_ret
    exact ⟨rfl, below1 _ _⟩
  | bin s a p c x y hs hx hy =>
    rcases hs with rfl | rfl
    · have e1 : lev (MT.node 51 ⟨#[43]⟩ 0 a p c [x, y]) = 4 := by simp [lev, MT.kind_node, MT.text_node]
      rw [e1]
      simp only [nodeV, MT.kind_node, MT.text_node, MT.num_node, MT.at_node, MT.ptr_node, MT.cap_node, MT.kids_node]
      go_enter Tryz.func147, Tryz.ntmps147
      go_wp2
      go_ret
      exact ⟨rfl, below1 _ _⟩
    · have e1 : lev (MT.node 51 ⟨#[42]⟩ 0 a p c [x, y]) = 5 := by simp [lev, MT.kind_node, MT.text_node]
      rw [e1]
      simp only [nodeV, MT.kind_node, MT.text_node, MT.num_node, MT.at_node, MT.ptr_node, MT.cap_node, MT.kids_node]
      go_enter Tryz.func147, Tryz.ntmps147
      go_wp2
      go_ret
      exact ⟨rfl, below1 _ _⟩

/-- What plain does at a tree. -/
def Plain (pb base : Nat) (t : MT) (out : List UInt8) : Prop :=
  ∀ (bs : List UInt8) (v : Value) (w : World), Pr pb base bs false v w → base ≤ w.heap.size → t.In pb w → bs.length + out.length ≤ 50000 →
    Calls Tryz.prog 132 #[.pointer (some ⟨pb, 0, none⟩), nodeV t] w fun e w' => (∃ u, e = .returned u) ∧ ∃ v', Pr pb base (bs ++ out) false v' w' ∧ PK pb base w w'

/-- A pointer in a box, and a node in one. -/
structure Two (pb bp bn : Nat) (t : MT) (w : World) : Prop where
  p : w.heap[bp]? = some (.cells #[.pointer (some ⟨pb, 0, none⟩)] 114 (0, 0))
  n : w.heap[bn]? = some (.cells #[.int .i64 t.kind, .string t.text, .int .i64 t.num, .int .i64 t.at_, .slice t.ptr t.kids.length t.cap] 24 (0, 0))

theorem Two.keep {pb base bp bn : Nat} {t : MT} {w w' : World} (h : Two pb bp bn t w) (hk : PK pb base w w') (hp : bp ≠ pb) (hn : bn ≠ pb) : Two pb bp bn t w' :=
  ⟨hk.high bp _ _ _ hp h.p (by decide), hk.high bn _ _ _ hn h.n (by decide)⟩
theorem Two.cp {pb bp bn : Nat} {t : MT} {w : World} (h : Two pb bp bn t w) : w.cell? ⟨bp, 0, none⟩ = some (.pointer (some ⟨pb, 0, none⟩)) := by simp [World.cell?, h.p]
theorem Two.cn {pb bp bn : Nat} {t : MT} {w : World} (h : Two pb bp bn t w) : BoxAt w bn t := ⟨by simp [World.cell?, h.n], by simp [World.cell?, h.n], by simp [World.cell?, h.n], by simp [World.cell?, h.n], by simp [World.cell?, h.n]⟩

set_option maxHeartbeats 1000000 in
theorem part1_any (pb base bp bn : Nat) (t : MT) (out bs : List UInt8) (HPl : Plain pb base t out) (v : Value) (w : World) (hP : Pr pb base bs false v w) (hB : base ≤ w.heap.size) (hin : t.In pb w) (hl : bs.length + out.length ≤ 50000) (h2 : Two pb bp bn t w) :
    Calls Tryz.prog 131 #[.pointer (some ⟨bp, 0, none⟩), .pointer (some ⟨bn, 0, none⟩)] w fun e w' => (∃ u, e = .returned u) ∧ ∃ v', Pr pb base (bs ++ out) false v' w' ∧ PK pb base w w' := by
  have hc := h2.cp
  obtain ⟨k0, k1, k2, k3, k4⟩ := h2.cn
  go_enter Tryz.func131, Tryz.ntmps131
  go_wp2_with fail
  refine (HPl bs v _ hP hB hin hl).mono ?_
  rintro e w1 ⟨⟨u, rfl⟩, hr⟩
  go_wp2_with fail
  go_end0
  exact ⟨⟨_, rfl⟩, hr⟩

theorem Pr.set {pb base : Nat} {bs : List UInt8} {bare b : Bool} {v : Value} {w : World} (h : Pr pb base bs bare v w) (hpb : pb < base) : Pr pb base bs b v (w.setCell ⟨pb, 2, none⟩ (.bool b)) :=
  ⟨heap_set h.row 2 _, h.own.kept (grownBy_set' w pb 2 _) (.inr (fun e => by have := (h.own.lt pb e).1; omega))⟩

theorem In.pk {pb base : Nat} {t : MT} {w w' : World} (h : t.In pb w) (hk : PK pb base w w') (hpb : pb < base) : t.In pb w' := MT.In.below (hk.below (Nat.le_of_lt hpb) (Nat.le_refl _)) t h

set_option maxRecDepth 100000 in
set_option maxHeartbeats 2000000 in
theorem bracketed_any (pb base bp bn : Nat) (t : MT) (out bs : List UInt8) (HPl : Plain pb base t out) (v : Value) (w : World) (hP : Pr pb base bs false v w) (hpb : pb < base) (hB : base ≤ w.heap.size) (hin : t.In pb w) (hl : bs.length + out.length + 2 ≤ 50000) (h2 : Two pb bp bn t w) (hbp : bp ≠ pb) (hbn : bn ≠ pb) :
    Calls Tryz.prog 130 #[.pointer (some ⟨pb, 0, none⟩), .string ⟨#[40]⟩, .string ⟨#[41]⟩, .func (.func 131) #[] #[.pointer (some ⟨bp, 0, none⟩), .pointer (some ⟨bn, 0, none⟩)]] w fun e w' => (∃ u, e = .returned u) ∧ ∃ v', Pr pb base (bs ++ ([40] ++ out ++ [41])) false v' w' ∧ PK pb base w w' := by
  have HP : Hid (Plain pb base t out) := HPl
  clear HPl
  have c2 := hP.bare
  have f2 := hP.frozen 2
  have hP1 : Pr pb base bs false v (w.setCell ⟨pb, 2, none⟩ (.bool false)) := hP.set hpb
  have hK1 := PK.set pb base w 2 (.bool false)
  have hz1 := hK1.size
  have hP2 := hP1.below (below1 _ (.cells #[.string ⟨#[40]⟩] 9))
  have hK2 := hK1.trans (PK.of (pb := pb) (below1 (w.setCell ⟨pb, 2, none⟩ (.bool false)) (.cells #[.string ⟨#[40]⟩] 9)) (by omega))
  have hr2 := heap_alloc_new (w.setCell ⟨pb, 2, none⟩ (.bool false)) (.cells #[.string ⟨#[40]⟩] 9)
  go_enter Tryz.func130, Tryz.ntmps130
  go_wp2_with fail
  simp only [World.size_setCell] at hr2
  refine (put_any pb base w.heap.size [⟨#[40]⟩] bs false v _ hP2 hpb (by simp; omega) hB hr2 (by simp [joinAll]; omega) (by simp)).mono ?_
  rintro e w3 ⟨⟨u, rfl⟩, v3, hP3, hK3⟩
  have e40 : bs ++ joinAll [⟨#[40]⟩] = bs ++ [40] := by simp [joinAll]
  rw [e40] at hP3
  have hKA := hK2.trans hK3
  have hzA := hKA.size
  have h2A := h2.keep hKA hbp hbn
  have hinA := In.pk hin hKA hpb
  clear hP hP1 hP2 hK1 hK2 hK3 hr2 c2 f2 e40 h2 hin
  go_wp2_with fail
  refine (part1_any pb base bp bn t out (bs ++ [40]) HP.out v3 _ hP3 (by omega) hinA (by simp; omega) h2A).mono ?_
  rintro e w4 ⟨⟨u, rfl⟩, v4, hP4, hK4⟩
  have hKB := hKA.trans hK4
  have hzB := hKB.size
  have hP5 := hP4.below (below1 _ (.cells #[.string ⟨#[41]⟩] 9))
  have hKC := hKB.trans (PK.of (pb := pb) (below1 w4 (.cells #[.string ⟨#[41]⟩] 9)) (by omega))
  have hr5 := heap_alloc_new w4 (.cells #[.string ⟨#[41]⟩] 9)
  clear hP3 hP4 hKA hK4 h2A hinA
  go_wp2_with fail
  refine (put_any pb base w4.heap.size [⟨#[41]⟩] (bs ++ [40] ++ out) false v4 _ hP5 hpb (by simp; omega) (by omega) hr5 (by simp [joinAll]; omega) (by simp)).mono ?_
  rintro e w6 ⟨⟨u, rfl⟩, v6, hP6, hK6⟩
  have hKD := hKC.trans hK6
  have e41 : bs ++ [40] ++ out ++ joinAll [⟨#[41]⟩] = bs ++ ([40] ++ out ++ [41]) := by simp [joinAll]
  rw [e41] at hP6
  have c6 := hP6.bare
  have f6 := hP6.frozen 2
  have HE : Hid (Pr pb base (bs ++ ([40] ++ out ++ [41])) false v6 (w6.setCell ⟨pb, 2, none⟩ (.bool false)) ∧ PK pb base w (w6.setCell ⟨pb, 2, none⟩ (.bool false))) := ⟨hP6.set hpb, hKD.trans (PK.set pb base w6 2 _)⟩
  clear hP5 hr5 hKC hK6 hKB e41 hP6 hKD
  go_wp2_with fail
  go_end0
  exact ⟨⟨_, rfl⟩, v6, HE.out⟩

/-- Within brackets, if they are needed. -/
def brk (b : Bool) (out : List UInt8) : List UInt8 := if b then [40] ++ out ++ [41] else out

set_option maxRecDepth 100000 in
set_option maxHeartbeats 2000000 in
theorem part_any (pb base : Nat) (t : MT) (out bs : List UInt8) (HPl : Plain pb base t out) (need : Bool) (v : Value) (w : World) (hP : Pr pb base bs false v w) (hpb : pb < base) (hB : base ≤ w.heap.size) (hin : t.In pb w) (hl : bs.length + (brk need out).length ≤ 50000) :
    Calls Tryz.prog 101 #[.pointer (some ⟨pb, 0, none⟩), nodeV t, .bool need] w fun e w' => (∃ u, e = .returned u) ∧ ∃ v', Pr pb base (bs ++ brk need out) false v' w' ∧ PK pb base w w' := by
  have HP : Hid (Plain pb base t out) := HPl
  clear HPl
  have hb2 := below2 w (.cells #[.pointer (some ⟨pb, 0, none⟩)] 114) (nodeO t)
  have hP2 := hP.below hb2
  have hK2 := PK.of (pb := pb) hb2 hB
  have hin2 := In.pk hin hK2 hpb
  have h2 : Two pb w.heap.size (w.heap.size + 1) t ((w.alloc (.cells #[.pointer (some ⟨pb, 0, none⟩)] 114)).alloc (nodeO t)) := by
    refine ⟨?_, ?_⟩
    · exact (Below.heap_alloc _ _ _ (by simp)).trans (heap_alloc_new w _)
    · have := heap_alloc_new (w.alloc (.cells #[.pointer (some ⟨pb, 0, none⟩)] 114)) (nodeO t)
      rwa [World.size_alloc] at this
  have hc := hP2.bare
  cases need
  · go_enter Tryz.func101, Tryz.ntmps101
    go_wp2_with fail
    refine (HP.out bs v _ hP2 (by simp; omega) hin2 hl).mono ?_
    rintro e w3 ⟨⟨u, rfl⟩, v3, hP3, hK3⟩
    have HE : Hid (Pr pb base (bs ++ brk false out) false v3 w3 ∧ PK pb base w w3) := ⟨hP3, hK2.trans hK3⟩
    clear hP3 hK3 hP2 hK2 h2 hc
    go_wp2_with fail
    go_end0
    exact ⟨⟨_, rfl⟩, v3, HE.out⟩
  · go_enter Tryz.func101, Tryz.ntmps101
    go_wp2_with fail
    refine (bracketed_any pb base w.heap.size (w.heap.size + 1) t out bs HP.out v _ hP2 hpb (by simp; omega) hin2 (by simp [brk] at hl; omega) h2 (by omega) (by omega)).mono ?_
    rintro e w3 ⟨⟨u, rfl⟩, v3, hP3, hK3⟩
    have HE : Hid (Pr pb base (bs ++ brk true out) false v3 w3 ∧ PK pb base w w3) := ⟨hP3, hK2.trans hK3⟩
    clear hP3 hK3 hP2 hK2 h2 hc
    go_wp2_with fail
    refine bodyPost_ret (results_none rfl _ _ _) rfl ?_
    exact ⟨⟨_, rfl⟩, v3, HE.out⟩
end Go.Proofs.YthbnegggohegkaaGreatDoor
namespace Go.Proofs.YthbnegggohegkaaGreatDoor
open Go.RowKit

/-- A row of texts. -/
def TextsAt (w : World) (p : Option Addr) (ws : List Bytes) : Prop :=
  (ws = [] ∧ p = none) ∨ ∃ g, p = some ⟨g, 0, none⟩ ∧ g < w.heap.size ∧ ∀ (i : Nat) (h : i < ws.length), w.cell? ⟨g, i, none⟩ = some (.string ⟨ws[i].toArray⟩)
theorem TextsAt.below {w w' : World} {p : Option Addr} {ws : List Bytes} (h : TextsAt w p ws) {B : Nat} (hB : w.heap.size ≤ B) (hb : Below B w w') : TextsAt w' p ws := by
  rcases h with h | ⟨g, h1, h3, h4⟩
  · exact .inl h
  · exact .inr ⟨g, h1, by have := hb.size; omega, fun i hi => (hb.cell (p := ⟨g, i, none⟩) (by show g < B; omega)).trans (h4 i hi)⟩

theorem contains_split (ws : List Bytes) (x : Bytes) (j : Nat) (h : j < ws.length) (e : ws[j] = x) : ws.contains x = true := by
  rw [List.contains_iff_mem, ← e]; exact List.getElem_mem h
theorem contains_not (ws : List Bytes) (x : Bytes) (h : ∀ (m : Nat) (hm : m < ws.length), ws[m] ≠ x) : ws.contains x = false := by
  cases e : ws.contains x with
  | false => rfl
  | true =>
    rw [List.contains_iff_mem] at e
    obtain ⟨m, hm, e⟩ := List.getElem_of_mem e
    exact absurd e (h m hm)

set_option maxHeartbeats 1000000 in
theorem index_any (ws : List Bytes) (p : Option Addr) (c : Nat) (x : ByteArray) (w : World) (hl : ws.length ≤ 100) (hT : TextsAt w p ws) :
    Calls Tryz.prog 140 #[.slice p ws.length c, .string x] w fun e w' => ∃ r : Int, e = .returned (.int .i64 r) ∧ Hid (decide (0 ≤ r) = ws.contains x.data.toList) ∧ w' = w := by
  have HT : Hid _ := hT
  clear hT
  go_enter Tryz.func140, Tryz.ntmps140
  go_wp2_with fail
  go_loopg [8] ws.length (fun gk i wr => ∃ j : Nat, gk + j = ws.length ∧ i = .int .i64 j ∧ wr = w ∧ Hid (∀ (m : Nat) (hm : m < ws.length), m < j → ws[m] ≠ x.data.toList))
  case atStart => exact ⟨0, rfl, rfl, rfl, fun _ _ h => by omega⟩
  case round =>
    obtain ⟨j, hj, rfl, rfl, hno⟩ := hrel
    by_cases hlt : j < ws.length
    · obtain ⟨g, rfl, hg, hc⟩ := HT.out.resolve_left (fun h => by rw [h.1] at hlt; simp at hlt)
      have hx := hc j hlt
      have HE : Hid (∀ y : ByteArray, y = ⟨ws[j].toArray⟩ → (x.toList == y.toList) = (ws[j] == x.data.toList)) := fun y hy => by
        subst hy; rw [ByteArray.toList_eq, ByteArray.toList_eq]
        show (x.data.toList == ws[j].toArray.toList) = _
        rw [List.toList_toArray, Bool.beq_comm]
      obtain ⟨y, hy⟩ : ∃ y : ByteArray, y = ⟨ws[j].toArray⟩ := ⟨_, rfl⟩
      rw [← hy] at hx
      have he := HE.out y hy
      clear hc HE hy
      cases hb : ws[j] == x.data.toList with
      | true =>
        have HC : Hid (ws.contains x.data.toList = true) := contains_split ws _ j hlt (eq_of_beq hb)
        rw [hb] at he
        clear hb hno
        go_wp2_with fail
        go_ret
        exact ⟨j, rfl, by show _ = _; rw [HC.out]; simp, rfl⟩
      | false =>
        have HN : Hid (∀ (m : Nat) (hm : m < ws.length), m < j + 1 → ws[m] ≠ x.data.toList) := fun m hm h => by
          rcases Nat.lt_or_ge m j with h1 | h1
          · exact hno.out m hm h1
          · obtain rfl : m = j := by omega
            exact ne_of_beq_false hb
        rw [hb] at he
        have HJ : Hid (gk + j = ws.length) := hj
        clear hb hno hj
        go_wp2_with fail
        go_roundg (ws.length - (j + 1))
        case measure => have := HJ.out; omega
        case rel => exact ⟨j + 1, by omega, by go_num, rfl, HN.out⟩
    · have HC : Hid (ws.contains x.data.toList = false) := contains_not ws _ (fun m hm => hno.out m hm (by omega))
      clear hno hj
      go_wp2_with fail
      go_ret
      exact ⟨-1, rfl, by show _ = _; rw [HC.out]; rfl, rfl⟩

set_option maxHeartbeats 1000000 in
theorem contains_any (ws : List Bytes) (p : Option Addr) (c : Nat) (x : ByteArray) (w : World) (hl : ws.length ≤ 100) (hT : TextsAt w p ws) :
    Calls Tryz.prog 122 #[.slice p ws.length c, .string x] w fun e w' => e = .returned (.bool (ws.contains x.data.toList)) ∧ w' = w := by
  have HI : Hid (Calls Tryz.prog 140 #[.slice p ws.length c, .string x] w fun e w' => ∃ r : Int, e = .returned (.int .i64 r) ∧ Hid (decide (0 ≤ r) = ws.contains x.data.toList) ∧ w' = w) := index_any ws p c x w hl hT
  clear hT
  obtain ⟨q, hq⟩ : ∃ q, q = ws.contains x.data.toList := ⟨_, rfl⟩
  rw [← hq] at HI ⊢
  clear hq
  go_enter Tryz.func122, Tryz.ntmps122
  go_wp2_with fail
  refine Calls.mono HI.out ?_
  rintro e w1 ⟨r, rfl, hr, rfl⟩
  clear HI
  go_wp2_with fail
  go_ret
  exact ⟨congrArg (fun b => Ending.returned (.bool b)) hr.out, rfl⟩

set_option maxHeartbeats 4000000 in
theorem words_any (rl : Nat) (hrl : rl ≤ 30) (w : World) : Calls Tryz.prog 123 #[.int .i64 rl] w fun e w' => ∃ p, e = .returned (.slice p (wordsN rl).length (wordsN rl).length) ∧ TextsAt w' p (wordsN rl) ∧ Below w.heap.size w w' := by
  rcases role_cases hrl with rfl | rfl | rfl | rfl | rfl | rfl | rfl | rfl | rfl | rfl | rfl | rfl | rfl | rfl | rfl | rfl | rfl | rfl | rfl | rfl | rfl | rfl | rfl | rfl | rfl | rfl | rfl | rfl | rfl | rfl | rfl
  all_goals
    go_enter Tryz.func123, Tryz.ntmps123
    go_wp2
    go_ret
    first
      | exact ⟨none, rfl, .inl ⟨rfl, rfl⟩, Below.refl _ _⟩
      | (refine ⟨some ⟨w.heap.size, 0, none⟩, rfl, .inr ⟨_, rfl, by simp, ?_⟩, below1 _ _⟩; (intro i hi; match i, hi with | 0, _ => exact cell_mid _ _ _ _ _ _ rfl rfl | 1, _ => exact cell_mid _ _ _ _ _ _ rfl rfl | i + 2, h => exact absurd h (by show ¬ (i + 2 < 2); omega)); done)
      | (refine ⟨some ⟨w.heap.size, 0, none⟩, rfl, .inr ⟨_, rfl, by simp, ?_⟩, below1 _ _⟩; (intro i hi; match i, hi with | 0, _ => exact cell_mid _ _ _ _ _ _ rfl rfl | 1, _ => exact cell_mid _ _ _ _ _ _ rfl rfl | 2, _ => exact cell_mid _ _ _ _ _ _ rfl rfl | i + 3, h => exact absurd h (by show ¬ (i + 3 < 3); omega)); done)
      | (refine ⟨some ⟨w.heap.size, 0, none⟩, rfl, .inr ⟨_, rfl, by simp, ?_⟩, below1 _ _⟩; (intro i hi; match i, hi with | 0, _ => exact cell_mid _ _ _ _ _ _ rfl rfl | 1, _ => exact cell_mid _ _ _ _ _ _ rfl rfl | 2, _ => exact cell_mid _ _ _ _ _ _ rfl rfl | 3, _ => exact cell_mid _ _ _ _ _ _ rfl rfl | i + 4, h => exact absurd h (by show ¬ (i + 4 < 4); omega)); done)
      | (refine ⟨some ⟨w.heap.size, 0, none⟩, rfl, .inr ⟨_, rfl, by simp, ?_⟩, below1 _ _⟩; (intro i hi; match i, hi with | 0, _ => exact cell_mid _ _ _ _ _ _ rfl rfl | 1, _ => exact cell_mid _ _ _ _ _ _ rfl rfl | 2, _ => exact cell_mid _ _ _ _ _ _ rfl rfl | 3, _ => exact cell_mid _ _ _ _ _ _ rfl rfl | 4, _ => exact cell_mid _ _ _ _ _ _ rfl rfl | 5, _ => exact cell_mid _ _ _ _ _ _ rfl rfl | i + 6, h => exact absurd h (by show ¬ (i + 6 < 6); omega)); done)
theorem words_len (rl : Nat) : (wordsN rl).length ≤ 100 := by
  unfold wordsN
  repeat' split
  all_goals simp

theorem tokB_error {s : Bytes} {kd : Nat} {e : Nat × Nat} (h : scanSpec s = .error e) : tokB s kd = false := by unfold tokB; rw [h]
theorem tokB_ok {s : Bytes} {kd : Nat} {ts : List Tok} (h : scanSpec s = .ok ts) : tokB s kd = (ts.length == 2 && (ts.getD 0 (0, [], 0)).1 == kd && (ts.getD 0 (0, [], 0)).2.1 == s) := by unfold tokB; rw [h]

set_option maxRecDepth 100000 in
set_option maxHeartbeats 1000000 in
theorem token_any {gw ow gs os : Nat} (s : ByteArray) (kd : Nat) (w : World) (ht : TabsAt gw ow gs os w) :
    Calls Tryz.prog 125 #[.string s, .int .i64 kd] w fun e w' => e = .returned (.bool (tokB s.data.toList kd)) ∧ Below w.heap.size w w' := by
  obtain ⟨R, hR⟩ : ∃ R, R = scanSpec s.data.toList := ⟨_, rfl⟩
  have HS : Hid (∀ W, TabsAt gw ow gs os W → Calls Tryz.prog 141 #[.string s] W fun e w' => ScanRes W w' e R) := fun W hW => by rw [hR]; exact scan_any s W hW
  cases R with
  | error c =>
    rw [tokB_error hR.symm]
    clear hR
    go_enter Tryz.func125, Tryz.ntmps125
    go_wp2_with fail
    refine (HS.out _ ht).mono ?_
    intro e w1 hres
    cases hres with
    | error c p b he hlo hwr hb =>
      subst he
      go_wp2_with fail
      go_ret
      exact ⟨rfl, hb⟩
  | ok ts =>
    rw [tokB_ok hR.symm]
    clear hR
    by_cases h2 : ts.length = 2
    · match ts, h2 with
      | [(k0, t0, a0), (k1, t1, a1)], _ =>
        show Calls Tryz.prog 125 #[.string s, .int .i64 kd] w fun e w' => e = .returned (.bool (true && k0 == kd && t0 == s.data.toList)) ∧ Below w.heap.size w w'
        rw [Bool.true_and]
        have hnk : ((k0 : Int) == (kd : Int)) = (k0 == kd) := by
          cases h : k0 == kd with
          | true => rw [eq_of_beq h]; simp
          | false => have := ne_of_beq_false h; simp; omega
        have hnt : ∀ y : ByteArray, y.data.toList = t0 → (y.toList == s.toList) = (t0 == s.data.toList) := fun y hy => by rw [ByteArray.toList_eq, ByteArray.toList_eq, hy]
        have HNT : Hid _ := hnt
        clear hnt
        obtain ⟨q1, hq1⟩ : ∃ q, q = (k0 == kd) := ⟨_, rfl⟩
        obtain ⟨q2, hq2⟩ : ∃ q, q = (t0 == s.data.toList) := ⟨_, rfl⟩
        rw [← hq1] at hnk ⊢
        rw [← hq2] at HNT ⊢
        clear hq1 hq2
        go_enter Tryz.func125, Tryz.ntmps125
        go_wp2_with fail
        refine (HS.out _ ht).mono ?_
        intro e w1 hres
        cases hres with
        | ok ts v he ho hn hb =>
          subst he
          obtain ⟨g, cap, rfl⟩ : ∃ g cap, v = .slice (some ⟨g, 0, none⟩) 2 cap := by
            rcases ho.2 with ⟨_, h1⟩ | ⟨g, cap, cur, hv, _⟩
            · cases h1
            · exact ⟨g, cap, hv⟩
          have c0 := (own_cell ho 0 _ rfl).1
          have c1 := (own_cell ho 1 _ rfl).1
          have hy := HNT.out ⟨t0.toArray⟩ (by simp)
          generalize (⟨t0.toArray⟩ : ByteArray) = y at c1 hy
          clear ho HNT HS
          have h3 : (q1 && q2) = if q1 then q2 else false := by cases q1 <;> rfl
          cases q1
          all_goals
            go_wp2_with fail
            go_ret
            exact ⟨rfl, hb⟩
    · have hv : (ts.length == 2 && (ts.getD 0 (0, [], 0)).1 == kd && (ts.getD 0 (0, [], 0)).2.1 == s.data.toList) = false := by rw [beq_false_of_ne h2]; rfl
      rw [hv]
      have hi2 : ((ts.length : Int) == 2) = false := by simp; omega
      clear hv h2
      go_enter Tryz.func125, Tryz.ntmps125
      go_wp2_with fail
      refine (HS.out _ ht).mono ?_
      intro e w1 hres
      cases hres with
      | ok ts v he ho hn hb =>
        subst he
        obtain ⟨p, cap, rfl⟩ := ownsRow_slice ho
        clear ho
        go_wp2_with fail
        go_ret
        exact ⟨rfl, hb⟩
end Go.Proofs.YthbnegggohegkaaGreatDoor
namespace Go.Proofs.YthbnegggohegkaaGreatDoor
open Go.RowKit

set_option maxHeartbeats 400000 in
theorem rLetter_any (n : Nat) (w : World) :
    Calls Tryz.prog 112 #[.int .u8 n] w fun e w' => e = .returned (.bool (letterN n)) ∧ w' = w := by
  go_enter Tryz.func112, Tryz.ntmps112
  go_wp2
  all_goals go_ret
  all_goals refine ⟨congrArg (fun b => Ending.returned (.bool b)) ?_, rfl⟩
  all_goals (rw [Bool.eq_iff_iff]; simp [letterN]; omega)

set_option maxHeartbeats 400000 in
theorem rDigit_any (n : Nat) (w : World) :
    Calls Tryz.prog 113 #[.int .u8 n] w fun e w' => e = .returned (.bool (digitN n)) ∧ w' = w := by
  go_enter Tryz.func113, Tryz.ntmps113
  go_wp2
  all_goals go_ret
  all_goals refine ⟨congrArg (fun b => Ending.returned (.bool b)) ?_, rfl⟩
  all_goals (rw [Bool.eq_iff_iff]; simp [digitN]; omega)

set_option maxHeartbeats 1000000 in
theorem among_any (ws : List Bytes) (p : Option Addr) (c : Nat) (x : ByteArray) (w : World) (hl : ws.length ≤ 100) (hT : TextsAt w p ws) :
    Calls Tryz.prog 80 #[.string x, .slice p ws.length c] w fun e w' => e = .returned (.bool (ws.contains x.data.toList)) ∧ w' = w := by
  have HT : Hid _ := hT
  clear hT
  obtain ⟨R, hR⟩ : ∃ R, R = ws.contains x.data.toList := ⟨_, rfl⟩
  rw [← hR]
  have HR : Hid (R = ws.contains x.data.toList) := hR
  clear hR
  go_enter Tryz.func80, Tryz.ntmps80
  go_wp2_with fail
  go_loopg [5] ws.length (fun gk i wr => ∃ j : Nat, gk + j = ws.length ∧ i = .int .i64 j ∧ wr = w ∧ Hid (∀ (m : Nat) (hm : m < ws.length), m < j → ws[m] ≠ x.data.toList))
  case atStart => exact ⟨0, rfl, rfl, rfl, fun _ _ h => by omega⟩
  case round =>
    obtain ⟨j, hj, rfl, rfl, hno⟩ := hrel
    by_cases hlt : j < ws.length
    · obtain ⟨g, rfl, hg, hc⟩ := HT.out.resolve_left (fun h => by rw [h.1] at hlt; simp at hlt)
      have hx := hc j hlt
      have HE : Hid (∀ y : ByteArray, y = ⟨ws[j].toArray⟩ → (y.toList == x.toList) = (ws[j] == x.data.toList)) := fun y hy => by
        subst hy; rw [ByteArray.toList_eq, ByteArray.toList_eq]
      obtain ⟨y, hy⟩ : ∃ y : ByteArray, y = ⟨ws[j].toArray⟩ := ⟨_, rfl⟩
      rw [← hy] at hx
      have he := HE.out y hy
      clear hc HE hy
      cases hb : ws[j] == x.data.toList with
      | true =>
        have HC : Hid (R = true) := HR.out.trans (contains_split ws _ j hlt (eq_of_beq hb))
        rw [hb] at he
        clear hb hno
        go_wp2_with fail
        go_ret
        exact ⟨congrArg (fun b => Ending.returned (.bool b)) HC.out.symm, rfl⟩
      | false =>
        have HN : Hid (∀ (m : Nat) (hm : m < ws.length), m < j + 1 → ws[m] ≠ x.data.toList) := fun m hm h => by
          rcases Nat.lt_or_ge m j with h1 | h1
          · exact hno.out m hm h1
          · obtain rfl : m = j := by omega
            exact ne_of_beq_false hb
        rw [hb] at he
        have HJ : Hid (gk + j = ws.length) := hj
        clear hb hno hj
        go_wp2_with fail
        go_roundg (ws.length - (j + 1))
        case measure => have := HJ.out; omega
        case rel => exact ⟨j + 1, by omega, by go_num, rfl, HN.out⟩
    · have HC : Hid (R = false) := HR.out.trans (contains_not ws _ (fun m hm => hno.out m hm (by omega)))
      clear hno hj
      go_wp2_with fail
      go_ret
      exact ⟨congrArg (fun b => Ending.returned (.bool b)) HC.out.symm, rfl⟩

/-- What is no name. -/
def words23 : List Bytes := wordTab.map (·.1) ++ [[95]]
def cells23 : Array Value := #[.string ⟨#[97, 110, 121]⟩, .string ⟨#[98, 114, 101, 97, 107]⟩, .string ⟨#[99, 97, 115, 101]⟩, .string ⟨#[99, 111, 110, 116, 105, 110, 117, 101]⟩, .string ⟨#[100, 101, 102, 97, 117, 108, 116]⟩, .string ⟨#[100, 101, 102, 101, 114]⟩, .string ⟨#[101, 108, 115, 101]⟩, .string ⟨#[102, 97, 108, 108, 116, 104, 114, 111, 117, 103, 104]⟩, .string ⟨#[102, 97, 108, 115, 101]⟩, .string ⟨#[102, 111, 114]⟩, .string ⟨#[102, 117, 110, 99]⟩, .string ⟨#[105, 102]⟩, .string ⟨#[105, 110]⟩, .string ⟨#[109, 97, 112]⟩, .string ⟨#[110, 105, 108]⟩, .string ⟨#[112, 114, 111, 116, 111, 99, 111, 108]⟩, .string ⟨#[114, 101, 116, 117, 114, 110]⟩, .string ⟨#[115, 116, 114, 117, 99, 116]⟩, .string ⟨#[115, 119, 105, 116, 99, 104]⟩, .string ⟨#[116, 114, 117, 101]⟩, .string ⟨#[116, 121, 112, 101]⟩, .string ⟨#[118, 97, 114]⟩, .string ⟨#[95]⟩]
theorem words23_cell : ∀ (j : Nat) (h : j < words23.length), cells23[j]? = some (.string ⟨words23[j].toArray⟩)
  | 0, _ => rfl
  | 1, _ => rfl
  | 2, _ => rfl
  | 3, _ => rfl
  | 4, _ => rfl
  | 5, _ => rfl
  | 6, _ => rfl
  | 7, _ => rfl
  | 8, _ => rfl
  | 9, _ => rfl
  | 10, _ => rfl
  | 11, _ => rfl
  | 12, _ => rfl
  | 13, _ => rfl
  | 14, _ => rfl
  | 15, _ => rfl
  | 16, _ => rfl
  | 17, _ => rfl
  | 18, _ => rfl
  | 19, _ => rfl
  | 20, _ => rfl
  | 21, _ => rfl
  | 22, _ => rfl
  | j + 23, h => absurd h (by show ¬ (j + 23 < 23); omega)
theorem name_23 (l : Bytes) (h : l ∈ words23) : nameB l = false := by
  unfold words23 at h
  rw [List.mem_append, List.mem_map, List.mem_singleton] at h
  unfold nameB
  rcases h with ⟨x, hx, rfl⟩ | rfl
  · have e : isWord x.1 = true := by unfold isWord; rw [List.any_eq_true]; exact ⟨x, hx, by simp⟩
    unfold isName; rw [e]; simp
  · simp
theorem name_not23 (l : Bytes) (h : ∀ (m : Nat) (hm : m < words23.length), words23[m] ≠ l) : nameB l = (decide (l ≠ []) && decide (l.length ≤ 40) && letterN (l.getD 0 0).toNat && decide (spanB partN l = l.length)) := by
  have hm : l ∉ words23 := fun hl => by obtain ⟨m, hm, e⟩ := List.getElem_of_mem hl; exact h m hm e
  unfold words23 at hm
  rw [List.mem_append, not_or, List.mem_map, List.mem_singleton] at hm
  have e : isWord l = false := by
    unfold isWord
    rw [List.any_eq_false]
    intro x hx hh
    exact hm.1 ⟨x, hx, eq_of_beq hh⟩
  unfold nameB isName
  rw [e, beq_false_of_ne hm.2]
  simp
theorem list_empty' {s : ByteArray} (h : s.data.toList ≠ []) : (s.toList == []) = false := by rw [ByteArray.toList_eq]; exact beq_false_of_ne h
theorem span_all_of (q : Nat → Bool) (l : Bytes) (h : ∀ j, j < l.length → q (l.getD j 0).toNat = true) : spanB q l = l.length := by
  refine spanB_all q l fun b hb => ?_
  obtain ⟨j, hj, rfl⟩ := List.mem_iff_getElem.1 hb
  have := h j hj
  rw [List.getD_eq_getElem?_getD, List.getElem?_eq_getElem hj] at this
  exact this
theorem span_not_of (q : Nat → Bool) (l : Bytes) (j : Nat) (hj : j < l.length) (h : q (l.getD j 0).toNat = false) : spanB q l ≠ l.length := by
  intro e
  have := spanB_mem q l j (by omega)
  rw [h] at this
  cases this

set_option maxRecDepth 100000 in
set_option maxHeartbeats 4000000 in
theorem rName_any (s : ByteArray) (w : World) :
    Calls Tryz.prog 78 #[.string s] w fun e w' => e = .returned (.bool (nameB s.data.toList)) ∧ Below w.heap.size w w' := by
  obtain ⟨R, hR⟩ : ∃ R, R = nameB s.data.toList := ⟨_, rfl⟩
  rw [← hR]
  have HR : Hid (R = nameB s.data.toList) := hR
  clear hR
  have hb1 := below1 w (.cells cells23 9)
  have HC : Hid (∀ (j : Nat) (h : j < words23.length), (w.alloc (.cells cells23 9)).cell? ⟨w.heap.size, j, none⟩ = some (.string ⟨words23[j].toArray⟩)) := fun j h => cell_mid _ _ _ _ _ _ rfl (words23_cell j h)
  have hl23 : words23.length = 23 := rfl
  have HB : Hid (∀ k, (h : k < s.size) → s[k]'h = s.data.toList.getD k 0) := fun k h => (getD_byte s k h).symm
  have HLs : Hid (s.data.toList.length = s.size) := by show _ = _; simp
  go_enter Tryz.func78, Tryz.ntmps78
  go_wp2_with fail
  go_loopg [4] 23 (fun gk i wr => ∃ j : Nat, gk + j = 23 ∧ i = .int .i64 j ∧ wr = w.alloc (.cells cells23 9) ∧ Hid (∀ (m : Nat) (hm : m < words23.length), m < j → words23[m] ≠ s.data.toList))
  case atStart => exact ⟨0, rfl, rfl, rfl, fun _ _ h => by omega⟩
  case round =>
    obtain ⟨j, hj, rfl, rfl, hno⟩ := hrel
    by_cases hlt : j < 23
    · have hlt' : j < words23.length := hlt
      have hx := HC.out j hlt'
      have HE : Hid (∀ y : ByteArray, y = ⟨words23[j].toArray⟩ → (y.toList == s.toList) = (words23[j] == s.data.toList)) := fun y hy => by
        subst hy; rw [ByteArray.toList_eq, ByteArray.toList_eq]
      obtain ⟨y, hy⟩ : ∃ y : ByteArray, y = ⟨words23[j].toArray⟩ := ⟨_, rfl⟩
      rw [← hy] at hx
      have he := HE.out y hy
      clear HE hy
      cases hb : words23[j] == s.data.toList with
      | true =>
        have HF : Hid (R = false) := HR.out.trans (name_23 _ (by rw [← eq_of_beq hb]; exact List.getElem_mem hlt'))
        rw [hb] at he
        clear hb hno
        go_wp2_with fail
        go_ret
        exact ⟨congrArg (fun b => Ending.returned (.bool b)) HF.out.symm, hb1⟩
      | false =>
        have HN : Hid (∀ (m : Nat) (hm : m < words23.length), m < j + 1 → words23[m] ≠ s.data.toList) := fun m hm h => by
          rcases Nat.lt_or_ge m j with h1 | h1
          · exact hno.out m hm h1
          · obtain rfl : m = j := by omega
            exact ne_of_beq_false hb
        rw [hb] at he
        have HJ : Hid (gk + j = 23) := hj
        clear hb hno hj
        go_wp2_with fail
        go_roundg (23 - (j + 1))
        case measure => have := HJ.out; omega
        case rel => exact ⟨j + 1, by omega, by go_num, rfl, HN.out⟩
    · have HN : Hid (R = (decide (s.data.toList ≠ []) && decide (s.data.toList.length ≤ 40) && letterN (s.data.toList.getD 0 0).toNat && decide (spanB partN s.data.toList = s.data.toList.length))) := HR.out.trans (name_not23 _ (fun m hm => hno.out m hm (by rw [hl23] at hm; omega)))
      clear hno hj HR HC
      by_cases h0 : s.size = 0
      · obtain rfl := empty_toList s h0
        have HF : Hid (R = false) := HN.out
        clear HN
        go_wp2_with fail
        go_ret
        exact ⟨congrArg (fun b => Ending.returned (.bool b)) HF.out.symm, hb1⟩
      have hp : 0 < s.size := by omega
      have hne : s.toList.isEmpty = false := by rw [ByteArray.toList_eq]; cases h : s.data.toList with | nil => exact absurd (by rw [Lib.size_eq, h]; rfl) h0 | cons b r => rfl
      have hnl : s.data.toList ≠ [] := fun h => h0 (by rw [Lib.size_eq, h]; rfl)
      have hne2 : (s.toList == []) = false := list_empty' hnl
      have HD : Hid (s.data.toList ≠ []) := hnl
      clear hnl
      by_cases h40 : 40 < s.size
      · have HF : Hid (R = false) := HN.out.trans (by rw [HLs.out, decide_eq_false (show ¬ s.size ≤ 40 by omega)]; simp)
        clear HN
        go_wp2_with fail
        go_ret
        exact ⟨congrArg (fun b => Ending.returned (.bool b)) HF.out.symm, hb1⟩
      have hix : (0 : Int) < (s.size : Int) := by omega
      cases hlt0 : letterN (s[0]'hp).toNat with
      | false =>
        have HF : Hid (R = false) := HN.out.trans (by rw [← HB.out 0 hp, hlt0]; simp)
        clear HN
        go_wp2_with (go_at_call 112; refine (rLetter_any _ _).mono ?_; rintro r w1 ⟨rfl, rfl⟩)
        go_ret
        exact ⟨congrArg (fun b => Ending.returned (.bool b)) HF.out.symm, hb1⟩
      | true =>
        have HS : Hid (R = decide (spanB partN s.data.toList = s.data.toList.length)) := HN.out.trans (by rw [HLs.out, decide_eq_true HD.out, decide_eq_true (show s.size ≤ 40 by omega), ← HB.out 0 hp, hlt0]; simp)
        clear HN
        go_wp2_with (go_at_call 112; refine (rLetter_any _ _).mono ?_; rintro r w1 ⟨rfl, rfl⟩)
        clear hlt0
        go_loopg [5] s.size (fun gk i wr => ∃ k : Nat, gk + k = s.size ∧ i = .int .i64 k ∧ wr = w.alloc (.cells cells23 9) ∧ Hid (∀ j, j < k → partN (s.data.toList.getD j 0).toNat = true))
        case atStart => exact ⟨0, rfl, rfl, rfl, fun j hj => by omega⟩
        case round =>
          obtain ⟨k, hk, rfl, rfl, HA⟩ := hrel
          by_cases hltk : k < s.size
          · have HK : Hid (s[k]'hltk = s.data.toList.getD k 0) := HB.out k hltk
            have HJ : Hid (gk + k = s.size) := hk
            clear hk
            cases hpk : partN (s[k]'hltk).toNat with
            | true =>
              have HA2 : Hid (∀ j, j < k + 1 → partN (s.data.toList.getD j 0).toNat = true) := fun j hj => by
                rcases Nat.lt_or_ge j k with h | h
                · exact HA.out j h
                · obtain rfl : j = k := by omega
                  rw [← HK.out]; exact hpk
              clear HA
              cases hl1 : letterN (s[k]'hltk).toNat with
              | true =>
                clear hpk
                go_wp2_with (first | (go_at_call 112; refine (rLetter_any _ _).mono ?_; rintro r w1 ⟨rfl, rfl⟩) | (go_at_call 113; refine (rDigit_any _ _).mono ?_; rintro r w1 ⟨rfl, rfl⟩))
                go_roundg (s.size - (k + 1))
                case measure => have := HJ.out; omega
                case rel => exact ⟨k + 1, by omega, by go_num, rfl, HA2.out⟩
              | false =>
                have hd1 : digitN (s[k]'hltk).toNat = true := by unfold partN at hpk; rw [hl1, Bool.false_or] at hpk; exact hpk
                clear hpk
                go_wp2_with (first | (go_at_call 112; refine (rLetter_any _ _).mono ?_; rintro r w1 ⟨rfl, rfl⟩) | (go_at_call 113; refine (rDigit_any _ _).mono ?_; rintro r w1 ⟨rfl, rfl⟩))
                go_roundg (s.size - (k + 1))
                case measure => have := HJ.out; omega
                case rel => exact ⟨k + 1, by omega, by go_num, rfl, HA2.out⟩
            | false =>
              have hl1 : letterN (s[k]'hltk).toNat = false := by unfold partN at hpk; simp only [Bool.or_eq_false_iff] at hpk; exact hpk.1
              have hd1 : digitN (s[k]'hltk).toNat = false := by unfold partN at hpk; simp only [Bool.or_eq_false_iff] at hpk; exact hpk.2
              have HF : Hid (R = false) := HS.out.trans (decide_eq_false (span_not_of partN _ k (by rw [HLs.out]; exact hltk) (by rw [← HK.out]; exact hpk)))
              clear hpk HA
              go_wp2_with (first | (go_at_call 112; refine (rLetter_any _ _).mono ?_; rintro r w1 ⟨rfl, rfl⟩) | (go_at_call 113; refine (rDigit_any _ _).mono ?_; rintro r w1 ⟨rfl, rfl⟩))
              go_ret
              exact ⟨congrArg (fun b => Ending.returned (.bool b)) HF.out.symm, hb1⟩
          · have HF : Hid (R = true) := HS.out.trans (decide_eq_true (span_all_of partN _ (fun j hj => HA.out j (by rw [HLs.out] at hj; omega))))
            clear hk HA
            go_wp2_with fail
            go_ret
            exact ⟨congrArg (fun b => Ending.returned (.bool b)) HF.out.symm, hb1⟩
end Go.Proofs.YthbnegggohegkaaGreatDoor
namespace Go.Proofs.YthbnegggohegkaaGreatDoor
open Go.RowKit

/-- An int's digits. -/
def wholeB (l : Bytes) : Bool := decide (l ≠ []) && intOk l && !(decide (1 < l.length) && l[0]? == some 48) && decide (spanB digitN l = l.length)
/-- A float's digits. -/
def pointedB (l : Bytes) : Bool := decide (0 < spanB digitN l) && decide (0 < partLen (l.drop (spanB digitN l))) && decide (spanB digitN l + 1 + partLen (l.drop (spanB digitN l)) = l.length) && decide (spanB digitN l + partLen (l.drop (spanB digitN l)) ≤ 15) && !(decide (1 < spanB digitN l) && l[0]? == some 48)

theorem byte_beq (b : UInt8) (n : Nat) (hn : n < 256) : ((b.toNat : Int) == (n : Int)) = (b == UInt8.ofNat n) := by
  cases h : b == UInt8.ofNat n with
  | true => rw [eq_of_beq h]; simp [Nat.mod_eq_of_lt hn]
  | false =>
    have h1 := ne_of_beq_false h
    have h2 : b.toNat ≠ n := fun e => h1 (by rw [← e]; simp)
    simp; omega
theorem get0 {s : ByteArray} (hp : 0 < s.size) : s.data.toList[0]? = some (s[0]'hp) := by
  have := getD_byte s 0 hp
  have hl : 0 < s.data.toList.length := by simpa using hp
  rw [List.getElem?_eq_getElem hl]
  rw [List.getD_eq_getElem?_getD, List.getElem?_eq_getElem hl] at this
  exact congrArg some this

set_option maxRecDepth 100000 in
set_option maxHeartbeats 4000000 in
theorem whole_any (s : ByteArray) (w : World) : Calls Tryz.prog 81 #[.string s] w fun e w' => e = .returned (.bool (wholeB s.data.toList)) ∧ w' = w := by
  by_cases h0 : s.size = 0
  · obtain rfl := empty_toList s h0
    go_enter Tryz.func81, Tryz.ntmps81
    go_wp2
    go_ret
    exact ⟨rfl, rfl⟩
  have hp : 0 < s.size := by omega
  have hnl : s.data.toList ≠ [] := fun h => h0 (by rw [Lib.size_eq, h]; rfl)
  have hne2 : (s.toList == []) = false := list_empty' hnl
  have HLs : Hid (s.data.toList.length = s.size) := by show _ = _; simp
  have HB : Hid (∀ k, (h : k < s.size) → s[k]'h = s.data.toList.getD k 0) := fun k h => (getD_byte s k h).symm
  obtain ⟨R, hR⟩ : ∃ R, R = wholeB s.data.toList := ⟨_, rfl⟩
  rw [← hR]
  have HR : Hid (R = (intOk s.data.toList && !(decide (1 < s.size) && (s[0]'hp == 48)) && decide (spanB digitN s.data.toList = s.size))) := hR.trans (by
    unfold wholeB; rw [decide_eq_true hnl, HLs.out, get0 hp]; simp)
  clear hR hnl
  by_cases h19 : 19 < s.size
  · have HF : Hid (R = false) := HR.out.trans (by unfold intOk; rw [HLs.out, if_neg (by omega), decide_eq_false (by omega)]; rfl)
    clear HR
    go_enter Tryz.func81, Tryz.ntmps81
    go_wp2
    go_ret
    exact ⟨congrArg (fun b => Ending.returned (.bool b)) HF.out.symm, rfl⟩
  have hb48 := byte_beq (s[0]'hp) 48 (by omega)
  have hix : (0 : Int) < (s.size : Int) := by omega
  have Hrest : Hid ((decide (1 < s.size) && (s[0]'hp == 48)) = false → R = (intOk s.data.toList && decide (spanB digitN s.data.toList = s.size))) := fun h => HR.out.trans (by rw [h]; simp)
  by_cases hz : 1 < s.size ∧ (s[0]'hp == 48) = true
  · have HF : Hid (R = false) := HR.out.trans (by rw [decide_eq_true hz.1, hz.2]; simp)
    obtain ⟨hz1, hz2⟩ := hz
    have hz3 : (((s[0]'hp).toNat : Int) == 48) = true := hb48.trans hz2
    clear HR Hrest hb48 hz2
    go_enter Tryz.func81, Tryz.ntmps81
    go_wp2
    go_ret
    exact ⟨congrArg (fun b => Ending.returned (.bool b)) HF.out.symm, rfl⟩
  have HS : Hid (R = (intOk s.data.toList && decide (spanB digitN s.data.toList = s.size))) := Hrest.out (by
    by_cases h1 : 1 < s.size
    · have : (s[0]'hp == 48) = false := by cases h : s[0]'hp == 48 with | false => rfl | true => exact absurd ⟨h1, h⟩ hz
      rw [this]; simp
    · rw [decide_eq_false h1]; rfl)
  have hz3 : (1 : Int) < s.size → (((s[0]'hp).toNat : Int) == 48) = false := fun h => by
    rw [show ((48 : Int)) = ((48 : Nat) : Int) from rfl, hb48]
    cases h2 : s[0]'hp == UInt8.ofNat 48 with | false => rfl | true => exact absurd ⟨by omega, h2⟩ hz
  have HZ3 : Hid _ := hz3
  clear HR Hrest hb48 hz hz3
  have Hloop : Hid (∀ k, k ≤ s.size → (∀ j, j < k → digitN (s.data.toList.getD j 0).toNat = true) → (k = s.size → R = intOk s.data.toList) ∧ (∀ h : k < s.size, digitN (s[k]'h).toNat = false → R = false)) := fun k hk hall => by
    refine ⟨fun e => ?_, fun h hd => ?_⟩
    · rw [HS.out, decide_eq_true (by rw [← HLs.out]; exact span_all_of digitN _ (fun j hj => hall j (by rw [HLs.out] at hj; omega)))]; simp
    · rw [HS.out, decide_eq_false (by rw [← HLs.out]; exact span_not_of digitN _ k (by rw [HLs.out]; exact h) (by rw [← HB.out k h]; exact hd))]; simp
  have HI : Hid (intOk s.data.toList = if s.size = 19 then Op.bytesLess s.toList greatest || s.toList == greatest else true) := by
    show _ = _
    unfold intOk
    rw [HLs.out, ByteArray.toList_eq]
    by_cases h : s.size = 19
    · rw [if_pos h, if_pos h]
    · rw [if_neg h, if_neg h, decide_eq_true (by omega)]
  by_cases h1 : 1 < s.size
  case neg =>
    have h1' : ¬ (1 : Int) < s.size := by omega
    go_enter Tryz.func81, Tryz.ntmps81
    go_wp2_with fail
    go_loopg [3] s.size (fun gk i wr => ∃ k : Nat, gk + k = s.size ∧ i = .int .i64 k ∧ wr = w ∧ Hid (∀ j, j < k → digitN (s.data.toList.getD j 0).toNat = true))
    case atStart => exact ⟨0, rfl, rfl, rfl, fun j hj => by omega⟩
    case round =>
      obtain ⟨k, hk, rfl, rfl, HA⟩ := hrel
      by_cases hltk : k < s.size
      · cases hd : digitN (s[k]'hltk).toNat with
        | true =>
          have HA2 : Hid (∀ j, j < k + 1 → digitN (s.data.toList.getD j 0).toNat = true) := fun j hj => by
            rcases Nat.lt_or_ge j k with h | h
            · exact HA.out j h
            · obtain rfl : j = k := by omega
              rw [← HB.out _ hltk]; exact hd
          have HJ : Hid (gk + k = s.size) := hk
          clear hk HA
          go_wp2_with (go_at_call 113; refine (rDigit_any _ _).mono ?_; rintro r w1 ⟨rfl, rfl⟩)
          go_roundg (s.size - (k + 1))
          case measure => have := HJ.out; omega
          case rel => exact ⟨k + 1, by omega, by go_num, rfl, HA2.out⟩
        | false =>
          have HF : Hid (R = false) := (Hloop.out k (by omega) HA.out).2 hltk hd
          clear hk HA
          go_wp2_with (go_at_call 113; refine (rDigit_any _ _).mono ?_; rintro r w1 ⟨rfl, rfl⟩)
          go_ret
          exact ⟨congrArg (fun b => Ending.returned (.bool b)) HF.out.symm, rfl⟩
      · have HF : Hid (R = intOk s.data.toList) := (Hloop.out k (by omega) HA.out).1 (by omega)
        clear hk HA
        have HG : Hid (R = true) := HF.out.trans (HI.out.trans (if_neg (by omega)))
        have hlt19 : (s.size : Int) < 19 := by omega
        go_wp2_with fail
        go_ret
        exact ⟨congrArg (fun b => Ending.returned (.bool b)) HG.out.symm, rfl⟩
  have hz3 := HZ3.out (by omega)
  go_enter Tryz.func81, Tryz.ntmps81
  go_wp2_with fail
  go_loopg [3] s.size (fun gk i wr => ∃ k : Nat, gk + k = s.size ∧ i = .int .i64 k ∧ wr = w ∧ Hid (∀ j, j < k → digitN (s.data.toList.getD j 0).toNat = true))
  case atStart => exact ⟨0, rfl, rfl, rfl, fun j hj => by omega⟩
  case round =>
    obtain ⟨k, hk, rfl, rfl, HA⟩ := hrel
    by_cases hltk : k < s.size
    · cases hd : digitN (s[k]'hltk).toNat with
      | true =>
        have HA2 : Hid (∀ j, j < k + 1 → digitN (s.data.toList.getD j 0).toNat = true) := fun j hj => by
          rcases Nat.lt_or_ge j k with h | h
          · exact HA.out j h
          · obtain rfl : j = k := by omega
            rw [← HB.out _ hltk]; exact hd
        have HJ : Hid (gk + k = s.size) := hk
        clear hk HA
        go_wp2_with (go_at_call 113; refine (rDigit_any _ _).mono ?_; rintro r w1 ⟨rfl, rfl⟩)
        go_roundg (s.size - (k + 1))
        case measure => have := HJ.out; omega
        case rel => exact ⟨k + 1, by omega, by go_num, rfl, HA2.out⟩
      | false =>
        have HF : Hid (R = false) := (Hloop.out k (by omega) HA.out).2 hltk hd
        clear hk HA
        go_wp2_with (go_at_call 113; refine (rDigit_any _ _).mono ?_; rintro r w1 ⟨rfl, rfl⟩)
        go_ret
        exact ⟨congrArg (fun b => Ending.returned (.bool b)) HF.out.symm, rfl⟩
    · have HF : Hid (R = intOk s.data.toList) := (Hloop.out k (by omega) HA.out).1 (by omega)
      clear hk HA
      by_cases h19' : s.size = 19
      · have HG : Hid (R = (Op.bytesLess s.toList greatest || s.toList == greatest)) := HF.out.trans (HI.out.trans (if_pos h19'))
        have hlt19 : ¬ (s.size : Int) < 19 := by omega
        clear h19'
        go_wp2_with fail
        go_ret
        exact ⟨congrArg (fun b => Ending.returned (.bool b)) HG.out.symm, rfl⟩
      · have HG : Hid (R = true) := HF.out.trans (HI.out.trans (if_neg h19'))
        have hlt19 : (s.size : Int) < 19 := by omega
        clear h19'
        go_wp2_with fail
        go_ret
        exact ⟨congrArg (fun b => Ending.returned (.bool b)) HG.out.symm, rfl⟩

end Go.Proofs.YthbnegggohegkaaGreatDoor
namespace Go.Proofs.YthbnegggohegkaaGreatDoor
open Go.RowKit

theorem span_eq (q : Nat → Bool) (l : Bytes) (k : Nat) (hk : k < l.length) (hall : ∀ j, j < k → q (l.getD j 0).toNat = true) (hn : q (l.getD k 0).toNat = false) : spanB q l = k := by
  rcases Nat.lt_trichotomy (spanB q l) k with h | h | h
  · have h1 := spanB_next q l (by omega)
    have h2 := hall _ h
    rw [h1] at h2; cases h2
  · exact h
  · have h1 := spanB_mem q l k h
    rw [hn] at h1; cases h1
theorem head_drop (l : Bytes) (p : Nat) (hp : p < l.length) : (l.drop p).head? = some (l.getD p 0) := by
  rw [List.head?_drop, List.getD_eq_getElem?_getD, List.getElem?_eq_getElem hp]; rfl
theorem dot_not_digit : digitN (46 : UInt8).toNat = false := rfl

theorem pointed_nodot (l : Bytes) (h : ∀ j, j < l.length → digitN (l.getD j 0).toNat = true) : pointedB l = false := by
  have e : spanB digitN l = l.length := span_all_of digitN l h
  unfold pointedB
  rw [e, List.drop_length]
  have : partLen [] = 0 := rfl
  rw [this]; simp
theorem pointed_badA (l : Bytes) (k : Nat) (hk : k < l.length) (hall : ∀ j, j < k → digitN (l.getD j 0).toNat = true) (hn : digitN (l.getD k 0).toNat = false) (h46 : l.getD k 0 ≠ 46) : pointedB l = false := by
  have e := span_eq digitN l k hk hall hn
  unfold pointedB
  rw [e, partLen_not (l.drop k) (by rw [head_drop l k hk]; intro h; exact h46 (Option.some.inj h))]; simp
theorem pointed_dot (l : Bytes) (p : Nat) (hp : p < l.length) (hall : ∀ j, j < p → digitN (l.getD j 0).toNat = true) (h46 : l.getD p 0 = 46) : spanB digitN l = p ∧ partLen (l.drop p) = spanB digitN (l.drop (p + 1)) := by
  refine ⟨span_eq digitN l p hp hall (by rw [h46]; rfl), ?_⟩
  rw [partLen_dot (l.drop p) (by rw [head_drop l p hp, h46]), List.drop_drop]
theorem pointed_badB (l : Bytes) (p k : Nat) (hpk : p < k) (hk : k < l.length) (hall : ∀ j, j < k → j ≠ p → digitN (l.getD j 0).toNat = true) (h46 : l.getD p 0 = 46) (hn : digitN (l.getD k 0).toNat = false) : pointedB l = false := by
  obtain ⟨e1, e2⟩ := pointed_dot l p (by omega) (fun j hj => hall j (by omega) (by omega)) h46
  have e3 : spanB digitN (l.drop (p + 1)) = k - p - 1 := by
    refine span_eq digitN _ (k - p - 1) (by rw [List.length_drop]; omega) (fun j hj => ?_) ?_
    · rw [getD_drop]; exact hall _ (by omega) (by omega)
    · rw [getD_drop, show p + 1 + (k - p - 1) = k by omega]; exact hn
  unfold pointedB
  rw [e1, e2, e3, decide_eq_false (show ¬ p + 1 + (k - p - 1) = l.length by omega)]; simp
theorem pointed_end (l : Bytes) (p : Nat) (hp : p < l.length) (hall : ∀ j, j < l.length → j ≠ p → digitN (l.getD j 0).toNat = true) (h46 : l.getD p 0 = 46) : pointedB l = (decide (0 < p) && decide (p + 1 < l.length) && decide (l.length ≤ 16) && !(decide (1 < p) && l[0]? == some 48)) := by
  obtain ⟨e1, e2⟩ := pointed_dot l p (by omega) (fun j hj => hall j (by omega) (by omega)) h46
  have e3 : spanB digitN (l.drop (p + 1)) = l.length - p - 1 := by
    rw [span_all_of digitN _ (fun j hj => by rw [List.length_drop] at hj; rw [getD_drop]; exact hall _ (by omega) (by omega)), List.length_drop]; omega
  unfold pointedB
  rw [e1, e2, e3, decide_eq_true (show p + 1 + (l.length - p - 1) = l.length by omega), Bool.and_true]
  have q1 : decide (0 < l.length - p - 1) = decide (p + 1 < l.length) := by
    by_cases h : p + 1 < l.length
    · rw [decide_eq_true h, decide_eq_true (by omega)]
    · rw [decide_eq_false h, decide_eq_false (by omega)]
  have q2 : decide (p + (l.length - p - 1) ≤ 15) = decide (l.length ≤ 16) := by
    by_cases h : l.length ≤ 16
    · rw [decide_eq_true h, decide_eq_true (by omega)]
    · rw [decide_eq_false h, decide_eq_false (by omega)]
  rw [q1, q2]

set_option maxRecDepth 100000 in
set_option maxHeartbeats 4000000 in
theorem pointed_any (s : ByteArray) (w : World) (hbig : s.size ≤ 9223372036854775807) : Calls Tryz.prog 82 #[.string s] w fun e w' => e = .returned (.bool (pointedB s.data.toList)) ∧ w' = w := by
  have HLs : Hid (s.data.toList.length = s.size) := by show _ = _; simp
  have HB : Hid (∀ k, (h : k < s.size) → s[k]'h = s.data.toList.getD k 0) := fun k h => (getD_byte s k h).symm
  obtain ⟨R, hR⟩ : ∃ R, R = pointedB s.data.toList := ⟨_, rfl⟩
  rw [← hR]
  have HR : Hid (R = pointedB s.data.toList) := hR
  clear hR
  go_enter Tryz.func82, Tryz.ntmps82
  go_wp2_with fail
  go_loopg [3, 4] s.size (fun gk t i wr => ∃ k : Nat, gk + k = s.size ∧ i = .int .i64 k ∧ wr = w ∧ ((t = .int .i64 (-1) ∧ Hid (∀ j, j < k → digitN (s.data.toList.getD j 0).toNat = true)) ∨ ∃ p : Nat, p < k ∧ t = .int .i64 p ∧ Hid (s.data.toList.getD p 0 = 46 ∧ ∀ j, j < k → j ≠ p → digitN (s.data.toList.getD j 0).toNat = true)))
  case atStart => exact ⟨0, rfl, rfl, rfl, .inl ⟨rfl, fun j hj => by omega⟩⟩
  case round =>
    obtain ⟨k, hk, rfl, rfl, hst⟩ := hrel
    have HJ : Hid (gk + k = s.size) := hk
    by_cases hltk : k < s.size
    · have hb46 := byte_beq (s[k]'hltk) 46 (by omega)
      have hbk := HB.out k hltk
      have HK : Hid (s[k]'hltk = s.data.toList.getD k 0) := hbk
      clear hbk hk
      cases hd : digitN (s[k]'hltk).toNat with
      | true =>
        have h46 : (((s[k]'hltk).toNat : Int) == 46) = false := by
          rw [show ((46 : Int)) = ((46 : Nat) : Int) from rfl, hb46]
          cases h : s[k]'hltk == UInt8.ofNat 46 with
          | false => rfl
          | true => rw [eq_of_beq h] at hd; cases hd
        clear hb46
        have HD : Hid (digitN (s.data.toList.getD k 0).toNat = true) := by show _ = _; rw [← HK.out]; exact hd
        rcases hst with ⟨rfl, HA⟩ | ⟨p, hpk, rfl, HA⟩
        · have HA2 : Hid (∀ j, j < k + 1 → digitN (s.data.toList.getD j 0).toNat = true) := fun j hj => by
            rcases Nat.lt_or_ge j k with h | h
            · exact HA.out j h
            · obtain rfl : j = k := by omega
              exact HD.out
          clear HA
          go_wp2_with (go_at_call 113; refine (rDigit_any _ _).mono ?_; rintro r w1 ⟨rfl, rfl⟩)
          go_roundg (s.size - (k + 1))
          case measure => have := HJ.out; omega
          case rel => exact ⟨k + 1, by omega, by go_num, rfl, .inl ⟨rfl, HA2.out⟩⟩
        · have HA2 : Hid (s.data.toList.getD p 0 = 46 ∧ ∀ j, j < k + 1 → j ≠ p → digitN (s.data.toList.getD j 0).toNat = true) := ⟨HA.out.1, fun j hj hjp => by
            rcases Nat.lt_or_ge j k with h | h
            · exact HA.out.2 j h hjp
            · obtain rfl : j = k := by omega
              exact HD.out⟩
          have hp0 : ¬ ((p : Nat) : Int) < 0 := by omega
          clear HA
          go_wp2_with (go_at_call 113; refine (rDigit_any _ _).mono ?_; rintro r w1 ⟨rfl, rfl⟩)
          go_roundg (s.size - (k + 1))
          case measure => have := HJ.out; omega
          case rel => exact ⟨k + 1, by omega, by go_num, rfl, .inr ⟨p, by omega, rfl, HA2.out⟩⟩
      | false =>
        have HD : Hid (digitN (s.data.toList.getD k 0).toNat = false) := by show _ = _; rw [← HK.out]; exact hd
        rcases hst with ⟨rfl, HA⟩ | ⟨p, hpk, rfl, HA⟩
        · cases h46' : s[k]'hltk == UInt8.ofNat 46 with
          | true =>
            have h46 : (((s[k]'hltk).toNat : Int) == 46) = true := by rw [show ((46 : Int)) = ((46 : Nat) : Int) from rfl, hb46]; exact h46'
            have HA2 : Hid (s.data.toList.getD k 0 = 46 ∧ ∀ j, j < k + 1 → j ≠ k → digitN (s.data.toList.getD j 0).toNat = true) := ⟨by rw [← HK.out, eq_of_beq h46']; rfl, fun j hj hjp => HA.out j (by omega)⟩
            clear HA hb46 h46'
            go_wp2_with fail
            go_roundg (s.size - (k + 1))
            case measure => have := HJ.out; omega
            case rel => exact ⟨k + 1, by omega, by go_num, rfl, .inr ⟨k, by omega, rfl, HA2.out⟩⟩
          | false =>
            have h46 : (((s[k]'hltk).toNat : Int) == 46) = false := by rw [show ((46 : Int)) = ((46 : Nat) : Int) from rfl, hb46]; exact h46'
            have HF : Hid (R = false) := HR.out.trans (pointed_badA _ k (by rw [HLs.out]; exact hltk) HA.out HD.out (by rw [← HK.out]; exact ne_of_beq_false h46'))
            clear HA hb46 h46'
            go_wp2_with (go_at_call 113; refine (rDigit_any _ _).mono ?_; rintro r w1 ⟨rfl, rfl⟩)
            go_ret
            exact ⟨congrArg (fun b => Ending.returned (.bool b)) HF.out.symm, rfl⟩
        · have HF : Hid (R = false) := HR.out.trans (pointed_badB _ p k hpk (by rw [HLs.out]; exact hltk) HA.out.2 HA.out.1 HD.out)
          have hp0 : ¬ ((p : Nat) : Int) < 0 := by omega
          clear HA
          cases h46' : s[k]'hltk == UInt8.ofNat 46 with
          | true =>
            have h46 : (((s[k]'hltk).toNat : Int) == 46) = true := by rw [show ((46 : Int)) = ((46 : Nat) : Int) from rfl, hb46]; exact h46'
            clear hb46 h46'
            go_wp2_with (go_at_call 113; refine (rDigit_any _ _).mono ?_; rintro r w1 ⟨rfl, rfl⟩)
            go_ret
            exact ⟨congrArg (fun b => Ending.returned (.bool b)) HF.out.symm, rfl⟩
          | false =>
            have h46 : (((s[k]'hltk).toNat : Int) == 46) = false := by rw [show ((46 : Int)) = ((46 : Nat) : Int) from rfl, hb46]; exact h46'
            clear hb46 h46'
            go_wp2_with (go_at_call 113; refine (rDigit_any _ _).mono ?_; rintro r w1 ⟨rfl, rfl⟩)
            go_ret
            exact ⟨congrArg (fun b => Ending.returned (.bool b)) HF.out.symm, rfl⟩
    · have hke : k = s.size := by omega
      clear hk
      rcases hst with ⟨rfl, HA⟩ | ⟨p, hpk, rfl, HA⟩
      · have HF : Hid (R = false) := HR.out.trans (pointed_nodot _ (fun j hj => HA.out j (by rw [HLs.out] at hj; omega)))
        clear HA hke
        go_wp2_with fail
        go_ret
        exact ⟨congrArg (fun b => Ending.returned (.bool b)) HF.out.symm, rfl⟩
      · have hps : 0 < s.size := by omega
        have HE : Hid (R = (decide (0 < p) && decide (p + 1 < s.size) && decide (s.size ≤ 16) && !(decide (1 < p) && (s[0]'hps == 48)))) := HR.out.trans (by
          rw [pointed_end _ p (by rw [HLs.out]; omega) (fun j hj hjp => HA.out.2 j (by rw [HLs.out] at hj; omega) hjp) HA.out.1, HLs.out, get0 hps]; simp)
        have hb48 := byte_beq (s[0]'hps) 48 (by omega)
        clear HA hke
        by_cases hp0 : 0 < p
        case neg =>
          have HF : Hid (R = false) := HE.out.trans (by rw [decide_eq_false hp0]; rfl)
          have hp0' : ¬ (0 : Int) < ((p : Nat) : Int) := by omega
          clear hb48
          go_wp2_with fail
          go_ret
          exact ⟨congrArg (fun b => Ending.returned (.bool b)) HF.out.symm, rfl⟩
        have hp0' : (0 : Int) < ((p : Nat) : Int) := by omega
        by_cases hp1 : p + 1 < s.size
        case neg =>
          have HF : Hid (R = false) := HE.out.trans (by rw [decide_eq_false hp1]; simp)
          have hp1' : ¬ ((p : Nat) : Int) < (s.size : Int) - 1 := by omega
          clear hb48
          go_wp2_with fail
          go_ret
          exact ⟨congrArg (fun b => Ending.returned (.bool b)) HF.out.symm, rfl⟩
        have hp1' : ((p : Nat) : Int) < (s.size : Int) - 1 := by omega
        by_cases h16 : s.size ≤ 16
        case neg =>
          have HF : Hid (R = false) := HE.out.trans (by rw [decide_eq_false h16]; simp)
          have h16' : ¬ (s.size : Int) - 1 ≤ 15 := by omega
          clear hb48
          go_wp2_with fail
          go_ret
          exact ⟨congrArg (fun b => Ending.returned (.bool b)) HF.out.symm, rfl⟩
        have h16' : (s.size : Int) - 1 ≤ 15 := by omega
        by_cases hp2 : 1 < p
        case neg =>
          have HF : Hid (R = true) := HE.out.trans (by rw [decide_eq_true hp0, decide_eq_true hp1, decide_eq_true h16, decide_eq_false hp2]; rfl)
          have hp2' : (((p : Nat) : Int) == 1) = true := by simp; omega
          clear hb48
          go_wp2_with fail
          go_ret
          exact ⟨congrArg (fun b => Ending.returned (.bool b)) HF.out.symm, rfl⟩
        have hp2' : (((p : Nat) : Int) == 1) = false := by simp; omega
        have hix : (0 : Int) < (s.size : Int) := by omega
        have HF : Hid (R = (((s[0]'hps).toNat : Int) != 48)) := HE.out.trans (by rw [decide_eq_true hp0, decide_eq_true hp1, decide_eq_true h16, decide_eq_true hp2]; simp only [Bool.true_and, bne]; rw [show ((48 : Int)) = ((48 : Nat) : Int) from rfl, hb48]; rfl)
        clear hb48
        go_wp2_with fail
        go_ret
        exact ⟨congrArg (fun b => Ending.returned (.bool b)) HF.out.symm, rfl⟩
end Go.Proofs.YthbnegggohegkaaGreatDoor
namespace Go.Proofs.YthbnegggohegkaaGreatDoor
open Go.RowKit

theorem feed_more (ts : List Tok) (a : Nat) : ∃ m, feed ts a = ts ++ m := by
  unfold feed
  cases ts.getLast? with
  | none => exact ⟨[], by simp⟩
  | some t =>
    by_cases h : endsB t.1 t.2.1
    · exact ⟨[(1, [], a)], by simp [h]⟩
    · exact ⟨[], by simp [h]⟩
theorem feed_mem {ts : List Tok} {a : Nat} {x : Tok} (h : x ∈ feed ts a) : x ∈ ts ∨ x.1 = 1 := by
  unfold feed at h
  cases hl : ts.getLast? with
  | none => rw [hl] at h; exact .inl h
  | some t =>
    rw [hl] at h
    simp only at h
    split at h
    · rw [List.mem_append] at h
      rcases h with h | h
      · exact .inl h
      · rw [List.mem_singleton] at h; exact .inr (by rw [h])
    · exact .inl h
/-- Kinds of tokens, and how long a number is. -/
theorem tok_num {l : Bytes} {k kd n : Nat} {t : Bytes} (h : tokSpec l k (l.getD k 0).toNat = .ok (kd, t, n)) : (kd = 4 ∨ kd = 5) → digitN (l.getD k 0).toNat = true ∧ numSpec l k = .ok (kd, t, n) := by
  intro hk
  unfold tokSpec at h
  split at h
  · cases h; omega
  split at h
  · unfold textSpec at h
    split at h
    · cases h
    · cases h; omega
  split at h
  · unfold nameSpec at h
    simp only at h
    split at h
    · cases h
    · cases h
      split at hk <;> omega
  split at h
  · rename_i hd; exact ⟨hd, h⟩
  · unfold signSpec at h
    simp only at h
    split at h
    · cases h
    · cases h; omega
theorem num_len {l : Bytes} {k kd n : Nat} {t : Bytes} (h : numSpec l k = .ok (kd, t, n)) : t.length + k ≤ l.length ∨ t = [] := by
  unfold numSpec at h
  split at h
  · cases h
  · cases h
    rw [List.length_take, List.length_drop]
    by_cases hk : k ≤ l.length
    · left; omega
    · right; rw [List.drop_of_length_le (by omega)]; simp

theorem scan_more (l : Bytes) : ∀ (f k : Nat) (ts R : List Tok), scanGo l f k ts = .ok R → ∃ m, R = ts ++ m
  | 0, k, ts, R, h => by
    rw [scanGo] at h; cases h
    obtain ⟨m, e⟩ := feed_more ts l.length
    exact ⟨m, e⟩
  | f + 1, k, ts, R, h => by
    rw [scanGo] at h
    split at h
    · split at h
      · exact scan_more l f _ _ _ h
      split at h
      · obtain ⟨m, e⟩ := scan_more l f _ _ _ h
        obtain ⟨m', e'⟩ := feed_more ts k
        exact ⟨m' ++ m, by rw [e, e', List.append_assoc]⟩
      split at h
      · exact scan_more l f _ _ _ h
      split at h
      · cases h
      · obtain ⟨m, e⟩ := scan_more l f _ _ _ h
        exact ⟨_, by rw [e, List.append_assoc]⟩
    · cases h
      obtain ⟨m, e⟩ := feed_more ts l.length
      exact ⟨m, e⟩
theorem scan_short_num (l : Bytes) : ∀ (f k : Nat) (ts R : List Tok), scanGo l f k ts = .ok R → ∀ x ∈ R, (x.1 = 4 ∨ x.1 = 5) → x ∈ ts ∨ x.2.1.length + k ≤ l.length ∨ x.2.1 = []
  | 0, k, ts, R, h, x, hx, h4 => by
    rw [scanGo] at h; cases h
    rcases feed_mem hx with h | h
    · exact .inl h
    · omega
  | f + 1, k, ts, R, h, x, hx, h4 => by
    rw [scanGo] at h
    split at h
    · split at h
      · rcases scan_short_num l f _ _ _ h x hx h4 with h | h | h
        · exact .inl h
        · exact .inr (.inl (by omega))
        · exact .inr (.inr h)
      split at h
      · rcases scan_short_num l f _ _ _ h x hx h4 with h | h | h
        · rcases feed_mem h with h | h
          · exact .inl h
          · omega
        · exact .inr (.inl (by omega))
        · exact .inr (.inr h)
      split at h
      · rcases scan_short_num l f _ _ _ h x hx h4 with h | h | h
        · exact .inl h
        · exact .inr (.inl (by omega))
        · exact .inr (.inr h)
      split at h
      · cases h
      · rename_i _ kd t n ht
        rcases scan_short_num l f _ _ _ h x hx h4 with h | h | h
        · rw [List.mem_append, List.mem_singleton] at h
          rcases h with h | h
          · exact .inl h
          · rw [h] at h4 ⊢
            rcases num_len (tok_num ht h4).2 with h | h
            · exact .inr (.inl h)
            · exact .inr (.inr h)
        · have hf := tok_fwd l k kd n t (by assumption) ht
          exact .inr (.inl (by omega))
        · exact .inr (.inr h)
    · cases h
      rcases feed_mem hx with h | h
      · exact .inl h
      · omega

theorem tok_iff (l : Bytes) (kd : Nat) (hkd : kd = 4 ∨ kd = 5) : tokB l kd = true ↔ l ≠ [] ∧ digitN (l.getD 0 0).toNat = true ∧ l.length ≤ 60000 ∧ numSpec l 0 = .ok (kd, l, l.length) := by
  constructor
  · intro h
    unfold tokB at h
    cases hs : scanSpec l with
    | error e => rw [hs] at h; cases h
    | ok ts =>
      rw [hs] at h
      simp only [Bool.and_eq_true, beq_iff_eq] at h
      obtain ⟨⟨h2, h3⟩, h4⟩ := h
      unfold scanSpec at hs
      split at hs
      · cases hs
      rename_i hlen
      have hx : ts.getD 0 (0, [], 0) ∈ ts := by
        rw [List.getD_eq_getElem?_getD, List.getElem?_eq_getElem (by omega)]; exact List.getElem_mem _
      unfold scanAt at hs
      rw [scanGo] at hs
      have bad : ∀ f k, 1 ≤ k → 0 < l.length → scanGo l f k [] = .ok ts → False := fun f k hk hl hg => by
        rcases scan_short_num l f k [] ts hg _ hx (by rw [h3]; exact hkd) with h | h | h
        · cases h
        · rw [h4] at h; omega
        · rw [h4] at h; rw [h] at hl; simp at hl
      split at hs
      · rename_i hpos
        split at hs
        · exact (bad _ _ (by omega) hpos hs).elim
        split at hs
        · exact (bad _ _ (by omega) hpos hs).elim
        split at hs
        · rename_i hsl; exact (bad _ _ (by have := slash_fwd l 0 hsl; omega) hpos hs).elim
        split at hs
        · cases hs
        · rename_i _ kd1 t1 n1 ht
          obtain ⟨m, e⟩ := scan_more l _ _ _ _ hs
          have e0 : ts.getD 0 (0, [], 0) = (kd1, t1, 0) := by rw [e]; rfl
          rw [e0] at h3 h4
          simp only at h3 h4
          subst h3 h4
          obtain ⟨hd, hn⟩ := tok_num ht hkd
          have hf := tok_fwd _ 0 _ _ _ hpos ht
          refine ⟨fun h => by rw [h] at hpos; simp at hpos, hd, by omega, ?_⟩
          have hn' := hn
          unfold numSpec at hn
          split at hn
          · cases hn
          · have h1 := (Prod.mk.inj (Prod.mk.inj (Except.ok.inj hn)).2)
            have e1 : t1.length ≤ n1 := by
              have := congrArg List.length h1.1
              rw [List.length_take, List.length_drop] at this
              rw [← h1.2]; omega
            have e2 : n1 = t1.length := by omega
            rw [e2] at hn'
            exact hn'
      · cases hs
        rw [feed_nil] at h2; simp at h2
  · rintro ⟨hne, hd, hlen, hn⟩
    have hpos : 0 < l.length := by cases l with | nil => exact absurd rfl hne | cons _ _ => simp
    have hc : tokSpec l 0 (l.getD 0 0).toNat = .ok (kd, l, l.length) := by
      have hd' := hd
      unfold digitN at hd'
      simp only [Bool.and_eq_true, decide_eq_true_eq] at hd'
      have hl : letterN (l.getD 0 0).toNat = false := by
        unfold letterN
        simp only [Bool.or_eq_false_iff, Bool.and_eq_false_iff, decide_eq_false_iff_not, beq_eq_false_iff_ne]
        omega
      unfold tokSpec
      rw [if_neg (by omega), if_neg (by omega), hl, hd]
      simpa using hn
    have hd' := hd
    unfold digitN at hd'
    simp only [Bool.and_eq_true, decide_eq_true_eq] at hd'
    have hsl : ¬ [47, 47].isPrefixOf (l.drop 0) = true := fun h => by have := slash_byte l 0 h; omega
    have e : scanSpec l = .ok [(kd, l, 0), (1, [], l.length)] := by
      unfold scanSpec
      rw [if_neg (by omega), scan_tok l 0 kd l.length l [] hpos (by omega) (by omega) (Bool.eq_false_iff.2 hsl) hc, scan_end l l.length _ (by omega)]
      have : feed ([] ++ [(kd, l, 0)]) l.length = [] ++ [(kd, l, 0)] ++ [(1, [], l.length)] := by
        rw [feed_snoc, if_pos]
        unfold endsB
        rcases hkd with rfl | rfl <;> rfl
      rw [this]; rfl
    unfold tokB
    rw [e]
    simp

theorem span_first (q : Nat → Bool) (l : Bytes) (hl : 0 < l.length) : decide (0 < spanB q l) = q (l.getD 0 0).toNat := by
  cases l with
  | nil => simp at hl
  | cons b r =>
    rw [spanB_cons]
    show _ = q b.toNat
    cases h : q b.toNat <;> simp

theorem whole_tok (l : Bytes) : wholeB l = tokB l 4 := by
  rw [Bool.eq_iff_iff, tok_iff l 4 (.inl rfl)]
  unfold wholeB
  simp only [Bool.and_eq_true, decide_eq_true_eq, Bool.not_eq_true', Bool.and_eq_false_iff, decide_eq_false_iff_not]
  constructor
  · rintro ⟨⟨⟨h1, h2⟩, h3⟩, h4⟩
    have hpos : 0 < l.length := by cases l with | nil => exact absurd rfl h1 | cons _ _ => simp
    have he : numEnd l 0 = l.length := by rw [numEnd_eq l 0 l.length 0 (by rw [List.drop_zero, h4]) (show 0 = partLen (l.drop (0 + l.length)) by rw [Nat.zero_add, List.drop_length]; rfl), if_neg (by omega)]; omega
    refine ⟨h1, ?_, ?_, ?_⟩
    · rw [← span_first digitN l hpos, h4]; exact decide_eq_true hpos
    · unfold intOk at h2; split at h2
      · omega
      · have := of_decide_eq_true h2; omega
    · rw [num_ok l 0 l.length 0 0 l.length (by rw [List.drop_zero, h4]) (show 0 = partLen (l.drop (0 + l.length)) by rw [Nat.zero_add, List.drop_length]; rfl) he (by rw [List.drop_length]; rfl) rfl (by rw [if_neg (by omega), List.drop_zero, List.take_length]; exact h2) (by
        rintro ⟨h5, h6⟩
        rcases h3 with h3 | h3
        · omega
        · rw [h6] at h3; cases h3)]
      rw [if_neg (by omega), List.drop_zero, Nat.sub_zero, List.take_length]
  · rintro ⟨h1, hd, _, hn⟩
    have hpos : 0 < l.length := by cases l with | nil => exact absurd rfl h1 | cons _ _ => simp
    unfold numSpec at hn
    split at hn
    · cases hn
    rename_i hbad
    have hi := Prod.mk.inj (Except.ok.inj hn)
    have hm : ¬ 0 < partLen (l.drop (0 + spanB digitN (l.drop 0))) := fun h => by rw [if_pos h] at hi; exact absurd hi.1 (by decide)
    have he : numEnd l 0 = l.length := (Prod.mk.inj hi.2).2
    have hs : spanB digitN l = l.length := by
      rw [numEnd_eq l 0 _ _ rfl rfl, if_neg hm, List.drop_zero] at he; omega
    unfold numBad at hbad
    simp only [Bool.not_eq_true, Bool.or_eq_false_iff, Bool.not_eq_false'] at hbad
    rw [if_neg hm, List.drop_zero, hs, List.take_length] at hbad
    refine ⟨⟨⟨h1, hbad.1.1⟩, ?_⟩, hs⟩
    have := hbad.1.2
    simp only [Bool.and_eq_false_iff, decide_eq_false_iff_not] at this
    exact this

theorem pointed_tok (l : Bytes) : pointedB l = tokB l 5 := by
  rw [Bool.eq_iff_iff, tok_iff l 5 (.inr rfl)]
  unfold pointedB
  simp only [Bool.and_eq_true, decide_eq_true_eq, Bool.not_eq_true', Bool.and_eq_false_iff, decide_eq_false_iff_not]
  obtain ⟨n, hn⟩ : ∃ n, n = spanB digitN l := ⟨_, rfl⟩
  obtain ⟨m, hm⟩ : ∃ m, m = partLen (l.drop n) := ⟨_, rfl⟩
  rw [← hn, ← hm]
  constructor
  · rintro ⟨⟨⟨⟨h1, h2⟩, h3⟩, h4⟩, h5⟩
    have hpos : 0 < l.length := by omega
    have hn0 : n = spanB digitN (l.drop 0) := by rw [List.drop_zero]; exact hn
    have hm0 : m = partLen (l.drop (0 + n)) := by rw [Nat.zero_add]; exact hm
    have he : numEnd l 0 = l.length := by rw [numEnd_eq l 0 n m hn0 hm0, if_pos h2]; omega
    refine ⟨fun h => by rw [h] at hpos; simp at hpos, ?_, by omega, ?_⟩
    · rw [← span_first digitN l hpos, ← hn]; exact decide_eq_true h1
    · rw [num_ok l 0 n m 0 l.length hn0 hm0 he (by rw [List.drop_length]; rfl) rfl (by rw [if_pos h2]; exact decide_eq_true h4) (by
        rintro ⟨h6, h7⟩
        rcases h5 with h5 | h5
        · omega
        · rw [h7] at h5; cases h5)]
      rw [if_pos h2, List.drop_zero, Nat.sub_zero, List.take_length]
  · rintro ⟨h1, hd, _, hs⟩
    have hpos : 0 < l.length := by cases l with | nil => exact absurd rfl h1 | cons _ _ => simp
    unfold numSpec at hs
    split at hs
    · cases hs
    rename_i hbad
    have hi := Prod.mk.inj (Except.ok.inj hs)
    have hn0 : n = spanB digitN (l.drop 0) := by rw [List.drop_zero]; exact hn
    have hm0 : m = partLen (l.drop (0 + spanB digitN (l.drop 0))) := by rw [← hn0, Nat.zero_add]; exact hm
    have h2 : 0 < m := by
      by_cases h : 0 < m
      · exact h
      · rw [← hm0, if_neg h] at hi; exact absurd hi.1 (by decide)
    have he : numEnd l 0 = l.length := (Prod.mk.inj hi.2).2
    rw [numEnd_eq l 0 n m hn0 (by rw [hm0, hn0]), if_pos h2] at he
    unfold numBad at hbad
    simp only [Bool.not_eq_true, Bool.or_eq_false_iff, Bool.not_eq_false'] at hbad
    rw [← hm0, if_pos h2, ← hn0] at hbad
    refine ⟨⟨⟨⟨?_, h2⟩, by omega⟩, of_decide_eq_true hbad.1.1⟩, ?_⟩
    · have := span_first digitN l hpos
      rw [hd, ← hn] at this
      exact of_decide_eq_true this
    · have := hbad.1.2
      simp only [Bool.and_eq_false_iff, decide_eq_false_iff_not] at this
      exact this
end Go.Proofs.YthbnegggohegkaaGreatDoor
namespace Go.Proofs.YthbnegggohegkaaGreatDoor
open Go.RowKit

set_option maxRecDepth 100000 in
set_option maxHeartbeats 4000000 in
theorem fits_name (k : Int) (hk : k = 2 ∨ k = 3 ∨ k = 4 ∨ k = 5 ∨ k = 6 ∨ k = 7 ∨ k = 8 ∨ k = 9 ∨ k = 10 ∨ k = 11 ∨ k = 12 ∨ k = 18 ∨ k = 41 ∨ k = 45) (s : ByteArray) (n a : Int) (p : Option Addr) (m c rl : Nat) (w : World) (q : Bool) (hn : ∀ W, Below w.heap.size w W → Calls Tryz.prog 121 #[.string s] W fun e w' => e = .returned (.bool q) ∧ Below W.heap.size W w') : Calls Tryz.prog 90 #[.agg (nd k s n a p m c), .int .i64 (rl : Nat)] w fun e w' => e = .returned (.bool q) ∧ Below w.heap.size w w' := by
  have HN : Hid _ := hn
  clear hn
  rcases hk with rfl | rfl | rfl | rfl | rfl | rfl | rfl | rfl | rfl | rfl | rfl | rfl | rfl | rfl
  all_goals
    go_enter Tryz.func90, Tryz.ntmps90
    go_wp2_with fail
    refine (HN.out _ (below1 _ _)).mono ?_
    rintro e w1 ⟨rfl, hb⟩
    go_wp2_with fail
    go_ret
    exact ⟨rfl, (below1 _ _).trans (hb.mono (by simp))⟩

set_option maxRecDepth 100000 in
set_option maxHeartbeats 4000000 in
theorem fits_label0 (k : Int) (hk : k = 23 ∨ k = 24 ∨ k = 25 ∨ k = 26 ∨ k = 31 ∨ k = 32) (n a : Int) (p : Option Addr) (m c rl : Nat) (w : World) : Calls Tryz.prog 90 #[.agg (nd k ⟨#[]⟩ n a p m c), .int .i64 (rl : Nat)] w fun e w' => e = .returned (.bool true) ∧ Below w.heap.size w w' := by
  rcases hk with rfl | rfl | rfl | rfl | rfl | rfl
  all_goals
    go_enter Tryz.func90, Tryz.ntmps90
    go_wp2
    go_ret
    exact ⟨rfl, below1 _ _⟩

set_option maxRecDepth 100000 in
set_option maxHeartbeats 4000000 in
theorem fits_assign (s : ByteArray) (n a : Int) (p : Option Addr) (m c rl : Nat) (w : World) : Calls Tryz.prog 90 #[.agg (nd 20 s n a p m c), .int .i64 (rl : Nat)] w fun e w' => e = .returned (.bool (assignB s.data.toList)) ∧ Below w.heap.size w w' := by
  have HN : Hid (∀ W, Calls Tryz.prog 124 #[.string s] W fun e w' => e = .returned (.bool (assignB s.data.toList)) ∧ w' = W) := fun W => assign_any s W
  generalize assignB s.data.toList = q at HN ⊢
  go_enter Tryz.func90, Tryz.ntmps90
  go_wp2_with fail
  refine (HN.out _).mono ?_
  rintro e w1 ⟨rfl, rfl⟩
  go_wp2_with fail
  go_ret
  exact ⟨rfl, below1 _ _⟩

set_option maxRecDepth 100000 in
set_option maxHeartbeats 4000000 in
theorem fits_token (k : Int) (kd : Nat) (hk : (k = 35 ∧ kd = 4) ∨ (k = 36 ∧ kd = 5)) (s : ByteArray) (n a : Int) (p : Option Addr) (m c rl : Nat) (w : World) (q : Bool) (hn : ∀ W, Below w.heap.size w W → Calls Tryz.prog 125 #[.string s, .int .i64 kd] W fun e w' => e = .returned (.bool q) ∧ Below W.heap.size W w') : Calls Tryz.prog 90 #[.agg (nd k s n a p m c), .int .i64 (rl : Nat)] w fun e w' => e = .returned (.bool q) ∧ Below w.heap.size w w' := by
  have HN : Hid _ := hn
  clear hn
  rcases hk with ⟨rfl, rfl⟩ | ⟨rfl, rfl⟩
  all_goals
    go_enter Tryz.func90, Tryz.ntmps90
    go_wp2_with fail
    refine (HN.out _ (below1 _ _)).mono ?_
    rintro e w1 ⟨rfl, hb⟩
    go_wp2_with fail
    go_ret
    exact ⟨rfl, (below1 _ _).trans (hb.mono (by simp))⟩

set_option maxRecDepth 100000 in
set_option maxHeartbeats 4000000 in
theorem fits_text (s : ByteArray) (n a : Int) (p : Option Addr) (m c rl : Nat) (w : World) : Calls Tryz.prog 90 #[.agg (nd 37 s n a p m c), .int .i64 (rl : Nat)] w fun e w' => e = .returned (.bool (decide (s.data.toList.length ≤ 65536))) ∧ Below w.heap.size w w' := by
  have hq : decide (s.data.toList.length ≤ 65536) = decide ((s.size : Int) ≤ 65536) := by
    have : s.data.toList.length = s.size := by simp
    rw [this]; by_cases h : s.size ≤ 65536
    · rw [decide_eq_true h, decide_eq_true (by omega)]
    · rw [decide_eq_false h, decide_eq_false (by omega)]
  rw [hq]
  clear hq
  go_enter Tryz.func90, Tryz.ntmps90
  go_wp2
  go_ret
  exact ⟨rfl, below1 _ _⟩

set_option maxRecDepth 100000 in
set_option maxHeartbeats 4000000 in
theorem fits_binary (s : ByteArray) (n a : Int) (p : Option Addr) (m c rl : Nat) (w : World) : Calls Tryz.prog 90 #[.agg (nd 51 s n a p m c), .int .i64 (rl : Nat)] w fun e w' => e = .returned (.bool (binB s.data.toList)) ∧ Below w.heap.size w w' := by
  have HN : Hid (∀ W, Calls Tryz.prog 127 #[.string s] W fun e w' => e = .returned (.int .i64 (levelN s.data.toList : Nat)) ∧ w' = W) := fun W => level_any s W
  rw [bin_level]
  generalize levelN s.data.toList = q at HN ⊢
  go_enter Tryz.func90, Tryz.ntmps90
  go_wp2_with fail
  refine (HN.out _).mono ?_
  rintro e w1 ⟨rfl, rfl⟩
  go_wp2_with fail
  go_ret
  exact ⟨rfl, below1 _ _⟩

set_option maxRecDepth 100000 in
set_option maxHeartbeats 4000000 in
theorem fits_none0 (k : Int) (h2 : (k == 2) = false) (h3 : (k == 3) = false) (h4 : (k == 4) = false) (h5 : (k == 5) = false) (h6 : (k == 6) = false) (h7 : (k == 7) = false) (h8 : (k == 8) = false) (h9 : (k == 9) = false) (h10 : (k == 10) = false) (h11 : (k == 11) = false) (h12 : (k == 12) = false) (h18 : (k == 18) = false) (h41 : (k == 41) = false) (h45 : (k == 45) = false) (h23 : (k == 23) = false) (h24 : (k == 24) = false) (h25 : (k == 25) = false) (h26 : (k == 26) = false) (h31 : (k == 31) = false) (h32 : (k == 32) = false) (h14 : (k == 14) = false) (h40 : (k == 40) = false) (h20 : (k == 20) = false) (h34 : (k == 34) = false) (h35 : (k == 35) = false) (h36 : (k == 36) = false) (h37 : (k == 37) = false) (h50 : (k == 50) = false) (h51 : (k == 51) = false) (n a : Int) (p : Option Addr) (m c rl : Nat) (w : World) : Calls Tryz.prog 90 #[.agg (nd k ⟨#[]⟩ n a p m c), .int .i64 (rl : Nat)] w fun e w' => e = .returned (.bool true) ∧ Below w.heap.size w w' := by
  go_enter Tryz.func90, Tryz.ntmps90
  go_wp2
  go_ret
  exact ⟨rfl, below1 _ _⟩

set_option maxRecDepth 100000 in
set_option maxHeartbeats 4000000 in
theorem fits_none1 (k : Int) (h2 : (k == 2) = false) (h3 : (k == 3) = false) (h4 : (k == 4) = false) (h5 : (k == 5) = false) (h6 : (k == 6) = false) (h7 : (k == 7) = false) (h8 : (k == 8) = false) (h9 : (k == 9) = false) (h10 : (k == 10) = false) (h11 : (k == 11) = false) (h12 : (k == 12) = false) (h18 : (k == 18) = false) (h41 : (k == 41) = false) (h45 : (k == 45) = false) (h23 : (k == 23) = false) (h24 : (k == 24) = false) (h25 : (k == 25) = false) (h26 : (k == 26) = false) (h31 : (k == 31) = false) (h32 : (k == 32) = false) (h14 : (k == 14) = false) (h40 : (k == 40) = false) (h20 : (k == 20) = false) (h34 : (k == 34) = false) (h35 : (k == 35) = false) (h36 : (k == 36) = false) (h37 : (k == 37) = false) (h50 : (k == 50) = false) (h51 : (k == 51) = false) (s : ByteArray) (n a : Int) (p : Option Addr) (m c rl : Nat) (w : World) (h0 : (s.toList == []) = false) : Calls Tryz.prog 90 #[.agg (nd k s n a p m c), .int .i64 (rl : Nat)] w fun e w' => e = .returned (.bool false) ∧ Below w.heap.size w w' := by
  go_enter Tryz.func90, Tryz.ntmps90
  go_wp2
  go_ret
  exact ⟨rfl, below1 _ _⟩

set_option maxRecDepth 100000 in
set_option maxHeartbeats 4000000 in
theorem fits_step0 (s : ByteArray) (hs : s = ⟨#[43, 43]⟩ ∨ s = ⟨#[45, 45]⟩) (n a : Int) (p : Option Addr) (m c rl : Nat) (w : World) : Calls Tryz.prog 90 #[.agg (nd 34 s n a p m c), .int .i64 (rl : Nat)] w fun e w' => e = .returned (.bool true) ∧ Below w.heap.size w w' := by
  rcases hs with rfl | rfl
  all_goals
    go_enter Tryz.func90, Tryz.ntmps90
    go_wp2
    go_ret
    exact ⟨rfl, below1 _ _⟩

set_option maxRecDepth 100000 in
set_option maxHeartbeats 4000000 in
theorem fits_step1 (s : ByteArray) (n a : Int) (p : Option Addr) (m c rl : Nat) (w : World) (h0 : (s.toList == [43, 43]) = false) (h1 : (s.toList == [45, 45]) = false) : Calls Tryz.prog 90 #[.agg (nd 34 s n a p m c), .int .i64 (rl : Nat)] w fun e w' => e = .returned (.bool false) ∧ Below w.heap.size w w' := by
  go_enter Tryz.func90, Tryz.ntmps90
  go_wp2
  go_ret
  exact ⟨rfl, below1 _ _⟩

set_option maxRecDepth 100000 in
set_option maxHeartbeats 4000000 in
theorem fits_pair28a (n a : Int) (p : Option Addr) (m c : Nat) (w : World) : Calls Tryz.prog 90 #[.agg (nd 40 ⟨#[]⟩ n a p m c), .int .i64 28] w fun e w' => e = .returned (.bool true) ∧ Below w.heap.size w w' := by
  go_enter Tryz.func90, Tryz.ntmps90
  go_wp2
  go_ret
  exact ⟨rfl, below1 _ _⟩

end Go.Proofs.YthbnegggohegkaaGreatDoor
namespace Go.Proofs.YthbnegggohegkaaGreatDoor
open Go.RowKit

set_option maxRecDepth 100000 in
set_option maxHeartbeats 4000000 in
theorem fits_label1 (k : Int) (hk : k = 23 ∨ k = 24 ∨ k = 25 ∨ k = 26 ∨ k = 31 ∨ k = 32) (s : ByteArray) (n a : Int) (p : Option Addr) (m c rl : Nat) (w : World) (h0 : (s.toList == []) = false) (q : Bool) (hn : ∀ W, Below w.heap.size w W → Calls Tryz.prog 121 #[.string s] W fun e w' => e = .returned (.bool q) ∧ Below W.heap.size W w') : Calls Tryz.prog 90 #[.agg (nd k s n a p m c), .int .i64 (rl : Nat)] w fun e w' => e = .returned (.bool q) ∧ Below w.heap.size w w' := by
  have HN : Hid _ := hn
  clear hn
  rcases hk with rfl | rfl | rfl | rfl | rfl | rfl
  all_goals
    go_enter Tryz.func90, Tryz.ntmps90
    go_wp2_with fail
    refine (HN.out _ (below1 _ _)).mono ?_
    rintro e w1 ⟨rfl, hb⟩
    go_wp2_with fail
    go_ret
    exact ⟨rfl, (below1 _ _).trans (hb.mono (by simp))⟩

set_option maxRecDepth 100000 in
set_option maxHeartbeats 4000000 in
theorem fits_pair28b (s : ByteArray) (n a : Int) (p : Option Addr) (m c : Nat) (w : World) (h0 : (s.toList == []) = false) : Calls Tryz.prog 90 #[.agg (nd 40 s n a p m c), .int .i64 28] w fun e w' => e = .returned (.bool false) ∧ Below w.heap.size w w' := by
  go_enter Tryz.func90, Tryz.ntmps90
  go_wp2
  go_ret
  exact ⟨rfl, below1 _ _⟩

set_option maxRecDepth 100000 in
set_option maxHeartbeats 4000000 in
theorem fits_pair29 (s : ByteArray) (n a : Int) (p : Option Addr) (m c : Nat) (w : World) (q : Bool) (hn : ∀ W, Below w.heap.size w W → Calls Tryz.prog 121 #[.string s] W fun e w' => e = .returned (.bool q) ∧ Below W.heap.size W w') : Calls Tryz.prog 90 #[.agg (nd 40 s n a p m c), .int .i64 29] w fun e w' => e = .returned (.bool q) ∧ Below w.heap.size w w' := by
  have HN : Hid _ := hn
  clear hn
  go_enter Tryz.func90, Tryz.ntmps90
  go_wp2_with fail
  refine (HN.out _ (below1 _ _)).mono ?_
  rintro e w1 ⟨rfl, hb⟩
  go_wp2_with fail
  go_ret
  exact ⟨rfl, (below1 _ _).trans (hb.mono (by simp))⟩

set_option maxRecDepth 100000 in
set_option maxHeartbeats 4000000 in
theorem fits_pair (s : ByteArray) (n a : Int) (p : Option Addr) (m c rl : Nat) (w : World) (h28 : (((rl : Nat) : Int) == 28) = false) (h29 : (((rl : Nat) : Int) == 29) = false) : Calls Tryz.prog 90 #[.agg (nd 40 s n a p m c), .int .i64 (rl : Nat)] w fun e w' => e = .returned (.bool false) ∧ Below w.heap.size w w' := by
  go_enter Tryz.func90, Tryz.ntmps90
  go_wp2
  go_ret
  exact ⟨rfl, below1 _ _⟩

set_option maxRecDepth 100000 in
set_option maxHeartbeats 4000000 in
theorem fits_unary0 (s : ByteArray) (n a : Int) (p : Option Addr) (m c rl : Nat) (w : World) (hu : ∀ W, Calls Tryz.prog 126 #[.string s] W fun e w' => e = .returned (.bool false) ∧ w' = W) : Calls Tryz.prog 90 #[.agg (nd 50 s n a p m c), .int .i64 (rl : Nat)] w fun e w' => e = .returned (.bool false) ∧ Below w.heap.size w w' := by
  have HN : Hid _ := hu
  clear hu
  go_enter Tryz.func90, Tryz.ntmps90
  go_wp2_with fail
  refine (HN.out _).mono ?_
  rintro e w1 ⟨rfl, rfl⟩
  go_wp2_with fail
  go_ret
  exact ⟨rfl, below1 _ _⟩

set_option maxRecDepth 100000 in
set_option maxHeartbeats 4000000 in
theorem fits_unary1 (s : ByteArray) (n a : Int) (p : Option Addr) (m c rl : Nat) (w : World) (hu : ∀ W, Calls Tryz.prog 126 #[.string s] W fun e w' => e = .returned (.bool true) ∧ w' = W) (h0 : (s.toList == [42]) = true) : Calls Tryz.prog 90 #[.agg (nd 50 s n a p m c), .int .i64 (rl : Nat)] w fun e w' => e = .returned (.bool true) ∧ Below w.heap.size w w' := by
  have HN : Hid _ := hu
  clear hu
  go_enter Tryz.func90, Tryz.ntmps90
  go_wp2_with fail
  refine (HN.out _).mono ?_
  rintro e w1 ⟨rfl, rfl⟩
  go_wp2_with fail
  go_ret
  exact ⟨rfl, below1 _ _⟩

set_option maxRecDepth 100000 in
set_option maxHeartbeats 4000000 in
theorem fits_unary2 (s : ByteArray) (n a : Int) (p : Option Addr) (m c rl : Nat) (w : World) (hu : ∀ W, Calls Tryz.prog 126 #[.string s] W fun e w' => e = .returned (.bool true) ∧ w' = W) (h0 : (s.toList == [42]) = false) (q : Bool) (hq : ((((rl : Nat) : Int)) != 14) = q) : Calls Tryz.prog 90 #[.agg (nd 50 s n a p m c), .int .i64 (rl : Nat)] w fun e w' => e = .returned (.bool q) ∧ Below w.heap.size w w' := by
  have HN : Hid _ := hu
  clear hu
  have HQ : Hid _ := hq
  clear hq
  go_enter Tryz.func90, Tryz.ntmps90
  go_wp2_with fail
  refine (HN.out _).mono ?_
  rintro e w1 ⟨rfl, rfl⟩
  go_wp2_with fail
  go_ret
  exact ⟨congrArg (fun b => Ending.returned (.bool b)) HQ.out, below1 _ _⟩

set_option maxRecDepth 100000 in
set_option maxHeartbeats 4000000 in
theorem fits_word1 (s : ByteArray) (n a : Int) (p : Option Addr) (m c rl : Nat) (w : World) (hn : ∀ W, Below w.heap.size w W → Calls Tryz.prog 121 #[.string s] W fun e w' => e = .returned (.bool true) ∧ Below W.heap.size W w') : Calls Tryz.prog 90 #[.agg (nd 14 s n a p m c), .int .i64 (rl : Nat)] w fun e w' => e = .returned (.bool true) ∧ Below w.heap.size w w' := by
  have HN : Hid _ := hn
  clear hn
  go_enter Tryz.func90, Tryz.ntmps90
  go_wp2_with fail
  refine wp_region_noPanic ?_
  refine wp_region_held (S := fun W => W.cell? ⟨w.heap.size, 1, none⟩ = some (.string s)) (by kernel_rfl) ?_
  obtain ⟨W4, hW4⟩ : ∃ W4, W4 = (w.alloc (.cells (nd 14 s n a p m c) 24)).drew := ⟨_, rfl⟩
  have e4 : ({ (w.alloc (.cells (nd 14 s n a p m c) 24)) with drawn := (w.alloc (.cells (nd 14 s n a p m c) 24)).drawn + 1 } : World) = W4 := hW4.symm
  rw [e4]
  have hB4 : Below w.heap.size w W4 := by rw [hW4]; exact (below1 _ _).drew
  have hS : W4.cell? ⟨w.heap.size, 1, none⟩ = some (.string s) := by rw [hW4]; simp
  have hz4 : W4.heap.size = w.heap.size + 1 := by rw [hW4]; simp
  have HK : Hid (∀ W, Below W4.heap.size W4 W → W.cell? ⟨w.heap.size, 1, none⟩ = some (.string s)) := fun W hW => (hW.cell (p := ⟨w.heap.size, 1, none⟩) (by show w.heap.size < _; omega)).trans hS
  clear e4 hW4
  have b5 : Below W4.heap.size W4 W4 := Below.refl _ _
  refine wpAnyH_take (i := 0) (v := .pointer (some ⟨w.heap.size, 1, none⟩)) rfl (by kernel_rfl) (by kernel_rfl) (by kernel_rfl) (fun _ _ _ h => h) (Or.inl ⟨by rfl, ?r⟩) hS ?_
  case r => intro W hW; simp [go_sem, execOp, Act.eval]
  simp only [List.getElem_toArray, List.getElem_cons_zero, Act.put, List.setIfInBounds_toArray, List.set_cons_succ, List.set_cons_zero]
  refine wpAnyH_take (i := 1) (v := .string s) rfl (by kernel_rfl) (by kernel_rfl) (by kernel_rfl) (fun _ _ _ h => h) (Or.inl ⟨by rfl, ?r⟩) hS ?_
  case r => intro W hW; simp [go_sem, execOp, Act.eval, hW]
  simp only [List.getElem_toArray, List.getElem_cons_zero, List.getElem_cons_succ, Act.put, List.setIfInBounds_toArray, List.set_cons_succ, List.set_cons_zero]
  refine wpAnyH_all (rs := [2]) (by kernel_rfl) (by simp) (fun i1 hi1 => ?_)
  obtain rfl : i1 = 2 := by simpa using hi1
  clear hi1
  refine wpOp_step rfl (fun K hK => ite_yes rfl ?_)
  simp only [List.getElem_toArray, List.getElem_cons_zero, List.getElem_cons_succ]
  go_simp
  refine (HN.out _ (hB4.trans (b5.mono hB4.size))).mono ?_
  rintro e w1 ⟨rfl, c5⟩
  have b5' : Below W4.heap.size W4 w1 := b5.trans (c5.mono b5.size)
  go_simp
  refine hK _ _ ⟨HK.out _ b5', ?_⟩
  clear hK K hS b5
  have hS := HK.out _ b5'
  have b5 : Below W4.heap.size W4 w1 := b5'
  clear b5'
  refine wpAnyH_take (i := 3) (v := .bool true) rfl (by kernel_rfl) (by kernel_rfl) (by kernel_rfl) (fun _ _ _ h => h) (Or.inl ⟨by rfl, ?r⟩) hS ?_
  case r => intro W hW; simp [go_sem, execOp, Act.eval]
  simp only [List.getElem_toArray, List.getElem_cons_zero, List.getElem_cons_succ, Act.put, List.setIfInBounds_toArray, List.set_cons_succ, List.set_cons_zero]
  refine wpAnyH_take (i := 4) (v := undef) rfl (by kernel_rfl) (by kernel_rfl) (by kernel_rfl) (fun _ _ _ h => h) (Or.inr ⟨by rfl, rfl⟩) hS ?_
  refine wpAnyH_take (i := 5) (v := undef) rfl (by kernel_rfl) (by kernel_rfl) (by kernel_rfl) (fun _ _ _ h => h) (Or.inr ⟨by rfl, rfl⟩) hS ?_
  refine wpAnyH_take (i := 6) (v := undef) rfl (by kernel_rfl) (by kernel_rfl) (by kernel_rfl) (fun _ _ _ h => h) (Or.inr ⟨by rfl, rfl⟩) hS ?_
  refine wpAnyH_take (i := 7) (v := undef) rfl (by kernel_rfl) (by kernel_rfl) (by kernel_rfl) (fun _ _ _ h => h) (Or.inr ⟨by rfl, rfl⟩) hS ?_
  refine wpAnyH_take (i := 8) (v := undef) rfl (by kernel_rfl) (by kernel_rfl) (by kernel_rfl) (fun _ _ _ h => h) (Or.inr ⟨by rfl, rfl⟩) hS ?_
  refine wpAnyH_take (i := 9) (v := .bool true) rfl (by kernel_rfl) (by kernel_rfl) (by kernel_rfl) (fun _ _ _ h => h) (Or.inl ⟨by rfl, ?r⟩) hS ?_
  case r => intro W hW; simp [go_sem, execOp, Act.eval, Act.put]
  refine wpAnyH_take (i := 10) (v := .bool true) rfl (by kernel_rfl) (by kernel_rfl) (by kernel_rfl) (fun _ _ _ h => h) (Or.inl ⟨by rfl, ?r⟩) hS ?_
  case r => intro W hW; simp [go_sem, execOp, Act.eval, Act.put]
  refine wpAnyH_done (by kernel_rfl) ?_ _
  refine NoPanic.normal ?_
  try simp only [List.getElem_toArray, List.getElem_cons_zero, List.getElem_cons_succ, Act.put, List.setIfInBounds_toArray, List.set_cons_succ, List.set_cons_zero]
  have HE : Hid _ := hB4.trans (b5.mono hB4.size)
  clear hB4 b5 HK hS
  go_wp2_with fail
  go_ret
  exact ⟨rfl, HE.out⟩

set_option maxRecDepth 100000 in
set_option maxHeartbeats 4000000 in
theorem fits_word2 (s : ByteArray) (n a : Int) (p : Option Addr) (m c rl : Nat) (w : World) (hn : ∀ W, Below w.heap.size w W → Calls Tryz.prog 121 #[.string s] W fun e w' => e = .returned (.bool false) ∧ Below W.heap.size W w') (ws : List Bytes) (hw : ∀ W, Below w.heap.size w W → Calls Tryz.prog 123 #[.int .i64 (rl : Nat)] W fun e w' => ∃ p, e = .returned (.slice p ws.length ws.length) ∧ TextsAt w' p ws ∧ Below W.heap.size W w') (hc : ∀ W p, TextsAt W p ws → Calls Tryz.prog 122 #[.slice p ws.length ws.length, .string s] W fun e w' => e = .returned (.bool (ws.contains s.data.toList)) ∧ w' = W) : Calls Tryz.prog 90 #[.agg (nd 14 s n a p m c), .int .i64 (rl : Nat)] w fun e w' => e = .returned (.bool (ws.contains s.data.toList)) ∧ Below w.heap.size w w' := by
  have HN : Hid _ := hn
  clear hn
  have HW : Hid _ := hw
  clear hw
  have HC : Hid _ := hc
  clear hc
  generalize ws.contains s.data.toList = z at HC ⊢
  go_enter Tryz.func90, Tryz.ntmps90
  go_wp2_with fail
  refine wp_region_noPanic ?_
  refine wp_region_held (S := fun W => W.cell? ⟨w.heap.size, 1, none⟩ = some (.string s)) (by kernel_rfl) ?_
  obtain ⟨W4, hW4⟩ : ∃ W4, W4 = (w.alloc (.cells (nd 14 s n a p m c) 24)).drew := ⟨_, rfl⟩
  have e4 : ({ (w.alloc (.cells (nd 14 s n a p m c) 24)) with drawn := (w.alloc (.cells (nd 14 s n a p m c) 24)).drawn + 1 } : World) = W4 := hW4.symm
  rw [e4]
  have hB4 : Below w.heap.size w W4 := by rw [hW4]; exact (below1 _ _).drew
  have hS : W4.cell? ⟨w.heap.size, 1, none⟩ = some (.string s) := by rw [hW4]; simp
  have hz4 : W4.heap.size = w.heap.size + 1 := by rw [hW4]; simp
  have HK : Hid (∀ W, Below W4.heap.size W4 W → W.cell? ⟨w.heap.size, 1, none⟩ = some (.string s)) := fun W hW => (hW.cell (p := ⟨w.heap.size, 1, none⟩) (by show w.heap.size < _; omega)).trans hS
  clear e4 hW4
  have b5 : Below W4.heap.size W4 W4 := Below.refl _ _
  refine wpAnyH_take (i := 0) (v := .pointer (some ⟨w.heap.size, 1, none⟩)) rfl (by kernel_rfl) (by kernel_rfl) (by kernel_rfl) (fun _ _ _ h => h) (Or.inl ⟨by rfl, ?r⟩) hS ?_
  case r => intro W hW; simp [go_sem, execOp, Act.eval]
  simp only [List.getElem_toArray, List.getElem_cons_zero, Act.put, List.setIfInBounds_toArray, List.set_cons_succ, List.set_cons_zero]
  refine wpAnyH_take (i := 1) (v := .string s) rfl (by kernel_rfl) (by kernel_rfl) (by kernel_rfl) (fun _ _ _ h => h) (Or.inl ⟨by rfl, ?r⟩) hS ?_
  case r => intro W hW; simp [go_sem, execOp, Act.eval, hW]
  simp only [List.getElem_toArray, List.getElem_cons_zero, List.getElem_cons_succ, Act.put, List.setIfInBounds_toArray, List.set_cons_succ, List.set_cons_zero]
  refine wpAnyH_all (rs := [2]) (by kernel_rfl) (by simp) (fun i2 hi2 => ?_)
  obtain rfl : i2 = 2 := by simpa using hi2
  clear hi2
  refine wpOp_step rfl (fun K hK => ite_yes rfl ?_)
  simp only [List.getElem_toArray, List.getElem_cons_zero, List.getElem_cons_succ]
  go_simp
  refine (HN.out _ (hB4.trans (b5.mono hB4.size))).mono ?_
  rintro e w2 ⟨rfl, c5⟩
  have b5' : Below W4.heap.size W4 w2 := b5.trans (c5.mono b5.size)
  go_simp
  refine hK _ _ ⟨HK.out _ b5', ?_⟩
  clear hK K hS b5
  have hS := HK.out _ b5'
  have b5 : Below W4.heap.size W4 w2 := b5'
  clear b5'
  refine wpAnyH_take (i := 3) (v := .bool false) rfl (by kernel_rfl) (by kernel_rfl) (by kernel_rfl) (fun _ _ _ h => h) (Or.inl ⟨by rfl, ?r⟩) hS ?_
  case r => intro W hW; simp [go_sem, execOp, Act.eval]
  simp only [List.getElem_toArray, List.getElem_cons_zero, List.getElem_cons_succ, Act.put, List.setIfInBounds_toArray, List.set_cons_succ, List.set_cons_zero]
  refine wpAnyH_take (i := 4) (v := .int .i64 (rl : Nat)) rfl (by kernel_rfl) (by kernel_rfl) (by kernel_rfl) (fun _ _ _ h => h) (Or.inl ⟨by rfl, ?r⟩) hS ?_
  case r => intro W hW; simp [go_sem, execOp, Act.eval]
  simp only [List.getElem_toArray, List.getElem_cons_zero, List.getElem_cons_succ, Act.put, List.setIfInBounds_toArray, List.set_cons_succ, List.set_cons_zero]
  refine wpAnyH_take (i := 6) (v := .pointer (some ⟨w.heap.size, 1, none⟩)) rfl (by kernel_rfl) (by kernel_rfl) (by kernel_rfl) (fun _ _ _ h => h) (Or.inl ⟨by rfl, ?r⟩) hS ?_
  case r => intro W hW; simp [go_sem, execOp, Act.eval]
  simp only [List.getElem_toArray, List.getElem_cons_zero, List.getElem_cons_succ, Act.put, List.setIfInBounds_toArray, List.set_cons_succ, List.set_cons_zero]
  refine wpAnyH_take (i := 7) (v := .string s) rfl (by kernel_rfl) (by kernel_rfl) (by kernel_rfl) (fun _ _ _ h => h) (Or.inl ⟨by rfl, ?r⟩) hS ?_
  case r => intro W hW; simp [go_sem, execOp, Act.eval, hW]
  simp only [List.getElem_toArray, List.getElem_cons_zero, List.getElem_cons_succ, Act.put, List.setIfInBounds_toArray, List.set_cons_succ, List.set_cons_zero]
  refine wpAnyH_all (rs := [5]) (by kernel_rfl) (by simp) (fun i3 hi3 => ?_)
  obtain rfl : i3 = 5 := by simpa using hi3
  clear hi3
  refine wpOp_step rfl (fun K hK => ite_yes rfl ?_)
  simp only [List.getElem_toArray, List.getElem_cons_zero, List.getElem_cons_succ]
  go_simp
  refine (HW.out _ (hB4.trans (b5.mono hB4.size))).mono ?_
  rintro e w3 ⟨q0, rfl, hT, c5⟩
  have b5' : Below W4.heap.size W4 w3 := b5.trans (c5.mono b5.size)
  go_simp
  refine hK _ _ ⟨HK.out _ b5', ?_⟩
  clear hK K hS b5
  have hS := HK.out _ b5'
  have b5 : Below W4.heap.size W4 w3 := b5'
  clear b5'
  refine wpAnyH_all (rs := [8]) (by kernel_rfl) (by simp) (fun i4 hi4 => ?_)
  obtain rfl : i4 = 8 := by simpa using hi4
  clear hi4
  refine wpOp_step rfl (fun K hK => ite_yes rfl ?_)
  simp only [List.getElem_toArray, List.getElem_cons_zero, List.getElem_cons_succ]
  go_simp
  refine (HC.out _ _ hT).mono ?_
  rintro e w4 ⟨rfl, rfl⟩
  have b5' : Below W4.heap.size W4 w4 := b5
  go_simp
  refine hK _ _ ⟨HK.out _ b5', ?_⟩
  clear hK K hS b5
  have hS := HK.out _ b5'
  have b5 : Below W4.heap.size W4 w4 := b5'
  clear b5'
  refine wpAnyH_take (i := 9) (v := .bool z) rfl (by kernel_rfl) (by kernel_rfl) (by kernel_rfl) (fun _ _ _ h => h) (Or.inl ⟨by rfl, ?r⟩) hS ?_
  case r => intro W hW; simp [go_sem, execOp, Act.eval]
  simp only [List.getElem_toArray, List.getElem_cons_zero, List.getElem_cons_succ, Act.put, List.setIfInBounds_toArray, List.set_cons_succ, List.set_cons_zero]
  refine wpAnyH_take (i := 10) (v := .bool z) rfl (by kernel_rfl) (by kernel_rfl) (by kernel_rfl) (fun _ _ _ h => h) (Or.inl ⟨by rfl, ?r⟩) hS ?_
  case r => intro W hW; simp [go_sem, execOp, Act.eval]
  simp only [List.getElem_toArray, List.getElem_cons_zero, List.getElem_cons_succ, Act.put, List.setIfInBounds_toArray, List.set_cons_succ, List.set_cons_zero]
  refine wpAnyH_done (by kernel_rfl) ?_ _
  refine NoPanic.normal ?_
  try simp only [List.getElem_toArray, List.getElem_cons_zero, List.getElem_cons_succ, Act.put, List.setIfInBounds_toArray, List.set_cons_succ, List.set_cons_zero]
  have HE : Hid _ := hB4.trans (b5.mono hB4.size)
  clear hB4 b5 HK hS
  go_wp2_with fail
  go_ret
  exact ⟨rfl, HE.out⟩

end Go.Proofs.YthbnegggohegkaaGreatDoor
