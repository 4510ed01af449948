/-
  What a printer has written, and the walks of (*printer).isFull and put.
-/
import Derived.Test.YthbnegggohegkaaGreatDoorRi
import Derived.Test.YthbnegggohegkaaGreatDoorFr
import Derived.Lib.AppendStr
namespace Go.Proofs.YthbnegggohegkaaGreatDoor
open Go.RowKit

/-- What a printer's calls leave as it was: all below base but the printer's own block; and of the rest whatever is no row of bytes. -/
structure PK (pb base : Nat) (w w' : World) : Prop where
  os : w'.os = w.os
  tape : w'.tape = w.tape
  output : w'.output = w.output
  size : w.heap.size ≤ w'.heap.size
  low : ∀ k, k < base → k ≠ pb → w'.heap[k]? = w.heap[k]?
  high : ∀ k cs t fr, k ≠ pb → w.heap[k]? = some (.cells cs t fr) → t ≠ 5 → w'.heap[k]? = some (.cells cs t fr)

theorem PK.refl (pb base : Nat) (w : World) : PK pb base w w := ⟨rfl, rfl, rfl, Nat.le_refl _, fun _ _ _ => rfl, fun _ _ _ _ _ h _ => h⟩
theorem PK.trans {pb base : Nat} {A B C : World} (h : PK pb base A B) (k : PK pb base B C) : PK pb base A C :=
  ⟨k.os.trans h.os, k.tape.trans h.tape, k.output.trans h.output, Nat.le_trans h.size k.size, fun i hi hp => (k.low i hi hp).trans (h.low i hi hp), fun i cs t fr hp hi ht => k.high i cs t fr hp (h.high i cs t fr hp hi ht) ht⟩
theorem PK.of {pb base : Nat} {w w' : World} (hb : Below w.heap.size w w') (hB : base ≤ w.heap.size) : PK pb base w w' :=
  ⟨hb.os, hb.tape, hb.output, hb.size, fun k hk _ => hb.block k (by omega), fun k cs t fr _ h _ => (hb.block k (Array.getElem?_eq_some_iff.1 h).1).trans h⟩
theorem PK.set (pb base : Nat) (w : World) (o : Nat) (v : Value) : PK pb base w (w.setCell ⟨pb, o, none⟩ v) :=
  ⟨rfl, rfl, rfl, by simp, fun k _ hk => Below.heap_setCell w ⟨pb, o, none⟩ v k hk, fun k cs t fr hk h _ => (Below.heap_setCell w ⟨pb, o, none⟩ v k hk).trans h⟩
theorem PK.grown {pb base n : Nat} {w w' : World} {v : Value} {xs : List Value} (hown : w.ownsRow base 5 1 v n xs) (hg : w.grownBy w' v.ownBlock) (hB : base ≤ w.heap.size) : PK pb base w w' :=
  ⟨hg.os, hg.tape, hg.output, hg.size, fun k hk _ => hg.block k (by omega) (fun e => by have := (hown.lt k e.symm).1; omega),
   fun k cs t fr _ h ht => (hg.block k (Array.getElem?_eq_some_iff.1 h).1 (fun e => by
     rcases hown.2 with ⟨rfl, _⟩ | ⟨g, cap, cur, rfl, _, hgg, _⟩
     · cases e
     · cases e; rw [hgg] at h; cases h; exact ht rfl)).trans h⟩
theorem PK.below {pb base B : Nat} {w w' : World} (h : PK pb base w w') (hB : B ≤ base) (hp : B ≤ pb) : Below B w w' :=
  ⟨h.os, h.tape, h.output, h.size, fun k hk => h.low k (by omega) (by omega)⟩

/-- What a printer holds: the bytes that were written. -/
structure Pr (pb base : Nat) (bs : List UInt8) (bare : Bool) (v : Value) (w : World) : Prop where
  row : w.heap[pb]? = some (.cells #[v, .int .i64 0, .bool bare] 84 (0, 0))
  own : w.ownsRow base 5 1 v bs.length (Lib.byteCells bs)

theorem Pr.cell {pb base : Nat} {bs : List UInt8} {bare : Bool} {v : Value} {w : World} (h : Pr pb base bs bare v w) : w.cell? ⟨pb, 0, none⟩ = some v := by simp [World.cell?, h.row]
theorem Pr.bare {pb base : Nat} {bs : List UInt8} {bare : Bool} {v : Value} {w : World} (h : Pr pb base bs bare v w) : w.cell? ⟨pb, 2, none⟩ = some (.bool bare) := by simp [World.cell?, h.row]
theorem Pr.frozen {pb base : Nat} {bs : List UInt8} {bare : Bool} {v : Value} {w : World} (h : Pr pb base bs bare v w) (o : Nat) : w.frozen? ⟨pb, o, none⟩ = false := by simp [World.frozen?, h.row]
theorem Pr.below {pb base : Nat} {bs : List UInt8} {bare : Bool} {v : Value} {w w' : World} (h : Pr pb base bs bare v w) (hb : Below w.heap.size w w') : Pr pb base bs bare v w' := by
  refine ⟨(hb.block pb (Array.getElem?_eq_some_iff.1 h.row).1).trans h.row, h.own.1, ?_⟩
  rcases h.own.2 with hn | ⟨g, cap, cur, rfl, hg, hgg, rest⟩
  · exact .inl hn
  · exact .inr ⟨g, cap, cur, rfl, hg, (hb.block g (Array.getElem?_eq_some_iff.1 hgg).1).trans hgg, rest⟩
theorem Pr.form {pb base : Nat} {bs : List UInt8} {bare : Bool} {v : Value} {w : World} (h : Pr pb base bs bare v w) : ∃ p cap, v = .slice p bs.length cap := by
  rcases h.own.2 with ⟨h', h0⟩ | ⟨g, cap, cur, hv, _⟩
  · exact ⟨none, 0, by rw [h', h0]⟩
  · exact ⟨_, _, hv⟩

set_option maxHeartbeats 400000 in
theorem isFull_any (pb base : Nat) (bs : List UInt8) (bare : Bool) (v : Value) (w : World) (hP : Pr pb base bs bare v w) (hl : bs.length ≤ 60000) :
    Calls Tryz.prog 42 #[.pointer (some ⟨pb, 0, none⟩)] w fun e w' => e = .returned (.bool false) ∧ w' = w := by
  obtain ⟨p, cap, rfl⟩ := hP.form
  have hc := hP.cell
  go_enter Tryz.func42, Tryz.ntmps42
  go_wp2
  go_ret
  exact ⟨congrArg (fun b => Ending.returned (.bool b)) (by simp; omega), rfl⟩

theorem ownsRow_slice {w : World} {base : Nat} {e : TypeId} {size : Nat} {v : Value} {n : Nat} {xs : List Value} (h : w.ownsRow base e size v n xs) : ∃ p cap, v = .slice p n cap := by
  rcases h.2 with ⟨h', h0⟩ | ⟨g, cap, cur, hv, _⟩
  · exact ⟨none, 0, by rw [h', h0]⟩
  · exact ⟨_, _, hv⟩

theorem grownBy_set' (w : World) (g o : Nat) (v : Value) : w.grownBy (w.setCell ⟨g, o, none⟩ v) (some g) :=
  ⟨rfl, rfl, rfl, by simp, fun k _ hk => Below.heap_setCell w ⟨g, o, none⟩ v k (fun e => hk (by rw [e]))⟩
theorem byteCells_app (a b : List UInt8) : Lib.byteCells (a ++ b) = Lib.byteCells a ++ Lib.byteCells b := by simp [Lib.byteCells]

def joinAll (ss : List ByteArray) : List UInt8 := ss.flatMap fun s => s.data.toList
theorem joinAll_snoc (ss : List ByteArray) (j : Nat) (hj : j < ss.length) : joinAll (ss.take (j + 1)) = joinAll (ss.take j) ++ ss[j].data.toList := by
  rw [List.take_succ_eq_append_getElem hj]; simp only [joinAll, List.flatMap_append, List.flatMap_cons, List.flatMap_nil, List.append_nil]
theorem joinAll_take_le (ss : List ByteArray) (j : Nat) : (joinAll (ss.take j)).length ≤ (joinAll ss).length := by
  have : joinAll ss = joinAll (ss.take j) ++ joinAll (ss.drop j) := by rw [joinAll, joinAll, joinAll, ← List.flatMap_append, List.take_append_drop]
  rw [this, List.length_append]; omega

set_option maxRecDepth 100000 in
set_option maxHeartbeats 2000000 in
theorem put_any (pb base b : Nat) (ss : List ByteArray) (bs : List UInt8) (bare : Bool) (v : Value) (w : World) (hP : Pr pb base bs bare v w) (hpb : pb < base) (hB : base ≤ w.heap.size) (hbb : base ≤ b)
    (hrow : w.heap[b]? = some (.cells (ss.map Value.string).toArray 9 (0, 0))) (hl : bs.length + (joinAll ss).length ≤ 60000) (hk : ss.length ≤ 1000) :
    Calls Tryz.prog 96 #[.pointer (some ⟨pb, 0, none⟩), .slice (some ⟨b, 0, none⟩) ss.length ss.length] w fun e w' => (∃ u, e = .returned u) ∧ ∃ v', Pr pb base (bs ++ joinAll ss) bare v' w' ∧ PK pb base w w' := by
  obtain ⟨i0, hi, hz0, hz1, hz2⟩ := info_parts info5
  go_enter Tryz.func96, Tryz.ntmps96
  go_wp2_with fail
  go_loopg [8] ss.length (fun gk i wr => ∃ (j : Nat) (v : Value), gk + j = ss.length ∧ i = .int .i64 j ∧ Pr pb base (bs ++ joinAll (ss.take j)) bare v wr ∧ PK pb base w wr)
  case atStart => exact ⟨0, v, rfl, rfl, by simpa [joinAll] using hP, PK.refl _ _ _⟩
  case round =>
    obtain ⟨j, v, hj, rfl, hP', hK⟩ := hrel
    by_cases hlt : j < ss.length
    · have hrow' := hK.high b _ 9 _ (by omega) hrow (by decide)
      have hs : wr.cell? ⟨b, j, none⟩ = some (.string ss[j]) := by simp [World.cell?, hrow', hlt]
      have hjn := joinAll_snoc ss j hlt
      have hle := joinAll_take_le ss (j + 1)
      rw [hjn, List.length_append] at hle
      have HJ : Hid (joinAll (ss.take (j + 1)) = joinAll (ss.take j) ++ ss[j].data.toList) := hjn
      have hsz : ss[j].data.toList.length = ss[j].size := by simp
      rw [hsz] at hle
      clear hsz
      generalize ss[j] = s at hs HJ hle
      obtain ⟨X, hX⟩ : ∃ X, X = bs ++ joinAll (ss.take j) := ⟨_, rfl⟩
      rw [← hX] at hP'
      have hXl : X.length = bs.length + (joinAll (ss.take j)).length := by rw [hX, List.length_append]
      have hlen : X.length ≤ 60000 := by omega
      have hl2 : X.length + s.size ≤ 60000 := by omega
      have HX : Hid (X = bs ++ joinAll (ss.take j)) := hX
      clear hX hXl
      obtain ⟨p, cap, rfl⟩ := hP'.form
      have hc := hP'.cell
      have hfz := hP'.frozen 0
      have hbz := hK.size
      have hown := hP'.own
      have HP : Hid (Pr pb base X bare (.slice p X.length cap) wr) := hP'
      have HG : Hid (gk + j = ss.length) := hj
      clear hjn hj hrow' hP'
      go_wp2_with (first
        | (go_at_call 42; refine (isFull_any pb base _ bare _ _ HP.out hlen).mono ?_; rintro e w1 ⟨rfl, rfl⟩)
        | (at_builtin; refine Lib.wpList_append_own_string _ rfl _ _ 82 9 rfl base 5 i0 Tryz.underlying82 Tryz.underlying9 hi hz0 hz1 hz2 _ _ _ rfl hown s rfl (by unfold maxLen; omega) (by omega) (by omega) ?_; intro v' w3 hown3 hgr3 _
           have hK3 : PK pb base _ w3 := PK.grown hown hgr3 (by omega)
           have hrow3 : w3.heap[pb]? = some (.cells #[.slice p X.length cap, .int .i64 0, .bool bare] 84 (0, 0)) := (hgr3.block pb (by omega) (fun e => by have := (hown.lt pb e.symm).1; omega)).trans HP.out.row
           have hc3 : w3.cell? ⟨pb, 0, none⟩ = some (.slice p X.length cap) := by simp [World.cell?, hrow3]
           have hf3 : w3.frozen? ⟨pb, 0, none⟩ = false := by simp [World.frozen?, hrow3]
           have HR3 : Hid (w3.heap[pb]? = some (.cells #[.slice p X.length cap, .int .i64 0, .bool bare] 84 (0, 0))) := hrow3
           have HO3 : Hid (w3.ownsRow base 5 1 v' (X.length + s.size) (Lib.byteCells X ++ Lib.strCells s)) := hown3
           obtain ⟨p', cap', rfl⟩ := ownsRow_slice hown3
           clear hrow3 hown3 hgr3))
      go_roundg (ss.length - (j + 1))
      case measure => have := HG.out; omega
      case rel =>
        refine ⟨j + 1, _, by omega, by go_num, ⟨heap_set HR3.out 0 _, ?_⟩, (hK.trans hK3).trans (PK.set pb base w3 0 _)⟩
        have h1 := HO3.out.kept (grownBy_set' w3 pb 0 (.slice p' (X.length + s.size) cap')) (.inr (fun e => by have := (HO3.out.lt pb e).1; omega))
        rw [HJ.out, ← List.append_assoc, ← HX.out, List.length_append, byteCells_app]
        simpa [Lib.strCells, Lib.byteCells] using h1
    · have hjl : j = ss.length := by omega
      subst hjl
      rw [List.take_length] at hP'
      go_wp2_with fail
      go_end0
      exact ⟨⟨_, rfl⟩, v, hP', hK⟩
end Go.Proofs.YthbnegggohegkaaGreatDoor
