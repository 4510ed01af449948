/-
  Which data are right, and how large they are; the walk of rightItems.
  When two data are the same.
-/
import Derived.Test.YtnhbpcmiolkllabDoorEcJ
namespace Go.Proofs.YtnhbpcmiolkllabDoor
open Go.RowKit
attribute [local go_sem] refold2 cell3_0 cell3_1 b28_0 b28_01

/-- What a kind asks besides. -/
def kindB (h : Hd) : Bool :=
  if h.k = 1 then (h.n == 0 || h.n == 1) else if h.k = 3 then (h.f == 9221120237041090561 || !isNan h.f.toNat) else if h.k = 4 then decide (h.s.size ≤ 65536)
  else if h.k = 5 then pieceB h.r0 h.r1 h.r2 h.r3 else if h.k = 6 then objB h.r0 else if h.k = 7 then objB h.r0 else if h.k = 9 then targetB h.r0 h.path else true
/-- May a datum be so, but for its Items? -/
def headOK (h : Hd) (il : Nat) : Bool := tyB h.k h.t && zeroK h.k h.n h.f h.s h.r0 h.r1 h.r2 h.r3 h.path.length il && kindB h
/-- How large a datum is. -/
def MD.size : Nat → MD → Nat
  | 0, _ => 1
  | n + 1, d => 1 + (if d.h.k = 8 then (d.items.map (MD.size n)).sum else 0)
/-- May it be, but for how large it is? -/
def MD.full : Nat → MD → Bool
  | 0, _ => false
  | n + 1, d => headOK d.h d.items.length && (d.h.k != 8 || (decide (d.items.length ≤ 30) && d.items.all (MD.full n)))

theorem MD.size_pos (n : Nat) (d : MD) : 1 ≤ MD.size n d := by cases n <;> simp [MD.size]
theorem sum_take_succ {α : Type} (g : α → Nat) (l : List α) (i : Nat) (hi : i < l.length) : ((l.take (i + 1)).map g).sum = ((l.take i).map g).sum + g l[i] := by
  rw [List.take_succ_eq_append_getElem hi, List.map_append, List.sum_append]; simp
theorem sum_take_le {α : Type} (g : α → Nat) (l : List α) (i : Nat) : ((l.take i).map g).sum ≤ (l.map g).sum := by
  have : (l.map g).sum = ((l.take i).map g).sum + ((l.drop i).map g).sum := by rw [← List.sum_append, ← List.map_append, List.take_append_drop]
  omega

/-- The room that is left lies in a variable. -/
structure RoomAt (w : World) (b : Nat) (rm : Int) : Prop where
  c : w.cell? ⟨b, 0, none⟩ = some (.int .i64 rm)
  f : w.frozen? ⟨b, 0, none⟩ = false
  lt : b < w.heap.size
theorem RoomAt.kept {w W : World} {b : Nat} {rm : Int} (h : RoomAt w b rm) (hb : Below w.heap.size w W) : RoomAt W b rm :=
  ⟨(hb.cell (p := ⟨b, 0, none⟩) h.lt).trans h.c, (hb.frozen (p := ⟨b, 0, none⟩) h.lt).trans h.f, Nat.lt_of_lt_of_le h.lt hb.size⟩
theorem NamesAt.under {w W : World} {b : Nat} (h : NamesAt w) (h0 : 0 < b) (hb : Below b w W) : NamesAt W := ⟨fun j => (hb.cell (p := ⟨0, j, none⟩) h0).trans (h.cells j), Nat.lt_of_lt_of_le h.lt hb.size⟩

/-- A datum's Items lie in memory below B. -/
def MD.ItemsIn (B : Nat) (w : World) (n : Nat) (d : MD) : Prop :=
  d.items = [] ∨ ∃ b o, d.ip = some ⟨b, o, none⟩ ∧ b < B ∧ ∀ (i : Nat) (hi : i < d.items.length), MD.CellsAt w b (o + i * 11) d.items[i] ∧ MD.In B w n d.items[i]
theorem MD.In.items {B : Nat} {w : World} {n : Nat} {d : MD} (h : MD.In B w (n + 1) d) : MD.ItemsIn B w n d := h.2.2.2.2
theorem MD.ItemsIn.below {B : Nat} {w w' : World} {n : Nat} {d : MD} (h : MD.ItemsIn B w n d) (hb : Below B w w') : MD.ItemsIn B w' n d := by
  rcases h with e | ⟨b, o, e1, e2, e3⟩
  · exact .inl e
  · exact .inr ⟨b, o, e1, e2, fun i hi => ⟨(e3 i hi).1.below e2 hb, MD.In.below hb n _ (e3 i hi).2⟩⟩

/-- A call answers whether something may be and there is room for it; the room is then less by its size. -/
def RightP (fu : Bool) (z : Nat) (b : Nat) (rm : Int) (w : World) (r : Ending) (w' : World) : Prop :=
  ∃ (x : Bool) (rm' : Int), r = .returned (.bool x) ∧ Below b w w' ∧ RoomAt w' b rm' ∧ x = (fu && decide ((z : Int) ≤ rm)) ∧ (x = true → rm' = rm - z)
/-- What a call of right does. -/
def RightC (n : Nat) : Prop := ∀ (d : MD) (b : Nat) (rm : Int) (w : World), NamesAt w → 0 < b → RoomAt w b rm → 0 ≤ rm → rm ≤ 100 → MD.In b w n d →
  Calls Tryd.prog 22 #[d.val, .pointer (some ⟨b, 0, none⟩)] w (RightP (MD.full n d) (MD.size n d) b rm w)
/-- What a call of rightItems does. -/
def ItemsC (n : Nat) : Prop := ∀ (d : MD) (b : Nat) (rm : Int) (w : World), NamesAt w → 0 < b → RoomAt w b rm → 0 ≤ rm → rm ≤ 100 → MD.ItemsIn b w n d → d.items.length ≤ d.ic → d.ic ≤ maxLen →
  Calls Tryd.prog 40 #[.slice d.ip d.items.length d.ic, .pointer (some ⟨b, 0, none⟩)] w (RightP (decide (d.items.length ≤ 30) && d.items.all (MD.full n)) (d.items.map (MD.size n)).sum b rm w)

set_option maxRecDepth 100000 in
set_option maxHeartbeats 2000000 in
theorem rightItems_step (n : Nat) (hI : RightC n) : ItemsC n := by
  intro d b rm w hN hb0 hR h0 h1 hin hl1 hl2
  obtain ⟨h, ip, ic, items⟩ := d
  simp only at *
  have HI : Hid (RightC n) := hI
  clear hI
  unfold maxLen at hl2
  by_cases h30 : 30 < items.length
  · have h30' : (30 : Int) < items.length := by omega
    have e : decide (items.length ≤ 30) = false := by simpa using h30
    rw [e]
    clear e
    go_enter Tryd.func40, Tryd.ntmps40
    go_wp2_with fail
    go_ret
    exact ⟨false, rm, rfl, Below.refl _ _, hR, rfl, fun h => by cases h⟩
  · have h30' : ¬ (30 : Int) < items.length := by omega
    have e : decide (items.length ≤ 30) = true := by simpa using h30
    rw [e]
    simp only [Bool.true_and]
    clear e
    have HH : Hid (NamesAt w ∧ MD.ItemsIn b w n ⟨h, ip, ic, items⟩) := ⟨hN, hin⟩
    have HR : Hid (RoomAt w b rm) := hR
    clear hN hin hR
    go_enter Tryd.func40, Tryd.ntmps40
    go_wp2_with fail
    go_loopw [12] (fun i wr => ∃ (k : Nat) (rk : Int), k ≤ items.length ∧ i = .int .i64 k ∧ 0 ≤ rk ∧ rk ≤ 100 ∧ Hid (RoomAt wr b rk ∧ Below b w wr ∧ (items.take k).all (MD.full n) = true ∧ rk = rm - ((items.take k).map (MD.size n)).sum)) (fun i _ => items.length - (intOf i).toNat)
    case atStart => exact ⟨0, rm, Nat.zero_le _, rfl, h0, h1, HR.out, Below.refl _ _, rfl, by simp⟩
    case round =>
      obtain ⟨k, rk, hk, rfl, hk0, hk1, hk2⟩ := hrel
      by_cases hlt : k < items.length
      · have i1 : (k : Int) < items.length := by omega
        obtain ⟨bb, o, rfl, hbB, hC, hIn⟩ : ∃ bb o, ip = some ⟨bb, o, none⟩ ∧ bb < b ∧ MD.CellsAt wr bb (o + k * 11) items[k] ∧ MD.In b wr n items[k] := by
          rcases HH.out.2.below hk2.out.2.1 with e | ⟨bb, o, e1, e2, e3⟩
          · have e' : items = [] := e
            rw [e'] at hlt; simp at hlt
          · exact ⟨bb, o, e1, e2, e3 k hlt⟩
        have HS : Hid (((items.take (k + 1)).map (MD.size n)).sum = ((items.take k).map (MD.size n)).sum + MD.size n items[k]) := sum_take_succ _ _ _ hlt
        have HL : Hid (((items.take (k + 1)).map (MD.size n)).sum ≤ (items.map (MD.size n)).sum) := sum_take_le _ _ _
        have HT : Hid ((items.take (k + 1)).all (MD.full n) = MD.full n items[k]) := by
          show _ = _
          rw [List.take_succ_eq_append_getElem hlt, List.all_append, hk2.out.2.2.1]; simp
        have HA : Hid (MD.full n items[k] = false → items.all (MD.full n) = false) := fun hz => by
          rw [List.all_eq_false]; exact ⟨items[k], List.getElem_mem hlt, by rw [hz]; exact Bool.false_ne_true⟩
        generalize items[k] = kid at hC hIn HS HT HA
        obtain ⟨⟨k0, k1, k2, k3, k4, k5, k6, k7, k8, kp, kpath, kpc⟩, kip, kic, kit⟩ := kid
        have c0 : wr.cell? ⟨bb, o + k * 11, none⟩ = some (.int .i64 k0) := hC 0 (by omega)
        have c1 : wr.cell? ⟨bb, o + k * 11 + 1, none⟩ = some (.string k1) := hC 1 (by omega)
        have c2 : wr.cell? ⟨bb, o + k * 11 + 2, none⟩ = some (.int .i64 k2) := hC 2 (by omega)
        have c3 : wr.cell? ⟨bb, o + k * 11 + 3, none⟩ = some (.int .u64 k3) := hC 3 (by omega)
        have c4 : wr.cell? ⟨bb, o + k * 11 + 4, none⟩ = some (.string k4) := hC 4 (by omega)
        have c5 : wr.cell? ⟨bb, o + k * 11 + 5, none⟩ = some (.int .i64 k5) := hC 5 (by omega)
        have c6 : wr.cell? ⟨bb, o + k * 11 + 6, none⟩ = some (.int .i64 k6) := hC 6 (by omega)
        have c7 : wr.cell? ⟨bb, o + k * 11 + 7, none⟩ = some (.int .i64 k7) := hC 7 (by omega)
        have c8 : wr.cell? ⟨bb, o + k * 11 + 8, none⟩ = some (.int .i64 k8) := hC 8 (by omega)
        have c9 : wr.cell? ⟨bb, o + k * 11 + 9, none⟩ = some (.slice kp kpath.length kpc) := hC 9 (by omega)
        have c10 : wr.cell? ⟨bb, o + k * 11 + 10, none⟩ = some (.slice kip kit.length kic) := hC 10 (by omega)
        have HC : Hid (∀ W, Below wr.heap.size wr W → Calls Tryd.prog 22 #[.agg #[.int .i64 k0, .string k1, .int .i64 k2, .int .u64 k3, .string k4, .int .i64 k5, .int .i64 k6, .int .i64 k7, .int .i64 k8, .slice kp kpath.length kpc, .slice kip kit.length kic], .pointer (some ⟨b, 0, none⟩)] W (RightP (MD.full n ⟨⟨k0, k1, k2, k3, k4, k5, k6, k7, k8, kp, kpath, kpc⟩, kip, kic, kit⟩) (MD.size n ⟨⟨k0, k1, k2, k3, k4, k5, k6, k7, k8, kp, kpath, kpc⟩, kip, kic, kit⟩) b rk W)) := fun W hW => by
          obtain ⟨q1, q2, q3, q4⟩ := hk2.out
          have hbW : Below b wr W := hW.mono (Nat.le_of_lt q1.lt)
          exact (HI.out ⟨⟨k0, k1, k2, k3, k4, k5, k6, k7, k8, kp, kpath, kpc⟩, kip, kic, kit⟩ b rk W (HH.out.1.under hb0 (q2.trans hbW)) hb0 (q1.kept hW) hk0 hk1 (MD.In.below hbW n _ hIn))
        clear hC hIn HI
        generalize MD.size n ⟨⟨k0, k1, k2, k3, k4, k5, k6, k7, k8, kp, kpath, kpc⟩, kip, kic, kit⟩ = zk at HC HS
        generalize MD.full n ⟨⟨k0, k1, k2, k3, k4, k5, k6, k7, k8, kp, kpath, kpc⟩, kip, kic, kit⟩ = fk at HC HT HA
        go_wp2_with (go_at_call 22; refine (HC.out _ (below1 _ _)).mono ?_; rintro r w2 ⟨x, rm2, rfl, hx'⟩; have hx : Hid (Below b _ w2 ∧ RoomAt w2 b rm2 ∧ x = (fk && decide ((zk : Int) ≤ rk)) ∧ (x = true → rm2 = rk - zk)) := hx'; clear hx'; cases x)
        · go_ret
          obtain ⟨q1, q2, q3, q4⟩ := hk2.out
          obtain ⟨g1, g2, g3, g4⟩ := hx.out
          have gB : Below b w w2 := q2.trans (((below1 wr _).mono (Nat.le_of_lt q1.lt)).trans g1)
          refine ⟨false, rm2, rfl, gB, g2, ?_, fun h => by cases h⟩
          cases hf : fk with
          | false => rw [HA.out hf]; rfl
          | true =>
            rw [hf, Bool.true_and] at g3
            have g5 : ¬ (zk : Int) ≤ rk := by simpa using g3
            have e : decide (((items.map (MD.size n)).sum : Int) ≤ rm) = false := by
              have := HS.out; have := HL.out
              simp only [decide_eq_false_iff_not]; omega
            rw [e, Bool.and_false]
        · obtain ⟨q1, q2, q3, q4⟩ := hk2.out
          obtain ⟨g1, g2, g3, g4⟩ := hx.out
          have gB : Below b w w2 := q2.trans (((below1 wr _).mono (Nat.le_of_lt q1.lt)).trans g1)
          have g5 : rm2 = rk - zk := by simpa using g4
          have g6 := g3.symm
          rw [Bool.and_eq_true, decide_eq_true_eq] at g6
          have g7 := HS.out
          refine ⟨⟨k + 1, rm2, hlt, by go_num, by omega, by omega, g2, gB, ?_, by omega⟩, by simp [intOf]; omega⟩
          rw [HT.out]; exact g6.1
      · obtain rfl : k = items.length := by omega
        have hnl : ¬ (items.length : Int) < items.length := by omega
        go_wp2_with fail
        go_ret
        obtain ⟨q1, q2, q3, q4⟩ := hk2.out
        rw [List.take_of_length_le (Nat.le_refl _)] at q3 q4
        refine ⟨true, rk, rfl, q2, q1, ?_, fun _ => q4⟩
        rw [q3, Bool.true_and]
        have : ((items.map (MD.size n)).sum : Int) ≤ rm := by omega
        simpa using this
end Go.Proofs.YtnhbpcmiolkllabDoor
namespace Go.Proofs.YtnhbpcmiolkllabDoor
open Go.RowKit

/-- Two lists, one by one, as far as both go. -/
def all2 {α : Type} (p : α → α → Bool) : List α → List α → Bool
  | [], _ => true
  | _ :: _, [] => true
  | x :: xs, y :: ys => p x y && all2 p xs ys
theorem all2_snoc {α : Type} (p : α → α → Bool) : ∀ (xs ys : List α) (k : Nat) (hx : k < xs.length) (hy : k < ys.length), all2 p (xs.take (k + 1)) (ys.take (k + 1)) = (all2 p (xs.take k) (ys.take k) && p xs[k] ys[k])
  | x :: xs, y :: ys, 0, _, _ => by simp [all2]
  | x :: xs, y :: ys, k + 1, hx, hy => by
    have := all2_snoc p xs ys k (by simpa using hx) (by simpa using hy)
    simp only [List.take_succ_cons, List.getElem_cons_succ, all2]
    rw [this, Bool.and_assoc]
theorem all2_take {α : Type} (p : α → α → Bool) : ∀ (xs ys : List α) (k : Nat), all2 p (xs.take k) (ys.take k) = false → all2 p xs ys = false
  | [], ys, k, h => by simp [all2] at h
  | x :: xs, [], k, h => by cases k <;> simp [all2] at h
  | x :: xs, y :: ys, 0, h => by simp [all2] at h
  | x :: xs, y :: ys, k + 1, h => by
    simp only [List.take_succ_cons, all2, Bool.and_eq_false_iff] at h ⊢
    rcases h with h | h
    · exact .inl h
    · exact .inr (all2_take p xs ys k h)
/-- Two heads. -/
def sameH (a b : Hd) (il jl : Nat) : Bool := decide (a.k = b.k ∧ a.t = b.t ∧ a.n = b.n ∧ a.f = b.f ∧ a.s = b.s ∧ a.r0 = b.r0 ∧ a.r1 = b.r1 ∧ a.r2 = b.r2 ∧ a.r3 = b.r3 ∧ a.path.length = b.path.length ∧ il = jl)
/-- Two data. -/
def MD.same : Nat → MD → MD → Bool
  | 0, _, _ => true
  | n + 1, a, b => sameH a.h b.h a.items.length b.items.length && decide (a.h.path = b.h.path) && all2 (MD.same n) a.items b.items
theorem byteArray_ext {s t : ByteArray} (h : s.toList = t.toList) : s = t := by
  rw [Lib.toList_data, Lib.toList_data] at h
  exact ByteArray.ext (Array.toList_inj.1 h)
theorem kept2 {w W : World} {c d : Array Value} {t u : TypeId} (b : Below ((w.alloc (.cells c t)).alloc (.cells d u)).heap.size ((w.alloc (.cells c t)).alloc (.cells d u)) W) : Below w.heap.size w W ∧ (∀ j, W.cell? ⟨w.heap.size, j, none⟩ = c[j]?) ∧ ∀ j, W.cell? ⟨w.heap.size + 1, j, none⟩ = d[j]? :=
  ⟨(below2 w _ _).trans (b.mono (by simp; omega)), fun j => by
    rw [b.cell (p := ⟨w.heap.size, j, none⟩) (by simp; omega), World.cell?_alloc_lt _ _ _ (by simp)]; exact row_at (heap_alloc_new _ _) j, fun j => by
    rw [b.cell (p := ⟨w.heap.size + 1, j, none⟩) (by simp)]; exact row_at (heap2_1 _ _ _) j⟩
def PathRel (path path' : List Int) (W2 : World) (i : Value) (wr : World) : Prop := ∃ j : Nat, j ≤ path.length ∧ i = .int .i64 j ∧ path.take j = path'.take j ∧ Below W2.heap.size W2 wr
def SameRel (n : Nat) (items items' : List MD) (W2 : World) (i : Value) (wr : World) : Prop := ∃ j : Nat, j ≤ items.length ∧ i = .int .i64 j ∧ all2 (MD.same n) (items.take j) (items'.take j) = true ∧ Below W2.heap.size W2 wr
end Go.Proofs.YtnhbpcmiolkllabDoor
