/-
  How wide a datum is: the law's own count.
  When two data are the same.
-/
import Derived.Test.YtnhbpcmiolkllaaDoorEdJ
namespace Go.Proofs.YtnhbpcmiolkllaaDoor
open Go.RowKit
attribute [local go_sem] refold2 cell3_0 cell3_1 b28_0 b28_01

/-- No text, path or list of a datum is longer than R. -/
def MD.Small (R : Nat) : Nat → MD → Prop
  | 0, _ => True
  | n + 1, d => d.h.t.size ≤ R ∧ d.h.s.size ≤ R ∧ d.h.path.length ≤ R ∧ d.items.length ≤ R ∧ ∀ x ∈ d.items, MD.Small R n x
/-- A datum's count. -/
def MD.wd : Nat → MD → Nat
  | 0, _ => 1
  | n + 1, d => 1 + d.h.path.length + (d.items.map (MD.wd n)).sum
theorem MD.wd_pos (n : Nat) (d : MD) : 1 ≤ MD.wd n d := by cases n <;> simp [MD.wd]; omega

/-- What wide answers: the count, if it is at most the most; else more than that. -/
def WideP (z : Nat) (most : Int) (w : World) (r : Ending) (w' : World) : Prop := ∃ x : Int, r = .returned (.int .i64 x) ∧ 1 ≤ x ∧ x ≤ most + 140737488355330 ∧ (x ≤ most → x = z) ∧ Below w.heap.size w w'
def WideRel (n : Nat) (m0 : Int) (most : Int) (items : List MD) (w : World) (c : Array Value) (x i : Value) (wr : World) : Prop :=
  ∃ (k : Nat) (m : Int), k ≤ items.length ∧ i = .int .i64 k ∧ x = .int .i64 m ∧ 1 ≤ m ∧ m ≤ most + 140737488355330 ∧ (m ≤ most → m = m0 + ((items.take k).map (MD.wd n)).sum) ∧ Below (w.heap.size + 1) (w.alloc (.cells c 28)) wr

set_option maxRecDepth 100000 in
set_option maxHeartbeats 2000000 in
theorem wide_any : ∀ (n : Nat) (d : MD) (most : Int) (w : World), 0 ≤ most → most ≤ 5000 → MD.Small 140737488355328 n d → MD.In w.heap.size w n d → Calls Tryd.prog 12 #[d.val, .int .i64 most] w (WideP (MD.wd n d) most w)
  | 0, _, _, _, _, _, _, h => h.elim
  | n + 1, d, most, w, hm0, hm1, hsm, hin => by
    have HI : Hid (∀ (d : MD) (most : Int) (w : World), 0 ≤ most → most ≤ 5000 → MD.Small 140737488355328 n d → MD.In w.heap.size w n d → Calls Tryd.prog 12 #[d.val, .int .i64 most] w (WideP (MD.wd n d) most w)) := fun d most w a b c e => wide_any n d most w a b c e
    have hits := hin.items
    clear hin
    obtain ⟨⟨k, t, a, f, s, r0, r1, r2, r3, pp, path, pc⟩, ip, ic, items⟩ := d
    obtain ⟨_, _, hs3, hs4, hs5⟩ := hsm
    simp only at hs3 hs4
    simp only [MD.val, D, MD.wd]
    obtain ⟨Z, hZ⟩ : ∃ Z, Z = 1 + path.length + (items.map (MD.wd n)).sum := ⟨_, rfl⟩
    rw [← hZ]
    have HZ : Hid (Z = 1 + path.length + (items.map (MD.wd n)).sum) := hZ
    have HT : Hid (MD.ItemsIn w.heap.size w n ⟨⟨k, t, a, f, s, r0, r1, r2, r3, pp, path, pc⟩, ip, ic, items⟩) := hits
    have HSm : Hid (∀ x ∈ items, MD.Small 140737488355328 n x) := hs5
    clear hZ hits hs5
    have hpi : (path.length : Int) ≤ 140737488355328 := by omega
    have hii : (items.length : Int) ≤ 140737488355328 := by omega
    clear hs3 hs4
    go_enter Tryd.func12, Tryd.ntmps12
    go_wp2_with fail
    go_loopw [5, 6] (fun x i wr => WideRel n (1 + path.length) most items w #[.int .i64 k, .string t, .int .i64 a, .int .u64 f, .string s, .int .i64 r0, .int .i64 r1, .int .i64 r2, .int .i64 r3, .slice pp path.length pc, .slice ip items.length ic] x i wr) (fun _ i _ => items.length - (intOf i).toNat)
    case atStart => exact ⟨0, 1 + path.length, Nat.zero_le _, rfl, rfl, by omega, by omega, fun _ => by simp, Below.refl _ _⟩
    case round =>
      obtain ⟨k', m, hk, rfl, rfl, hq0, hq1, hq2, hb⟩ := hrel
      have HM : Hid (m ≤ most → m = 1 + path.length + ((items.take k').map (MD.wd n)).sum) := hq2
      clear hq2
      have hcell : wr.cell? ⟨w.heap.size, 10, none⟩ = some (.slice ip items.length ic) := (hb.cell (p := ⟨w.heap.size, 10, none⟩) (Nat.lt_succ_self _)).trans (row_at (heap_alloc_new _ _) 10)
      have HB : Hid (Below (w.heap.size + 1) (w.alloc (.cells #[.int .i64 k, .string t, .int .i64 a, .int .u64 f, .string s, .int .i64 r0, .int .i64 r1, .int .i64 r2, .int .i64 r3, .slice pp path.length pc, .slice ip items.length ic] 28)) wr) := hb
      have HB0 : Hid (Below w.heap.size w wr) := (below1 _ _).trans (hb.mono (by omega))
      have hz := hb.size
      simp only [World.size_alloc] at hz
      clear hb
      by_cases hgo : k' < items.length ∧ m ≤ most
      · obtain ⟨hlt, hmm⟩ := hgo
        have i1 : (k' : Int) < items.length := by omega
        obtain ⟨bb, o, rfl, hbB, hC, hIn⟩ : ∃ bb o, ip = some ⟨bb, o, none⟩ ∧ bb < w.heap.size ∧ MD.CellsAt wr bb (o + k' * 11) items[k'] ∧ MD.In w.heap.size wr n items[k'] := by
          rcases MD.ItemsIn.below HT.out HB0.out with e | ⟨bb, o, e1, e2, e3⟩
          · have e' : items = [] := e
            rw [e'] at hlt; simp at hlt
          · exact ⟨bb, o, e1, e2, e3 k' hlt⟩
        have HS : Hid (((items.take (k' + 1)).map (MD.wd n)).sum = ((items.take k').map (MD.wd n)).sum + MD.wd n items[k']) := sum_take_succ _ _ _ hlt
        have HW : Hid (MD.Small 140737488355328 n items[k']) := HSm.out _ (List.getElem_mem hlt)
        generalize items[k'] = kid at hC hIn HS HW
        obtain ⟨⟨k0, k1, k2, k3, k4, k5, k6, k7, k8, kp, kpath, kpc⟩, kip, kic, kit⟩ := kid
        have c0 : wr.cell? ⟨bb, o + k' * 11, none⟩ = some (.int .i64 k0) := hC 0 (by omega)
        have c1 : wr.cell? ⟨bb, o + k' * 11 + 1, none⟩ = some (.string k1) := hC 1 (by omega)
        have c2 : wr.cell? ⟨bb, o + k' * 11 + 2, none⟩ = some (.int .i64 k2) := hC 2 (by omega)
        have c3 : wr.cell? ⟨bb, o + k' * 11 + 3, none⟩ = some (.int .u64 k3) := hC 3 (by omega)
        have c4 : wr.cell? ⟨bb, o + k' * 11 + 4, none⟩ = some (.string k4) := hC 4 (by omega)
        have c5 : wr.cell? ⟨bb, o + k' * 11 + 5, none⟩ = some (.int .i64 k5) := hC 5 (by omega)
        have c6 : wr.cell? ⟨bb, o + k' * 11 + 6, none⟩ = some (.int .i64 k6) := hC 6 (by omega)
        have c7 : wr.cell? ⟨bb, o + k' * 11 + 7, none⟩ = some (.int .i64 k7) := hC 7 (by omega)
        have c8 : wr.cell? ⟨bb, o + k' * 11 + 8, none⟩ = some (.int .i64 k8) := hC 8 (by omega)
        have c9 : wr.cell? ⟨bb, o + k' * 11 + 9, none⟩ = some (.slice kp kpath.length kpc) := hC 9 (by omega)
        have c10 : wr.cell? ⟨bb, o + k' * 11 + 10, none⟩ = some (.slice kip kit.length kic) := hC 10 (by omega)
        have HC : Hid (Calls Tryd.prog 12 #[.agg #[.int .i64 k0, .string k1, .int .i64 k2, .int .u64 k3, .string k4, .int .i64 k5, .int .i64 k6, .int .i64 k7, .int .i64 k8, .slice kp kpath.length kpc, .slice kip kit.length kic], .int .i64 (most - m)] wr (WideP (MD.wd n ⟨⟨k0, k1, k2, k3, k4, k5, k6, k7, k8, kp, kpath, kpc⟩, kip, kic, kit⟩) (most - m) wr)) :=
          HI.out ⟨⟨k0, k1, k2, k3, k4, k5, k6, k7, k8, kp, kpath, kpc⟩, kip, kic, kit⟩ (most - m) wr (by omega) (by omega) HW.out (MD.In.mono (by omega) n _ hIn)
        clear hC hIn HI HW
        generalize MD.wd n ⟨⟨k0, k1, k2, k3, k4, k5, k6, k7, k8, kp, kpath, kpc⟩, kip, kic, kit⟩ = zk at HC HS
        go_wp2_with (go_at_call 12; refine HC.out.mono ?_; rintro r w2 ⟨x, rfl, hx0, hx1, hx2, b2⟩; have HX : Hid ((x ≤ most - m → x = zk) ∧ Below wr.heap.size wr w2) := ⟨hx2, b2⟩; clear hx2 b2)
        obtain ⟨g1, g2⟩ := HX.out
        have g3 := HS.out
        have g4 := HM.out hmm
        refine ⟨⟨k' + 1, m + x, hlt, by go_num, rfl, by omega, by omega, fun h => by have := g1 (by omega); omega, HB.out.trans (g2.mono (by omega))⟩, by simp [intOf]; omega⟩
      · by_cases hlt : k' < items.length
        · have hmm : ¬ m ≤ most := fun h => hgo ⟨hlt, h⟩
          have i1 : (k' : Int) < items.length := by omega
          clear hgo
          go_wp2_with fail
          go_ret
          exact ⟨m, rfl, by omega, by omega, fun h => by omega, HB0.out⟩
        · have i1 : ¬ (k' : Int) < items.length := by omega
          have hk2 : k' = items.length := by omega
          have HM2 : Hid (m ≤ most → m = Z) := fun h => by
            have h1 := HM.out h
            rw [hk2, List.take_of_length_le (Nat.le_refl _)] at h1
            have := HZ.out
            omega
          clear hgo hk2
          go_wp2_with fail
          go_ret
          exact ⟨m, rfl, by omega, by omega, HM2.out, HB0.out⟩
end Go.Proofs.YtnhbpcmiolkllaaDoor
namespace Go.Proofs.YtnhbpcmiolkllaaDoor
open Go.RowKit

/-- Two lists, one by one, as far as both go. -/
def all2 {α : Type} (p : α → α → Bool) : List α → List α → Bool
  | [], _ => true
  | _ :: _, [] => true
  | x :: xs, y :: ys => p x y && all2 p xs ys
theorem all2_snoc {α : Type} (p : α → α → Bool) : ∀ (xs ys : List α) (k : Nat) (hx : k < xs.length) (hy : k < ys.length), all2 p (xs.take (k + 1)) (ys.take (k + 1)) = (all2 p (xs.take k) (ys.take k) && p xs[k] ys[k])
  | x :: xs, y :: ys, 0, _, _ => by simp [all2]
  | x :: xs, y :: ys, k + 1, hx, hy => by
    have := all2_snoc p xs ys k (by simpa using hx) (by simpa using hy)
    simp only [List.take_succ_cons, List.getElem_cons_succ, all2]
    rw [this, Bool.and_assoc]
theorem all2_take {α : Type} (p : α → α → Bool) : ∀ (xs ys : List α) (k : Nat), all2 p (xs.take k) (ys.take k) = false → all2 p xs ys = false
  | [], ys, k, h => by simp [all2] at h
  | x :: xs, [], k, h => by cases k <;> simp [all2] at h
  | x :: xs, y :: ys, 0, h => by simp [all2] at h
  | x :: xs, y :: ys, k + 1, h => by
    simp only [List.take_succ_cons, all2, Bool.and_eq_false_iff] at h ⊢
    rcases h with h | h
    · exact .inl h
    · exact .inr (all2_take p xs ys k h)
theorem all2_comm {α : Type} (p : α → α → Bool) (hp : ∀ x y, p x y = p y x) : ∀ (xs ys : List α), all2 p xs ys = all2 p ys xs
  | [], [] => rfl
  | [], _ :: _ => rfl
  | _ :: _, [] => rfl
  | x :: xs, y :: ys => by simp only [all2]; rw [hp x y, all2_comm p hp xs ys]

/-- Two heads. -/
def sameH (a b : Hd) (il jl : Nat) : Bool := decide (a.k = b.k ∧ a.t = b.t ∧ a.n = b.n ∧ a.f = b.f ∧ a.s = b.s ∧ a.r0 = b.r0 ∧ a.r1 = b.r1 ∧ a.r2 = b.r2 ∧ a.r3 = b.r3 ∧ a.path.length = b.path.length ∧ il = jl)
/-- Two data. -/
def MD.same : Nat → MD → MD → Bool
  | 0, _, _ => true
  | n + 1, a, b => sameH a.h b.h a.items.length b.items.length && decide (a.h.path = b.h.path) && all2 (MD.same n) a.items b.items
theorem MD.same_comm : ∀ (n : Nat) (a b : MD), MD.same n a b = MD.same n b a
  | 0, _, _ => rfl
  | n + 1, a, b => by
    have e1 : sameH a.h b.h a.items.length b.items.length = sameH b.h a.h b.items.length a.items.length := decide_eq_decide.2 ⟨fun h => by simp [h], fun h => by simp [h]⟩
    have e2 : decide (a.h.path = b.h.path) = decide (b.h.path = a.h.path) := decide_eq_decide.2 ⟨fun h => h.symm, fun h => h.symm⟩
    simp only [MD.same]
    rw [e1, e2, all2_comm _ (MD.same_comm n)]
theorem byteArray_ext {s t : ByteArray} (h : s.toList = t.toList) : s = t := by
  rw [Lib.toList_data, Lib.toList_data] at h
  exact ByteArray.ext (Array.toList_inj.1 h)
theorem kept2 {w W : World} {c d : Array Value} {t u : TypeId} (b : Below ((w.alloc (.cells c t)).alloc (.cells d u)).heap.size ((w.alloc (.cells c t)).alloc (.cells d u)) W) : Below w.heap.size w W ∧ (∀ j, W.cell? ⟨w.heap.size, j, none⟩ = c[j]?) ∧ ∀ j, W.cell? ⟨w.heap.size + 1, j, none⟩ = d[j]? :=
  ⟨(below2 w _ _).trans (b.mono (by simp; omega)), fun j => by
    rw [b.cell (p := ⟨w.heap.size, j, none⟩) (by simp; omega), World.cell?_alloc_lt _ _ _ (by simp)]; exact row_at (heap_alloc_new _ _) j, fun j => by
    rw [b.cell (p := ⟨w.heap.size + 1, j, none⟩) (by simp)]; exact row_at (heap2_1 _ _ _) j⟩
def PathRel (path path' : List Int) (W2 : World) (i : Value) (wr : World) : Prop := ∃ j : Nat, j ≤ path.length ∧ i = .int .i64 j ∧ path.take j = path'.take j ∧ Below W2.heap.size W2 wr
def SameRel (n : Nat) (items items' : List MD) (W2 : World) (i : Value) (wr : World) : Prop := ∃ j : Nat, j ≤ items.length ∧ i = .int .i64 j ∧ all2 (MD.same n) (items.take j) (items'.take j) = true ∧ Below W2.heap.size W2 wr
end Go.Proofs.YtnhbpcmiolkllaaDoor
