/-
  A simple datum, made: a pointer.
-/
import Derived.Test.YtnhbpcmiolkllabDoorPj2
import Derived.Test.YtnhbpcmiolkllabDoorCa
import Derived.Test.YtnhbpcmiolkllabDoorIa2J
namespace Go.Proofs.YtnhbpcmiolkllabDoor
open Go.RowKit
attribute [local go_sem] refold2 cell3_0 cell3_1 b28_0 b28_01 b32_k

/-- The same, with a path in memory of its own. -/
def P9 (kb : Nat) (rp : Option Addr) (raw : List Int) (rc : Nat) (w W : World) (a bx : Nat) (row : Array Value) (r0 : Int) (pp : Option Addr) (ps : List Int) (pc : Nat) : Prop :=
  Sb kb rp raw rc w W a bx row ∧ W.ownsRow (bx + 1) 3 1 (.slice pp ps.length pc) ps.length (ps.map (Value.int .i64)) ∧ (∀ z ∈ ps, 0 ≤ z ∧ z ≤ 1) ∧ (r0 = 0 → ps = [])
theorem own_block {W W' : World} {base e size n : Nat} {v : Value} {xs : List Value} (h : W.ownsRow base e size v n xs) (hb : ∀ b, base ≤ b → b < W.heap.size → W'.heap[b]? = W.heap[b]?) : W'.ownsRow base e size v n xs := by
  refine ⟨h.1, ?_⟩
  rcases h.2 with h2 | ⟨g, cap, cur, e1, e2, e3, e4⟩
  · exact .inl h2
  · exact .inr ⟨g, cap, cur, e1, e2, (hb g e2 (Array.getElem?_eq_some_iff.1 e3).1).trans e3, e4⟩
theorem P9.below {kb : Nat} {rp : Option Addr} {raw : List Int} {rc a bx : Nat} {w W W' : World} {row : Array Value} {r0 : Int} {pp : Option Addr} {ps : List Int} {pc : Nat} (h : P9 kb rp raw rc w W a bx row r0 pp ps pc) (hb : Below W.heap.size W W') : P9 kb rp raw rc w W' a bx row r0 pp ps pc := by
  obtain ⟨h1, h2, h3⟩ := h
  exact ⟨⟨h1.st.up h1.lo (hb.mono h1.st.mv.size), (hb.block _ (Array.getElem?_eq_some_iff.1 h1.res).1).trans h1.res, (hb.block _ (Array.getElem?_eq_some_iff.1 h1.box).1).trans h1.box, h1.hi, h1.lo⟩, own_block h2 (fun b _ b2 => hb.block b b2), h3⟩
theorem P9.next {kb : Nat} {rp : Option Addr} {raw : List Int} {rc a a' bx : Nat} {w W W' : World} {row : Array Value} {r0 : Int} {pp : Option Addr} {ps : List Int} {pc : Nat} (h : P9 kb rp raw rc w W a bx row r0 pp ps pc) (hM : MakerAt W' kb rp raw rc a') (hv : Moved kb W W') : P9 kb rp raw rc w W' a' bx row r0 pp ps pc := by
  obtain ⟨h1, h2, h3⟩ := h
  exact ⟨h1.next hM hv, own_block h2 (fun b b1 b2 => hv.block b b2 (by have := h1.lo; have := h1.hi; omega)), h3⟩
theorem one_cell {W : World} {cv : Int} {q : Nat} {u : Value} (hq : [Value.int .i64 cv][q]? = some u) : (W.alloc (.cells #[.int .i64 cv] 3)).cell? ((⟨W.heap.size, 0, none⟩ : Addr).add q) = some u := by
  cases q with
  | zero => 
    have e : (⟨W.heap.size, 0, none⟩ : Addr).add 0 = ⟨W.heap.size, 0, none⟩ := by unfold Addr.add; rw [if_pos rfl]
    rw [e, row_at (heap_alloc_new W (.cells #[.int .i64 cv] 3)) 0]
    simpa using hq
  | succ q => simp at hq
/-- A path that has grown. -/
theorem P9.grown {kb : Nat} {rp : Option Addr} {raw : List Int} {rc a bx : Nat} {w W W' : World} {row : Array Value} {r0 : Int} {pp : Option Addr} {ps : List Int} {pc : Nat} {vn : Value} {cv : Int} (h : P9 kb rp raw rc w W a bx row r0 pp ps pc) (hown : W'.ownsRow (bx + 1) 3 1 vn (ps.length + 1) (ps.map (Value.int .i64) ++ [.int .i64 cv])) (hg : W.grownBy W' (Value.slice pp ps.length pc).ownBlock) (c0 : 0 ≤ cv) (c1 : cv ≤ 1) (hr : 0 < r0) :
    ∃ pp2 pc2, vn = .slice pp2 (ps.length + 1) pc2 ∧ Sb kb rp raw rc w W' a bx row ∧ W'.ownsRow (bx + 1) 3 1 (.slice pp2 (ps ++ [cv]).length pc2) (ps ++ [cv]).length ((ps ++ [cv]).map (Value.int .i64)) ∧ (∀ z ∈ ps ++ [cv], 0 ≤ z ∧ z ≤ 1) ∧ (r0 = 0 → ps ++ [cv] = []) := by
  obtain ⟨h1, h2, h3, h4⟩ := h
  have hne : ∀ b, b ≤ bx → some b ≠ (Value.slice pp ps.length pc).ownBlock := fun b hb e => by
    rcases h2.2 with ⟨e1, _⟩ | ⟨g, cap, cur, e1, e2, _⟩
    · rw [e1] at e; simp [Value.ownBlock] at e
    · rw [e1] at e; simp [Value.ownBlock] at e; omega
  have hbk : Below (bx + 1) W W' := ⟨hg.os, hg.tape, hg.output, hg.size, fun b hb => hg.block b (by have := (Array.getElem?_eq_some_iff.1 h1.box).1; omega) (hne b (by omega))⟩
  have hS : Sb kb rp raw rc w W' a bx row := ⟨h1.st.up h1.lo (hbk.mono (by have := h1.hi; omega)), (hbk.block _ (by have := h1.hi; omega)).trans h1.res, (hbk.block _ (by omega)).trans h1.box, h1.hi, h1.lo⟩
  rcases hown.2 with ⟨_, e⟩ | ⟨g, cap, cur, e1, e2⟩
  · omega
  · refine ⟨some ⟨g, 0, none⟩, cap, e1, hS, ?_, fun z hz => ?_, fun e => by omega⟩
    · have := hown
      rw [e1] at this
      simpa using this
    · rcases List.mem_append.1 hz with hz | hz
      · exact h3 z hz
      · simp at hz; omega
theorem eleven9 (w3 : World) (h b : Nat) (h2 : b ≠ h) (v0 v1 v2 v3 v4 v5 v6 v7 v8 v9 v10 : Value) :
    (((((((((((w3.setCell ⟨h, 0, none⟩ v0).setCell ⟨h, 1, none⟩ v1).setCell ⟨h, 2, none⟩ v2).setCell ⟨h, 3, none⟩ v3).setCell ⟨h, 4, none⟩ v4).setCell ⟨h, 5, none⟩ v5).setCell ⟨h, 6, none⟩ v6).setCell ⟨h, 7, none⟩ v7).setCell ⟨h, 8, none⟩ v8).setCell ⟨h, 9, none⟩ v9).setCell ⟨h, 10, none⟩ v10).heap[b]? = w3.heap[b]? := by
  rw [heap_setCell_other _ _ _ _ _ h2, heap_setCell_other _ _ _ _ _ h2, heap_setCell_other _ _ _ _ _ h2, heap_setCell_other _ _ _ _ _ h2, heap_setCell_other _ _ _ _ _ h2, heap_setCell_other _ _ _ _ _ h2, heap_setCell_other _ _ _ _ _ h2, heap_setCell_other _ _ _ _ _ h2, heap_setCell_other _ _ _ _ _ h2, heap_setCell_other _ _ _ _ _ h2, heap_setCell_other _ _ _ _ _ h2]
theorem sim9_done {kb : Nat} {rp : Option Addr} {raw : List Int} {rc at_ a bx : Nat} {w W F : World} {row : Array Value} {pp : Option Addr} {ps : List Int} {pc : Nat} (t : ByteArray) (r0 : Int) (hM : MakerAt w kb rp raw rc at_) (h : P9 kb rp raw rc w W a bx row r0 pp ps pc) (hF : Below w.heap.size W F) (hF2 : ∀ b, b ≠ w.heap.size → F.heap[b]? = W.heap[b]?) (ha : a ≤ at_ + 12)
    (hT : tyB 9 t = true) (t0 : t.size ≤ 100) (q0 : 0 ≤ r0 ∧ r0 ≤ 2) (hl : ps.length ≤ 2) :
    SimP kb rp raw rc at_ w (.returned (.agg #[.int .i64 9, .string t, .int .i64 0, .int .u64 0, .string ⟨#[]⟩, .int .i64 r0, .int .i64 0, .int .i64 0, .int .i64 0, .slice pp ps.length pc, .slice none 0 0])) F := by
  obtain ⟨h1, h2, h3, h4⟩ := h
  have hS := h1.st.up h1.lo hF
  have m : (100 : Nat) ≤ maxLen := by decide
  have hform : (ps = [] ∧ pp = none ∧ pc = 0) ∨ ∃ g cur, pp = some ⟨g, 0, none⟩ ∧ bx + 1 ≤ g ∧ W.heap[g]? = some (.cells cur 3 (0, 0)) ∧ ps.length ≤ pc ∧ pc ≤ maxLen ∧ cur.toList.take ps.length = ps.map (Value.int .i64) := by
    rcases h2.2 with ⟨e1, e2⟩ | ⟨g, cap, cur, e1, e2, e3, e4, e5, _, e6⟩
    · injection e1 with e1 _ e3
      exact .inl ⟨List.eq_nil_of_length_eq_zero e2, e1, e3⟩
    · injection e1 with e1 _ e7
      subst e7
      exact .inr ⟨g, cur, e1, e2, e3, e4, e5, by rw [Nat.mul_one] at e6; exact e6⟩
  have hpc : ps.length ≤ pc ∧ pc ≤ maxLen := by
    rcases hform with ⟨e1, _, e3⟩ | ⟨_, _, _, _, _, e5, e6, _⟩
    · subst e1 e3; exact ⟨Nat.le_refl _, Nat.zero_le _⟩
    · exact ⟨e5, e6⟩
  have hz : zeroK 9 0 0 ⟨#[]⟩ r0 0 0 0 ps.length 0 = true := by simp [zeroK]
  have hk : targetB r0 ps = true := by
    have e1 : objB r0 = true := by unfold objB; simp; omega
    have e2 : decide (ps.length ≤ 100) = true := decide_eq_true (by omega)
    have e3 : (r0 == 0 && decide (0 < ps.length)) = false := by
      by_cases e : r0 = 0
      · rw [h4 e]; simp
      · simp [e]
    have e4 : ps.all (fun z => decide (0 ≤ z) && decide (z < 30)) = true := by
      rw [List.all_eq_true]
      intro z hz
      have := h3 z hz
      simp; omega
    unfold targetB
    rw [e1, e2, e3]
    simpa using e4
  have hR : MD.right 1 ⟨⟨9, t, 0, 0, ⟨#[]⟩, r0, 0, 0, 0, pp, ps, pc⟩, none, 0, []⟩ = true := by
    have e1 : headOK ⟨9, t, 0, 0, ⟨#[]⟩, r0, 0, 0, 0, pp, ps, pc⟩ 0 = true := by
      show (tyB 9 t && zeroK 9 0 0 ⟨#[]⟩ r0 0 0 0 ps.length 0 && kindB ⟨9, t, 0, 0, ⟨#[]⟩, r0, 0, 0, 0, pp, ps, pc⟩) = true
      have : kindB ⟨9, t, 0, 0, ⟨#[]⟩, r0, 0, 0, 0, pp, ps, pc⟩ = true := hk
      rw [hT, hz, this]; rfl
    show (headOK ⟨9, t, 0, 0, ⟨#[]⟩, r0, 0, 0, 0, pp, ps, pc⟩ 0 && _ && _) = true
    rw [e1]; rfl
  refine ⟨⟨⟨9, t, 0, 0, ⟨#[]⟩, r0, 0, 0, 0, pp, ps, pc⟩, none, 0, []⟩, a, rfl, ⟨⟨by show _ ≤ (9 : Int); decide, by show (9 : Int) ≤ _; decide, by show _ ≤ (0 : Int); decide, by show (0 : Int) ≤ _; decide, by show (0 : Int) ≤ 0; decide, by show (0 : Int) ≤ _; decide, by show _ ≤ r0; omega, by show r0 ≤ _; omega, by show _ ≤ (0 : Int); decide, by show (0 : Int) ≤ _; decide, by show _ ≤ (0 : Int); decide, by show (0 : Int) ≤ _; decide, by show _ ≤ (0 : Int); decide, by show (0 : Int) ≤ _; decide, by show t.size ≤ _; omega, by show (⟨#[]⟩ : ByteArray).size ≤ _; decide, hpc.1, hpc.2⟩, ⟨fun z hz => by have := h3 z hz; omega, ?_⟩, Nat.le_refl _, Nat.zero_le _, .inl rfl⟩, hR, ⟨?_, fun _ _ e => (by cases e), fun x hx => (by cases hx)⟩, ha, hS.maker hM, hS.mv⟩
  · rcases hform with ⟨e1, _, _⟩ | ⟨g, cur, e1, e2, e3, _, _, e6⟩
    · exact .inl e1
    · have hi := h1.hi
      have hgF := (hF2 g (by omega)).trans e3
      refine .inr ⟨g, 0, e1, (Array.getElem?_eq_some_iff.1 hgF).1, fun i hi => ?_⟩
      rw [row_at hgF (0 + i), Nat.zero_add, ← Array.getElem?_toList, ← List.getElem?_take_of_lt hi, e6, List.getElem?_map, List.getElem?_eq_getElem hi]; rfl
  · intro b o e
    rcases hform with ⟨_, e1, _⟩ | ⟨g, cur, e1, e2, _⟩
    · exact absurd (e.symm.trans e1) (by simp)
    · have := e.symm.trans e1
      cases this
      have := h1.hi
      omega
set_option maxRecDepth 100000 in
set_option maxHeartbeats 4000000 in
theorem simple_9 (kb : Nat) (rp : Option Addr) (raw : List Int) (rc at_ : Nat) (w : World) (hM : MakerAt w kb rp raw rc at_) (ha : at_ ≤ 90000) (hK : nv raw at_ 9 = 8) :
    Calls Tryd.prog 21 #[.pointer (some ⟨kb, 0, none⟩)] w (SimP kb rp raw rc at_ w) := by
  have hk : kb < w.heap.size := (Array.getElem?_eq_some_iff.1 hM.row).1
  have HM : Hid (MakerAt w kb rp raw rc at_) := hM
  clear hM
  go_enter Tryd.func21, Tryd.ntmps21
  go_wp2_with fail
  refine (next_det kb rp raw rc at_ 9 _ (HM.out.below (below1 _ _)) (by omega) (by decide) (by decide)).mono ?_
  rintro r w2 ⟨c, rfl, d0, e0, hM2, hv2⟩
  obtain rfl : c = 8 := by omega
  have hr2 : w2.heap[w.heap.size]? = some (.cells zeros 32 (0, 0)) := (hv2.block _ (by simp) (by omega)).trans (heap_alloc_new _ _)
  have HS0 : Hid (St kb rp raw rc w w2 (at_ + 1)) := ⟨(Moved.of_below (below1 _ _)).trans hv2, hM2.row⟩
  have HR0 : Hid _ := hr2
  have hc0 : ∀ i, w2.cell? ⟨w.heap.size, i, none⟩ = (#[.int .i64 0, .string ⟨#[]⟩, .int .i64 0, .int .u64 0, .string ⟨#[]⟩, .int .i64 0, .int .i64 0, .int .i64 0, .int .i64 0, .slice none 0 0, .slice none 0 0] : Array Value)[i]? := row_at hr2
  have hf0 := fun i => fz _ _ _ _ i hr2
  have hy0 : w.heap.size < w2.heap.size := (Array.getElem?_eq_some_iff.1 hr2).1
  clear hM2 hv2 hr2
  go_wp2_with fail
  refine (next_det kb rp raw rc (at_ + 1) 4 _ (((Sb.new HS0.out hk HR0.out #[.int .i64 9, .string ⟨#[84]⟩, .int .i64 0, .int .u64 0, .string ⟨#[]⟩, .int .i64 0, .int .i64 0, .int .i64 0, .int .i64 0, .slice none 0 0, .slice none 0 0]).alloc (.cells #[.string ⟨#[]⟩, .string ⟨#[98, 111, 111, 108]⟩, .string ⟨#[105, 110, 116]⟩, .string ⟨#[102, 108, 111, 97, 116]⟩, .string ⟨#[116, 101, 120, 116]⟩, .string ⟨#[108, 105, 115, 116]⟩, .string ⟨#[109, 97, 112]⟩, .string ⟨#[102, 117, 110, 99]⟩, .string ⟨#[]⟩, .string ⟨#[84]⟩] 9)).maker HM.out) (by omega) (by omega) (by omega)).mono ?_
  rintro r w3 ⟨c1, rfl, d1, e1, hM1, hv1⟩
  have HS1 : Hid (Sb kb rp raw rc w w3 (at_ + 1 + 1) w2.heap.size #[.int .i64 9, .string ⟨#[84]⟩, .int .i64 0, .int .u64 0, .string ⟨#[]⟩, .int .i64 0, .int .i64 0, .int .i64 0, .int .i64 0, .slice none 0 0, .slice none 0 0]) := ((Sb.new HS0.out hk HR0.out #[.int .i64 9, .string ⟨#[84]⟩, .int .i64 0, .int .u64 0, .string ⟨#[]⟩, .int .i64 0, .int .i64 0, .int .i64 0, .int .i64 0, .slice none 0 0, .slice none 0 0]).alloc (.cells #[.string ⟨#[]⟩, .string ⟨#[98, 111, 111, 108]⟩, .string ⟨#[105, 110, 116]⟩, .string ⟨#[102, 108, 111, 97, 116]⟩, .string ⟨#[116, 101, 120, 116]⟩, .string ⟨#[108, 105, 115, 116]⟩, .string ⟨#[109, 97, 112]⟩, .string ⟨#[102, 117, 110, 99]⟩, .string ⟨#[]⟩, .string ⟨#[84]⟩] 9)).next hM1 hv1
  clear hM1 hv1
  have hc1 : ∀ i, w3.cell? ⟨w2.heap.size, i, none⟩ = _ := row_at HS1.out.box
  have hf1 := fun i => fz _ _ _ _ i HS1.out.box
  have hr1 : ∀ i, w3.cell? ⟨w.heap.size, i, none⟩ = (#[.int .i64 0, .string ⟨#[]⟩, .int .i64 0, .int .u64 0, .string ⟨#[]⟩, .int .i64 0, .int .i64 0, .int .i64 0, .int .i64 0, .slice none 0 0, .slice none 0 0] : Array Value)[i]? := row_at HS1.out.res
  have hg1 := fun i => fz _ _ _ _ i HS1.out.res
  have hz1 : w2.heap.size < w3.heap.size := (Array.getElem?_eq_some_iff.1 HS1.out.box).1
  have hy1 : w.heap.size < w3.heap.size := (Array.getElem?_eq_some_iff.1 HS1.out.res).1
  by_cases hty : c1 = 0
  · subst hty
    go_wp2_with fail
    refine (next_det kb rp raw rc (at_ + 1 + 1) 2 _ (((HS1.out).alloc (.cells #[.string ⟨#[84]⟩, .string ⟨#[85]⟩] 9)).maker HM.out) (by omega) (by omega) (by omega)).mono ?_
    rintro r w4 ⟨c2, rfl, d2, e2, hM2, hv2⟩
    have HS2 : Hid (Sb kb rp raw rc w w4 (at_ + 1 + 1 + 1) w2.heap.size #[.int .i64 9, .string ⟨#[84]⟩, .int .i64 0, .int .u64 0, .string ⟨#[]⟩, .int .i64 0, .int .i64 0, .int .i64 0, .int .i64 0, .slice none 0 0, .slice none 0 0]) := ((HS1.out).alloc (.cells #[.string ⟨#[84]⟩, .string ⟨#[85]⟩] 9)).next hM2 hv2
    have hp2 : w4.heap[w3.heap.size]? = some (.cells #[.string ⟨#[84]⟩, .string ⟨#[85]⟩] 9 (0, 0)) := (hv2.block _ (by simp) (by omega)).trans (alloc_at (by simp))
    clear hM2 hv2
    clear hc1 hf1 hr1 hg1 hz1 hy1
    have hc2 : ∀ i, w4.cell? ⟨w2.heap.size, i, none⟩ = _ := row_at HS2.out.box
    have hf2 := fun i => fz _ _ _ _ i HS2.out.box
    have hr2 : ∀ i, w4.cell? ⟨w.heap.size, i, none⟩ = (#[.int .i64 0, .string ⟨#[]⟩, .int .i64 0, .int .u64 0, .string ⟨#[]⟩, .int .i64 0, .int .i64 0, .int .i64 0, .int .i64 0, .slice none 0 0, .slice none 0 0] : Array Value)[i]? := row_at HS2.out.res
    have hg2 := fun i => fz _ _ _ _ i HS2.out.res
    have hz2 : w2.heap.size < w4.heap.size := (Array.getElem?_eq_some_iff.1 HS2.out.box).1
    have hy2 : w.heap.size < w4.heap.size := (Array.getElem?_eq_some_iff.1 HS2.out.res).1
    have q2 := nv_range raw (at_ + 1 + 1) 2 (by decide)
    obtain ⟨m, rfl⟩ : ∃ m : Nat, c2 = m := ⟨c2.toNat, by omega⟩
    have hm2 : m < 2 := by omega
    have i2 : (m : Int) < 2 := by omega
    obtain ⟨tv, htv, htd, ht0⟩ := two_get ⟨#[84]⟩ ⟨#[85]⟩ m hm2 ⟨decl_T, by decide⟩ ⟨decl_U, by decide⟩
    have hl2 := (row_at hp2 m).trans htv
    have hT : tyB 9 tv = true := tyB_decl 9 tv (by decide) (by decide) htd
    clear hp2 htv
    go_wp2_with fail
    refine (next_det kb rp raw rc (at_ + 1 + 1 + 1) 3 _ (((HS2.out).set 1 (.string tv)).maker HM.out) (by omega) (by omega) (by omega)).mono ?_
    rintro r w5 ⟨c3, rfl, d3, e3, hM3, hv3⟩
    have HS3 : Hid (Sb kb rp raw rc w w5 (at_ + 1 + 1 + 1 + 1) w2.heap.size #[.int .i64 9, .string tv, .int .i64 0, .int .u64 0, .string ⟨#[]⟩, .int .i64 0, .int .i64 0, .int .i64 0, .int .i64 0, .slice none 0 0, .slice none 0 0]) := ((HS2.out).set 1 (.string tv)).next hM3 hv3
    clear hM3 hv3
    clear hc2 hf2 hr2 hg2 hz2 hy2
    have hc3 : ∀ i, w5.cell? ⟨w2.heap.size, i, none⟩ = _ := row_at HS3.out.box
    have hf3 := fun i => fz _ _ _ _ i HS3.out.box
    have hr3 : ∀ i, w5.cell? ⟨w.heap.size, i, none⟩ = (#[.int .i64 0, .string ⟨#[]⟩, .int .i64 0, .int .u64 0, .string ⟨#[]⟩, .int .i64 0, .int .i64 0, .int .i64 0, .int .i64 0, .slice none 0 0, .slice none 0 0] : Array Value)[i]? := row_at HS3.out.res
    have hg3 := fun i => fz _ _ _ _ i HS3.out.res
    have hz3 : w2.heap.size < w5.heap.size := (Array.getElem?_eq_some_iff.1 HS3.out.box).1
    have hy3 : w.heap.size < w5.heap.size := (Array.getElem?_eq_some_iff.1 HS3.out.res).1
    have q3 := nv_range raw (at_ + 1 + 1 + 1) 3 (by decide)
    have u3 : 0 ≤ c3 ∧ c3 ≤ 2 := by omega
    go_wp2_with fail
    refine (next_det kb rp raw rc (at_ + 1 + 1 + 1 + 1) 3 _ (((HS3.out).set 5 (.int .i64 c3)).maker HM.out) (by omega) (by omega) (by omega)).mono ?_
    rintro r w6 ⟨c4, rfl, d4, e4, hM4, hv4⟩
    have HS4 : Hid (Sb kb rp raw rc w w6 (at_ + 1 + 1 + 1 + 1 + 1) w2.heap.size #[.int .i64 9, .string tv, .int .i64 0, .int .u64 0, .string ⟨#[]⟩, .int .i64 c3, .int .i64 0, .int .i64 0, .int .i64 0, .slice none 0 0, .slice none 0 0]) := ((HS3.out).set 5 (.int .i64 c3)).next hM4 hv4
    clear hM4 hv4
    clear hc3 hf3 hr3 hg3 hz3 hy3
    have hc4 : ∀ i, w6.cell? ⟨w2.heap.size, i, none⟩ = _ := row_at HS4.out.box
    have hf4 := fun i => fz _ _ _ _ i HS4.out.box
    have hr4 : ∀ i, w6.cell? ⟨w.heap.size, i, none⟩ = (#[.int .i64 0, .string ⟨#[]⟩, .int .i64 0, .int .u64 0, .string ⟨#[]⟩, .int .i64 0, .int .i64 0, .int .i64 0, .int .i64 0, .slice none 0 0, .slice none 0 0] : Array Value)[i]? := row_at HS4.out.res
    have hg4 := fun i => fz _ _ _ _ i HS4.out.res
    have hz4 : w2.heap.size < w6.heap.size := (Array.getElem?_eq_some_iff.1 HS4.out.box).1
    have hy4 : w.heap.size < w6.heap.size := (Array.getElem?_eq_some_iff.1 HS4.out.res).1
    have q4 := nv_range raw (at_ + 1 + 1 + 1 + 1) 3 (by decide)
    obtain ⟨m0, rfl⟩ : ∃ m : Nat, c4 = m := ⟨c4.toNat, by omega⟩
    have hm0 : m0 ≤ 2 := by omega
    have HT9 : Hid (tyB 9 tv = true ∧ (tv : ByteArray).size ≤ 100) := ⟨hT, ht0⟩
    clear d4 e4 q4 d3 e3 q3 hT ht0
    go_wp2_with fail
    go_loopw [4] (fun i wr => ∃ (m : Nat) (ps : List Int) (pp : Option Addr) (pc A : Nat), i = .int .i64 m ∧ ps.length + m ≤ 2 ∧ A + m ≤ at_ + 8 ∧ Hid (P9 kb rp raw rc w wr A w2.heap.size #[.int .i64 9, .string tv, .int .i64 0, .int .u64 0, .string ⟨#[]⟩, .int .i64 c3, .int .i64 0, .int .i64 0, .int .i64 0, (.slice pp ps.length pc), .slice none 0 0] c3 pp ps pc)) (fun i _ => (intOf i).toNat)
    case atStart => exact ⟨m0, [], none, 0, at_ + 1 + 1 + 1 + 1 + 1, rfl, by show 0 + m0 ≤ 2; omega, by omega, HS4.out, World.ownsRow_nil _ _ _ _, fun z hz => (by cases hz), fun _ => rfl⟩
    case round =>
      obtain ⟨m, ps, pp, pc, A, rfl, hm1, hm2, HP⟩ := hrel
      clear hc4 hf4 hr4 hg4 hz4 hy4
      have hc : ∀ i, wr.cell? ⟨w2.heap.size, i, none⟩ = _ := row_at HP.out.1.box
      have hf := fun i => fz _ _ _ _ i HP.out.1.box
      have hr : ∀ i, wr.cell? ⟨w.heap.size, i, none⟩ = (#[.int .i64 0, .string ⟨#[]⟩, .int .i64 0, .int .u64 0, .string ⟨#[]⟩, .int .i64 0, .int .i64 0, .int .i64 0, .int .i64 0, .slice none 0 0, .slice none 0 0] : Array Value)[i]? := row_at HP.out.1.res
      have hg := fun i => fz _ _ _ _ i HP.out.1.res
      have hz : w2.heap.size < wr.heap.size := (Array.getElem?_eq_some_iff.1 HP.out.1.box).1
      have hy : w.heap.size < wr.heap.size := (Array.getElem?_eq_some_iff.1 HP.out.1.res).1
      by_cases hgo : 0 < m ∧ 0 < c3
      · have g1 : (0 : Int) < m := by omega
        have g2 := hgo.2
        go_wp2_with fail
        clear hr hg
        refine wp_region_noPanic ?_
        refine wp_region_held (S := fun _ => True) (by kernel_rfl) ?_
        obtain ⟨v0, hv0⟩ : ∃ v0, v0 = wr.drew := ⟨_, rfl⟩
        have e4 : ({ wr with drawn := wr.drawn + 1 } : World) = v0 := hv0.symm
        rw [e4]
        have B0 : Below wr.heap.size wr v0 := by rw [hv0]; exact (Below.refl _ _).drew
        have HP0 : Hid (P9 kb rp raw rc w v0 A w2.heap.size #[.int .i64 9, .string tv, .int .i64 0, .int .u64 0, .string ⟨#[]⟩, .int .i64 c3, .int .i64 0, .int .i64 0, .int .i64 0, (.slice pp ps.length pc), .slice none 0 0] c3 pp ps pc) := HP.out.below B0
        have hS : True := trivial
        clear e4 hv0 B0
        refine wpAnyH_take (i := 0) (v := .pointer (some ⟨w2.heap.size, 5, none⟩)) rfl (by kernel_rfl) (by kernel_rfl) (by kernel_rfl) (fun _ _ _ h => h) (Or.inl ⟨by rfl, ?r⟩) hS ?_
        case r => intro W hW; simp [go_sem, execOp, Act.eval]
        simp only [List.getElem_toArray, List.getElem_cons_zero, Act.put, List.setIfInBounds_toArray, List.set_cons_succ, List.set_cons_zero]
        refine wpAnyH_take (i := 1) (v := .pointer (some ⟨w2.heap.size, 9, none⟩)) rfl (by kernel_rfl) (by kernel_rfl) (by kernel_rfl) (fun _ _ _ h => h) (Or.inl ⟨by rfl, ?r⟩) hS ?_
        case r => intro W hW; simp [go_sem, execOp, Act.eval]
        simp only [List.getElem_toArray, List.getElem_cons_zero, List.getElem_cons_succ, Act.put, List.setIfInBounds_toArray, List.set_cons_succ, List.set_cons_zero]
        refine wpAnyH_take (i := 3) (v := .pointer (some ⟨kb, 0, none⟩)) rfl (by kernel_rfl) (by kernel_rfl) (by kernel_rfl) (fun _ _ _ h => h) (Or.inl ⟨by rfl, ?r⟩) hS ?_
        case r => intro W hW; simp [go_sem, execOp, Act.eval]
        simp only [List.getElem_toArray, List.getElem_cons_zero, List.getElem_cons_succ, Act.put, List.setIfInBounds_toArray, List.set_cons_succ, List.set_cons_zero]
        refine wpAnyH_all (rs := [2, 4]) (by kernel_rfl) (by simp) (fun i2 hi2 => ?_)
        obtain rfl | rfl : i2 = 2 ∨ i2 = 4 := by simpa using hi2
        · clear hi2
          refine wpOp_step rfl (fun K hK => ite_yes rfl ?_)
          simp only [List.getElem_toArray, List.getElem_cons_zero, List.getElem_cons_succ]
          have hl : ∀ q, v0.cell? ⟨w2.heap.size, q, none⟩ = (#[.int .i64 9, .string tv, .int .i64 0, .int .u64 0, .string ⟨#[]⟩, .int .i64 c3, .int .i64 0, .int .i64 0, .int .i64 0, (.slice pp ps.length pc), .slice none 0 0] : Array Value)[q]? := row_at HP0.out.1.box
          go_simp
          refine hK _ _ ⟨trivial, ?_⟩
          clear hK K hl
          refine wpAnyH_all (rs := [4]) (by kernel_rfl) (by simp) (fun i2 hi2 => ?_)
          obtain rfl : i2 = 4 := by simpa using hi2
          clear hi2
          refine wpOp_step rfl (fun K hK => ite_yes rfl ?_)
          simp only [List.getElem_toArray, List.getElem_cons_zero, List.getElem_cons_succ]
          go_simp
          refine (next_det kb rp raw rc A 2 _ (HP0.out.1.maker HM.out) (by omega) (by decide) (by decide)).mono ?_
          rintro e v1 ⟨cv, rfl, cd, ce, hM1, hv1⟩
          have qv := nv_range raw A 2 (by decide)
          have HP1 : Hid (P9 kb rp raw rc w v1 (A + 1) w2.heap.size #[.int .i64 9, .string tv, .int .i64 0, .int .u64 0, .string ⟨#[]⟩, .int .i64 c3, .int .i64 0, .int .i64 0, .int .i64 0, (.slice pp ps.length pc), .slice none 0 0] c3 pp ps pc) := HP0.out.next hM1 hv1
          go_simp
          refine hK _ _ ⟨trivial, ?_⟩
          clear hK K hM1 hv1
          refine wpAnyH_all (rs := [5]) (by kernel_rfl) (by simp) (fun i2 hi2 => ?_)
          obtain rfl : i2 = 5 := by simpa using hi2
          clear hi2
          refine wpOp_step rfl (fun K hK => ite_yes rfl ?_)
          simp only [List.getElem_toArray, List.getElem_cons_zero, List.getElem_cons_succ]
          go_simp
          have HP2 : Hid (P9 kb rp raw rc w (v1.alloc (.cells #[.int .i64 cv] 3)) (A + 1) w2.heap.size #[.int .i64 9, .string tv, .int .i64 0, .int .u64 0, .string ⟨#[]⟩, .int .i64 c3, .int .i64 0, .int .i64 0, .int .i64 0, (.slice pp ps.length pc), .slice none 0 0] c3 pp ps pc) := HP1.out.below (below1 _ _)
          refine hK _ _ ⟨trivial, ?_⟩
          clear hK K
          refine wpAnyH_all (rs := [6]) (by kernel_rfl) (by simp) (fun i2 hi2 => ?_)
          obtain rfl : i2 = 6 := by simpa using hi2
          clear hi2
          refine wpOp_step rfl (fun K hK => ite_yes rfl ?_)
          simp only [List.getElem_toArray, List.getElem_cons_zero, List.getElem_cons_succ]
          obtain ⟨i3, hi3, hz30, hz31, hz32⟩ := info_parts info3z
          refine wp_append_own _ _ _ 22 rfl (w2.heap.size + 1) 3 i3 (.int .i64 0) 1 8 Tryd.underlying22 hi3 hz30 hz31 hz32 rfl (by decide) (.slice pp ps.length pc) ps.length (ps.map (Value.int .i64)) rfl HP2.out.2.1 ⟨v1.heap.size, 0, none⟩ 1 1 [.int .i64 cv] rfl rfl (fun q u hq => one_cell hq) (fun u hu => by simp at hu; rw [hu]; rfl) (by unfold maxLen; omega) (by omega) (by have := (Array.getElem?_eq_some_iff.1 HP2.out.1.box).1; omega) ?_
          intro vn v3 hown hgr _
          obtain ⟨pp2, pc2, rfl, HP3⟩ := P9.grown HP2.out hown hgr (by omega) (by omega) g2
          refine hK _ _ ⟨trivial, ?_⟩
          clear hK K hown hgr
          have hS : True := trivial
          refine wpAnyH_take (i := 7) (v := .pointer (some ⟨w2.heap.size, 5, none⟩)) rfl (by kernel_rfl) (by kernel_rfl) (by kernel_rfl) (fun _ _ _ h => h) (Or.inl ⟨by rfl, ?r⟩) hS ?_
          case r => intro W hW; simp [go_sem, execOp, Act.eval]
          simp only [List.getElem_toArray, List.getElem_cons_zero, List.getElem_cons_succ, Act.put, List.setIfInBounds_toArray, List.set_cons_succ, List.set_cons_zero]
          refine wpAnyH_take (i := 8) (v := .pointer (some ⟨w2.heap.size, 9, none⟩)) rfl (by kernel_rfl) (by kernel_rfl) (by kernel_rfl) (fun _ _ _ h => h) (Or.inl ⟨by rfl, ?r⟩) hS ?_
          case r => intro W hW; simp [go_sem, execOp, Act.eval]
          simp only [List.getElem_toArray, List.getElem_cons_zero, List.getElem_cons_succ, Act.put, List.setIfInBounds_toArray, List.set_cons_succ, List.set_cons_zero]
          refine wpAnyH_all (rs := [9]) (by kernel_rfl) (by simp) (fun i2 hi2 => ?_)
          obtain rfl : i2 = 9 := by simpa using hi2
          clear hi2
          refine wpOp_step rfl (fun K hK => ite_yes rfl ?_)
          simp only [List.getElem_toArray, List.getElem_cons_zero, List.getElem_cons_succ]
          have hs3 : ∀ q, v3.cell? ⟨w2.heap.size, q, none⟩ = (#[.int .i64 9, .string tv, .int .i64 0, .int .u64 0, .string ⟨#[]⟩, .int .i64 c3, .int .i64 0, .int .i64 0, .int .i64 0, (.slice pp ps.length pc), .slice none 0 0] : Array Value)[q]? := row_at HP3.1.box
          have hf3 := fun i => fz _ _ _ _ i HP3.1.box
          have c9 : v3.cell? ⟨w2.heap.size, 9, none⟩ = some (.slice pp ps.length pc) := hs3 9
          have HP4 : Hid (P9 kb rp raw rc w (v3.setCell ⟨w2.heap.size, 9, none⟩ (.slice pp2 (ps ++ [cv]).length pc2)) (A + 1) w2.heap.size #[.int .i64 9, .string tv, .int .i64 0, .int .u64 0, .string ⟨#[]⟩, .int .i64 c3, .int .i64 0, .int .i64 0, .int .i64 0, (.slice pp2 (ps ++ [cv]).length pc2), .slice none 0 0] c3 pp2 (ps ++ [cv]) pc2) := ⟨HP3.1.set 9 (.slice pp2 (ps ++ [cv]).length pc2), own_block HP3.2.1 (fun b b1 _ => Below.heap_setCell _ _ _ _ (show b ≠ w2.heap.size by omega)), HP3.2.2.1, HP3.2.2.2⟩
          have el : (ps ++ [cv]).length = ps.length + 1 := by simp
          rw [el] at HP4
          go_simp
          refine hK _ _ ⟨trivial, ?_⟩
          clear hK K hs3 hf3 c9 HP3
          refine wpAnyH_done (by kernel_rfl) ?_ _
          refine NoPanic.normal ?_
          try simp only [Act.put]
          have hb4 : w2.heap.size < v3.heap.size := by have := (Array.getElem?_eq_some_iff.1 HP4.out.1.box).1; simpa using this
          clear HP HP0 HP1 HP2 hc hf
          go_wp2_with fail
          exact ⟨⟨m - 1, ps ++ [cv], pp2, pc2, A + 1, by congr 1; omega, by rw [el]; omega, by omega, by rw [el]; exact HP4⟩, by simp [intOf]; omega⟩
        · clear hi2
          refine wpOp_step rfl (fun K hK => ite_yes rfl ?_)
          simp only [List.getElem_toArray, List.getElem_cons_zero, List.getElem_cons_succ]
          go_simp
          refine (next_det kb rp raw rc A 2 _ (HP0.out.1.maker HM.out) (by omega) (by decide) (by decide)).mono ?_
          rintro e v1 ⟨cv, rfl, cd, ce, hM1, hv1⟩
          have qv := nv_range raw A 2 (by decide)
          have HP1 : Hid (P9 kb rp raw rc w v1 (A + 1) w2.heap.size #[.int .i64 9, .string tv, .int .i64 0, .int .u64 0, .string ⟨#[]⟩, .int .i64 c3, .int .i64 0, .int .i64 0, .int .i64 0, (.slice pp ps.length pc), .slice none 0 0] c3 pp ps pc) := HP0.out.next hM1 hv1
          go_simp
          refine hK _ _ ⟨trivial, ?_⟩
          clear hK K hM1 hv1
          refine wpAnyH_all (rs := [2, 5]) (by kernel_rfl) (by simp) (fun i2 hi2 => ?_)
          obtain rfl | rfl : i2 = 2 ∨ i2 = 5 := by simpa using hi2
          · clear hi2
            refine wpOp_step rfl (fun K hK => ite_yes rfl ?_)
            simp only [List.getElem_toArray, List.getElem_cons_zero, List.getElem_cons_succ]
            have hl : ∀ q, v1.cell? ⟨w2.heap.size, q, none⟩ = (#[.int .i64 9, .string tv, .int .i64 0, .int .u64 0, .string ⟨#[]⟩, .int .i64 c3, .int .i64 0, .int .i64 0, .int .i64 0, (.slice pp ps.length pc), .slice none 0 0] : Array Value)[q]? := row_at HP1.out.1.box
            go_simp
            refine hK _ _ ⟨trivial, ?_⟩
            clear hK K hl
            refine wpAnyH_all (rs := [5]) (by kernel_rfl) (by simp) (fun i2 hi2 => ?_)
            obtain rfl : i2 = 5 := by simpa using hi2
            clear hi2
            refine wpOp_step rfl (fun K hK => ite_yes rfl ?_)
            simp only [List.getElem_toArray, List.getElem_cons_zero, List.getElem_cons_succ]
            go_simp
            have HP2 : Hid (P9 kb rp raw rc w (v1.alloc (.cells #[.int .i64 cv] 3)) (A + 1) w2.heap.size #[.int .i64 9, .string tv, .int .i64 0, .int .u64 0, .string ⟨#[]⟩, .int .i64 c3, .int .i64 0, .int .i64 0, .int .i64 0, (.slice pp ps.length pc), .slice none 0 0] c3 pp ps pc) := HP1.out.below (below1 _ _)
            refine hK _ _ ⟨trivial, ?_⟩
            clear hK K
            refine wpAnyH_all (rs := [6]) (by kernel_rfl) (by simp) (fun i2 hi2 => ?_)
            obtain rfl : i2 = 6 := by simpa using hi2
            clear hi2
            refine wpOp_step rfl (fun K hK => ite_yes rfl ?_)
            simp only [List.getElem_toArray, List.getElem_cons_zero, List.getElem_cons_succ]
            obtain ⟨i3, hi3, hz30, hz31, hz32⟩ := info_parts info3z
            refine wp_append_own _ _ _ 22 rfl (w2.heap.size + 1) 3 i3 (.int .i64 0) 1 8 Tryd.underlying22 hi3 hz30 hz31 hz32 rfl (by decide) (.slice pp ps.length pc) ps.length (ps.map (Value.int .i64)) rfl HP2.out.2.1 ⟨v1.heap.size, 0, none⟩ 1 1 [.int .i64 cv] rfl rfl (fun q u hq => one_cell hq) (fun u hu => by simp at hu; rw [hu]; rfl) (by unfold maxLen; omega) (by omega) (by have := (Array.getElem?_eq_some_iff.1 HP2.out.1.box).1; omega) ?_
            intro vn v3 hown hgr _
            obtain ⟨pp2, pc2, rfl, HP3⟩ := P9.grown HP2.out hown hgr (by omega) (by omega) g2
            refine hK _ _ ⟨trivial, ?_⟩
            clear hK K hown hgr
            have hS : True := trivial
            refine wpAnyH_take (i := 7) (v := .pointer (some ⟨w2.heap.size, 5, none⟩)) rfl (by kernel_rfl) (by kernel_rfl) (by kernel_rfl) (fun _ _ _ h => h) (Or.inl ⟨by rfl, ?r⟩) hS ?_
            case r => intro W hW; simp [go_sem, execOp, Act.eval]
            simp only [List.getElem_toArray, List.getElem_cons_zero, List.getElem_cons_succ, Act.put, List.setIfInBounds_toArray, List.set_cons_succ, List.set_cons_zero]
            refine wpAnyH_take (i := 8) (v := .pointer (some ⟨w2.heap.size, 9, none⟩)) rfl (by kernel_rfl) (by kernel_rfl) (by kernel_rfl) (fun _ _ _ h => h) (Or.inl ⟨by rfl, ?r⟩) hS ?_
            case r => intro W hW; simp [go_sem, execOp, Act.eval]
            simp only [List.getElem_toArray, List.getElem_cons_zero, List.getElem_cons_succ, Act.put, List.setIfInBounds_toArray, List.set_cons_succ, List.set_cons_zero]
            refine wpAnyH_all (rs := [9]) (by kernel_rfl) (by simp) (fun i2 hi2 => ?_)
            obtain rfl : i2 = 9 := by simpa using hi2
            clear hi2
            refine wpOp_step rfl (fun K hK => ite_yes rfl ?_)
            simp only [List.getElem_toArray, List.getElem_cons_zero, List.getElem_cons_succ]
            have hs3 : ∀ q, v3.cell? ⟨w2.heap.size, q, none⟩ = (#[.int .i64 9, .string tv, .int .i64 0, .int .u64 0, .string ⟨#[]⟩, .int .i64 c3, .int .i64 0, .int .i64 0, .int .i64 0, (.slice pp ps.length pc), .slice none 0 0] : Array Value)[q]? := row_at HP3.1.box
            have hf3 := fun i => fz _ _ _ _ i HP3.1.box
            have c9 : v3.cell? ⟨w2.heap.size, 9, none⟩ = some (.slice pp ps.length pc) := hs3 9
            have HP4 : Hid (P9 kb rp raw rc w (v3.setCell ⟨w2.heap.size, 9, none⟩ (.slice pp2 (ps ++ [cv]).length pc2)) (A + 1) w2.heap.size #[.int .i64 9, .string tv, .int .i64 0, .int .u64 0, .string ⟨#[]⟩, .int .i64 c3, .int .i64 0, .int .i64 0, .int .i64 0, (.slice pp2 (ps ++ [cv]).length pc2), .slice none 0 0] c3 pp2 (ps ++ [cv]) pc2) := ⟨HP3.1.set 9 (.slice pp2 (ps ++ [cv]).length pc2), own_block HP3.2.1 (fun b b1 _ => Below.heap_setCell _ _ _ _ (show b ≠ w2.heap.size by omega)), HP3.2.2.1, HP3.2.2.2⟩
            have el : (ps ++ [cv]).length = ps.length + 1 := by simp
            rw [el] at HP4
            go_simp
            refine hK _ _ ⟨trivial, ?_⟩
            clear hK K hs3 hf3 c9 HP3
            refine wpAnyH_done (by kernel_rfl) ?_ _
            refine NoPanic.normal ?_
            try simp only [Act.put]
            have hb4 : w2.heap.size < v3.heap.size := by have := (Array.getElem?_eq_some_iff.1 HP4.out.1.box).1; simpa using this
            clear HP HP0 HP1 HP2 hc hf
            go_wp2_with fail
            exact ⟨⟨m - 1, ps ++ [cv], pp2, pc2, A + 1, by congr 1; omega, by rw [el]; omega, by omega, by rw [el]; exact HP4⟩, by simp [intOf]; omega⟩
          · clear hi2
            refine wpOp_step rfl (fun K hK => ite_yes rfl ?_)
            simp only [List.getElem_toArray, List.getElem_cons_zero, List.getElem_cons_succ]
            go_simp
            have HP2 : Hid (P9 kb rp raw rc w (v1.alloc (.cells #[.int .i64 cv] 3)) (A + 1) w2.heap.size #[.int .i64 9, .string tv, .int .i64 0, .int .u64 0, .string ⟨#[]⟩, .int .i64 c3, .int .i64 0, .int .i64 0, .int .i64 0, (.slice pp ps.length pc), .slice none 0 0] c3 pp ps pc) := HP1.out.below (below1 _ _)
            refine hK _ _ ⟨trivial, ?_⟩
            clear hK K
            refine wpAnyH_all (rs := [2]) (by kernel_rfl) (by simp) (fun i2 hi2 => ?_)
            obtain rfl : i2 = 2 := by simpa using hi2
            clear hi2
            refine wpOp_step rfl (fun K hK => ite_yes rfl ?_)
            simp only [List.getElem_toArray, List.getElem_cons_zero, List.getElem_cons_succ]
            have hl : ∀ q, (v1.alloc (.cells #[.int .i64 cv] 3)).cell? ⟨w2.heap.size, q, none⟩ = (#[.int .i64 9, .string tv, .int .i64 0, .int .u64 0, .string ⟨#[]⟩, .int .i64 c3, .int .i64 0, .int .i64 0, .int .i64 0, (.slice pp ps.length pc), .slice none 0 0] : Array Value)[q]? := row_at HP2.out.1.box
            go_simp
            refine hK _ _ ⟨trivial, ?_⟩
            clear hK K hl
            refine wpAnyH_all (rs := [6]) (by kernel_rfl) (by simp) (fun i2 hi2 => ?_)
            obtain rfl : i2 = 6 := by simpa using hi2
            clear hi2
            refine wpOp_step rfl (fun K hK => ite_yes rfl ?_)
            simp only [List.getElem_toArray, List.getElem_cons_zero, List.getElem_cons_succ]
            obtain ⟨i3, hi3, hz30, hz31, hz32⟩ := info_parts info3z
            refine wp_append_own _ _ _ 22 rfl (w2.heap.size + 1) 3 i3 (.int .i64 0) 1 8 Tryd.underlying22 hi3 hz30 hz31 hz32 rfl (by decide) (.slice pp ps.length pc) ps.length (ps.map (Value.int .i64)) rfl HP2.out.2.1 ⟨v1.heap.size, 0, none⟩ 1 1 [.int .i64 cv] rfl rfl (fun q u hq => one_cell hq) (fun u hu => by simp at hu; rw [hu]; rfl) (by unfold maxLen; omega) (by omega) (by have := (Array.getElem?_eq_some_iff.1 HP2.out.1.box).1; omega) ?_
            intro vn v3 hown hgr _
            obtain ⟨pp2, pc2, rfl, HP3⟩ := P9.grown HP2.out hown hgr (by omega) (by omega) g2
            refine hK _ _ ⟨trivial, ?_⟩
            clear hK K hown hgr
            have hS : True := trivial
            refine wpAnyH_take (i := 7) (v := .pointer (some ⟨w2.heap.size, 5, none⟩)) rfl (by kernel_rfl) (by kernel_rfl) (by kernel_rfl) (fun _ _ _ h => h) (Or.inl ⟨by rfl, ?r⟩) hS ?_
            case r => intro W hW; simp [go_sem, execOp, Act.eval]
            simp only [List.getElem_toArray, List.getElem_cons_zero, List.getElem_cons_succ, Act.put, List.setIfInBounds_toArray, List.set_cons_succ, List.set_cons_zero]
            refine wpAnyH_take (i := 8) (v := .pointer (some ⟨w2.heap.size, 9, none⟩)) rfl (by kernel_rfl) (by kernel_rfl) (by kernel_rfl) (fun _ _ _ h => h) (Or.inl ⟨by rfl, ?r⟩) hS ?_
            case r => intro W hW; simp [go_sem, execOp, Act.eval]
            simp only [List.getElem_toArray, List.getElem_cons_zero, List.getElem_cons_succ, Act.put, List.setIfInBounds_toArray, List.set_cons_succ, List.set_cons_zero]
            refine wpAnyH_all (rs := [9]) (by kernel_rfl) (by simp) (fun i2 hi2 => ?_)
            obtain rfl : i2 = 9 := by simpa using hi2
            clear hi2
            refine wpOp_step rfl (fun K hK => ite_yes rfl ?_)
            simp only [List.getElem_toArray, List.getElem_cons_zero, List.getElem_cons_succ]
            have hs3 : ∀ q, v3.cell? ⟨w2.heap.size, q, none⟩ = (#[.int .i64 9, .string tv, .int .i64 0, .int .u64 0, .string ⟨#[]⟩, .int .i64 c3, .int .i64 0, .int .i64 0, .int .i64 0, (.slice pp ps.length pc), .slice none 0 0] : Array Value)[q]? := row_at HP3.1.box
            have hf3 := fun i => fz _ _ _ _ i HP3.1.box
            have c9 : v3.cell? ⟨w2.heap.size, 9, none⟩ = some (.slice pp ps.length pc) := hs3 9
            have HP4 : Hid (P9 kb rp raw rc w (v3.setCell ⟨w2.heap.size, 9, none⟩ (.slice pp2 (ps ++ [cv]).length pc2)) (A + 1) w2.heap.size #[.int .i64 9, .string tv, .int .i64 0, .int .u64 0, .string ⟨#[]⟩, .int .i64 c3, .int .i64 0, .int .i64 0, .int .i64 0, (.slice pp2 (ps ++ [cv]).length pc2), .slice none 0 0] c3 pp2 (ps ++ [cv]) pc2) := ⟨HP3.1.set 9 (.slice pp2 (ps ++ [cv]).length pc2), own_block HP3.2.1 (fun b b1 _ => Below.heap_setCell _ _ _ _ (show b ≠ w2.heap.size by omega)), HP3.2.2.1, HP3.2.2.2⟩
            have el : (ps ++ [cv]).length = ps.length + 1 := by simp
            rw [el] at HP4
            go_simp
            refine hK _ _ ⟨trivial, ?_⟩
            clear hK K hs3 hf3 c9 HP3
            refine wpAnyH_done (by kernel_rfl) ?_ _
            refine NoPanic.normal ?_
            try simp only [Act.put]
            have hb4 : w2.heap.size < v3.heap.size := by have := (Array.getElem?_eq_some_iff.1 HP4.out.1.box).1; simpa using this
            clear HP HP0 HP1 HP2 hc hf
            go_wp2_with fail
            exact ⟨⟨m - 1, ps ++ [cv], pp2, pc2, A + 1, by congr 1; omega, by rw [el]; omega, by omega, by rw [el]; exact HP4⟩, by simp [intOf]; omega⟩
      · by_cases hm : 0 < m
        · have g1 : (0 : Int) < m := by omega
          have g2 : ¬ 0 < c3 := fun e => hgo ⟨hm, e⟩
          go_wp2_with fail
          refine bodyPost_ret (v := .agg #[.int .i64 9, .string tv, .int .i64 0, .int .u64 0, .string ⟨#[]⟩, .int .i64 c3, .int .i64 0, .int .i64 0, .int .i64 0, (.slice pp ps.length pc), .slice none 0 0]) (by simp [results, Tryd.results21, go_sem, hr]) rfl ?_
          exact sim9_done tv c3 HM.out HP.out (bset (Below.refl _ _) (Nat.le_refl _) _ _ _ _ _ _ _ _ _ _ _) (fun b hb => eleven9 wr w.heap.size b hb _ _ _ _ _ _ _ _ _ _ _) (by omega) HT9.out.1 HT9.out.2 u3 (by omega)
        · have g1 : ¬ (0 : Int) < m := by omega
          go_wp2_with fail
          refine bodyPost_ret (v := .agg #[.int .i64 9, .string tv, .int .i64 0, .int .u64 0, .string ⟨#[]⟩, .int .i64 c3, .int .i64 0, .int .i64 0, .int .i64 0, (.slice pp ps.length pc), .slice none 0 0]) (by simp [results, Tryd.results21, go_sem, hr]) rfl ?_
          exact sim9_done tv c3 HM.out HP.out (bset (Below.refl _ _) (Nat.le_refl _) _ _ _ _ _ _ _ _ _ _ _) (fun b hb => eleven9 wr w.heap.size b hb _ _ _ _ _ _ _ _ _ _ _) (by omega) HT9.out.1 HT9.out.2 u3 (by omega)
  · have hty2 : (c1 == 0) = false := by simpa using hty
    have hT : tyB 9 ⟨#[84]⟩ = true := tyB_decl 9 _ (by decide) (by decide) decl_T
    have ht0 : (⟨#[84]⟩ : ByteArray).size ≤ 100 := by decide
    go_wp2_with fail
    refine (next_det kb rp raw rc (at_ + 1 + 1) 3 _ ((HS1.out).maker HM.out) (by omega) (by omega) (by omega)).mono ?_
    rintro r w4 ⟨c2, rfl, d2, e2, hM2, hv2⟩
    have HS2 : Hid (Sb kb rp raw rc w w4 (at_ + 1 + 1 + 1) w2.heap.size #[.int .i64 9, .string ⟨#[84]⟩, .int .i64 0, .int .u64 0, .string ⟨#[]⟩, .int .i64 0, .int .i64 0, .int .i64 0, .int .i64 0, .slice none 0 0, .slice none 0 0]) := (HS1.out).next hM2 hv2
    clear hM2 hv2
    clear hc1 hf1 hr1 hg1 hz1 hy1
    have hc2 : ∀ i, w4.cell? ⟨w2.heap.size, i, none⟩ = _ := row_at HS2.out.box
    have hf2 := fun i => fz _ _ _ _ i HS2.out.box
    have hr2 : ∀ i, w4.cell? ⟨w.heap.size, i, none⟩ = (#[.int .i64 0, .string ⟨#[]⟩, .int .i64 0, .int .u64 0, .string ⟨#[]⟩, .int .i64 0, .int .i64 0, .int .i64 0, .int .i64 0, .slice none 0 0, .slice none 0 0] : Array Value)[i]? := row_at HS2.out.res
    have hg2 := fun i => fz _ _ _ _ i HS2.out.res
    have hz2 : w2.heap.size < w4.heap.size := (Array.getElem?_eq_some_iff.1 HS2.out.box).1
    have hy2 : w.heap.size < w4.heap.size := (Array.getElem?_eq_some_iff.1 HS2.out.res).1
    have q2 := nv_range raw (at_ + 1 + 1) 3 (by decide)
    have u2 : 0 ≤ c2 ∧ c2 ≤ 2 := by omega
    go_wp2_with fail
    refine (next_det kb rp raw rc (at_ + 1 + 1 + 1) 3 _ (((HS2.out).set 5 (.int .i64 c2)).maker HM.out) (by omega) (by omega) (by omega)).mono ?_
    rintro r w5 ⟨c3, rfl, d3, e3, hM3, hv3⟩
    have HS3 : Hid (Sb kb rp raw rc w w5 (at_ + 1 + 1 + 1 + 1) w2.heap.size #[.int .i64 9, .string ⟨#[84]⟩, .int .i64 0, .int .u64 0, .string ⟨#[]⟩, .int .i64 c2, .int .i64 0, .int .i64 0, .int .i64 0, .slice none 0 0, .slice none 0 0]) := ((HS2.out).set 5 (.int .i64 c2)).next hM3 hv3
    clear hM3 hv3
    clear hc2 hf2 hr2 hg2 hz2 hy2
    have hc3 : ∀ i, w5.cell? ⟨w2.heap.size, i, none⟩ = _ := row_at HS3.out.box
    have hf3 := fun i => fz _ _ _ _ i HS3.out.box
    have hr3 : ∀ i, w5.cell? ⟨w.heap.size, i, none⟩ = (#[.int .i64 0, .string ⟨#[]⟩, .int .i64 0, .int .u64 0, .string ⟨#[]⟩, .int .i64 0, .int .i64 0, .int .i64 0, .int .i64 0, .slice none 0 0, .slice none 0 0] : Array Value)[i]? := row_at HS3.out.res
    have hg3 := fun i => fz _ _ _ _ i HS3.out.res
    have hz3 : w2.heap.size < w5.heap.size := (Array.getElem?_eq_some_iff.1 HS3.out.box).1
    have hy3 : w.heap.size < w5.heap.size := (Array.getElem?_eq_some_iff.1 HS3.out.res).1
    have q3 := nv_range raw (at_ + 1 + 1 + 1) 3 (by decide)
    obtain ⟨m0, rfl⟩ : ∃ m : Nat, c3 = m := ⟨c3.toNat, by omega⟩
    have hm0 : m0 ≤ 2 := by omega
    have HT9 : Hid (tyB 9 ⟨#[84]⟩ = true ∧ (⟨#[84]⟩ : ByteArray).size ≤ 100) := ⟨hT, ht0⟩
    clear d3 e3 q3 d2 e2 q2 hT ht0
    go_wp2_with fail
    go_loopw [4] (fun i wr => ∃ (m : Nat) (ps : List Int) (pp : Option Addr) (pc A : Nat), i = .int .i64 m ∧ ps.length + m ≤ 2 ∧ A + m ≤ at_ + 8 ∧ Hid (P9 kb rp raw rc w wr A w2.heap.size #[.int .i64 9, .string ⟨#[84]⟩, .int .i64 0, .int .u64 0, .string ⟨#[]⟩, .int .i64 c2, .int .i64 0, .int .i64 0, .int .i64 0, (.slice pp ps.length pc), .slice none 0 0] c2 pp ps pc)) (fun i _ => (intOf i).toNat)
    case atStart => exact ⟨m0, [], none, 0, at_ + 1 + 1 + 1 + 1, rfl, by show 0 + m0 ≤ 2; omega, by omega, HS3.out, World.ownsRow_nil _ _ _ _, fun z hz => (by cases hz), fun _ => rfl⟩
    case round =>
      obtain ⟨m, ps, pp, pc, A, rfl, hm1, hm2, HP⟩ := hrel
      clear hc3 hf3 hr3 hg3 hz3 hy3
      have hc : ∀ i, wr.cell? ⟨w2.heap.size, i, none⟩ = _ := row_at HP.out.1.box
      have hf := fun i => fz _ _ _ _ i HP.out.1.box
      have hr : ∀ i, wr.cell? ⟨w.heap.size, i, none⟩ = (#[.int .i64 0, .string ⟨#[]⟩, .int .i64 0, .int .u64 0, .string ⟨#[]⟩, .int .i64 0, .int .i64 0, .int .i64 0, .int .i64 0, .slice none 0 0, .slice none 0 0] : Array Value)[i]? := row_at HP.out.1.res
      have hg := fun i => fz _ _ _ _ i HP.out.1.res
      have hz : w2.heap.size < wr.heap.size := (Array.getElem?_eq_some_iff.1 HP.out.1.box).1
      have hy : w.heap.size < wr.heap.size := (Array.getElem?_eq_some_iff.1 HP.out.1.res).1
      by_cases hgo : 0 < m ∧ 0 < c2
      · have g1 : (0 : Int) < m := by omega
        have g2 := hgo.2
        go_wp2_with fail
        clear hr hg
        refine wp_region_noPanic ?_
        refine wp_region_held (S := fun _ => True) (by kernel_rfl) ?_
        obtain ⟨v0, hv0⟩ : ∃ v0, v0 = wr.drew := ⟨_, rfl⟩
        have e4 : ({ wr with drawn := wr.drawn + 1 } : World) = v0 := hv0.symm
        rw [e4]
        have B0 : Below wr.heap.size wr v0 := by rw [hv0]; exact (Below.refl _ _).drew
        have HP0 : Hid (P9 kb rp raw rc w v0 A w2.heap.size #[.int .i64 9, .string ⟨#[84]⟩, .int .i64 0, .int .u64 0, .string ⟨#[]⟩, .int .i64 c2, .int .i64 0, .int .i64 0, .int .i64 0, (.slice pp ps.length pc), .slice none 0 0] c2 pp ps pc) := HP.out.below B0
        have hS : True := trivial
        clear e4 hv0 B0
        refine wpAnyH_take (i := 0) (v := .pointer (some ⟨w2.heap.size, 5, none⟩)) rfl (by kernel_rfl) (by kernel_rfl) (by kernel_rfl) (fun _ _ _ h => h) (Or.inl ⟨by rfl, ?r⟩) hS ?_
        case r => intro W hW; simp [go_sem, execOp, Act.eval]
        simp only [List.getElem_toArray, List.getElem_cons_zero, Act.put, List.setIfInBounds_toArray, List.set_cons_succ, List.set_cons_zero]
        refine wpAnyH_take (i := 1) (v := .pointer (some ⟨w2.heap.size, 9, none⟩)) rfl (by kernel_rfl) (by kernel_rfl) (by kernel_rfl) (fun _ _ _ h => h) (Or.inl ⟨by rfl, ?r⟩) hS ?_
        case r => intro W hW; simp [go_sem, execOp, Act.eval]
        simp only [List.getElem_toArray, List.getElem_cons_zero, List.getElem_cons_succ, Act.put, List.setIfInBounds_toArray, List.set_cons_succ, List.set_cons_zero]
        refine wpAnyH_take (i := 3) (v := .pointer (some ⟨kb, 0, none⟩)) rfl (by kernel_rfl) (by kernel_rfl) (by kernel_rfl) (fun _ _ _ h => h) (Or.inl ⟨by rfl, ?r⟩) hS ?_
        case r => intro W hW; simp [go_sem, execOp, Act.eval]
        simp only [List.getElem_toArray, List.getElem_cons_zero, List.getElem_cons_succ, Act.put, List.setIfInBounds_toArray, List.set_cons_succ, List.set_cons_zero]
        refine wpAnyH_all (rs := [2, 4]) (by kernel_rfl) (by simp) (fun i2 hi2 => ?_)
        obtain rfl | rfl : i2 = 2 ∨ i2 = 4 := by simpa using hi2
        · clear hi2
          refine wpOp_step rfl (fun K hK => ite_yes rfl ?_)
          simp only [List.getElem_toArray, List.getElem_cons_zero, List.getElem_cons_succ]
          have hl : ∀ q, v0.cell? ⟨w2.heap.size, q, none⟩ = (#[.int .i64 9, .string ⟨#[84]⟩, .int .i64 0, .int .u64 0, .string ⟨#[]⟩, .int .i64 c2, .int .i64 0, .int .i64 0, .int .i64 0, (.slice pp ps.length pc), .slice none 0 0] : Array Value)[q]? := row_at HP0.out.1.box
          go_simp
          refine hK _ _ ⟨trivial, ?_⟩
          clear hK K hl
          refine wpAnyH_all (rs := [4]) (by kernel_rfl) (by simp) (fun i2 hi2 => ?_)
          obtain rfl : i2 = 4 := by simpa using hi2
          clear hi2
          refine wpOp_step rfl (fun K hK => ite_yes rfl ?_)
          simp only [List.getElem_toArray, List.getElem_cons_zero, List.getElem_cons_succ]
          go_simp
          refine (next_det kb rp raw rc A 2 _ (HP0.out.1.maker HM.out) (by omega) (by decide) (by decide)).mono ?_
          rintro e v1 ⟨cv, rfl, cd, ce, hM1, hv1⟩
          have qv := nv_range raw A 2 (by decide)
          have HP1 : Hid (P9 kb rp raw rc w v1 (A + 1) w2.heap.size #[.int .i64 9, .string ⟨#[84]⟩, .int .i64 0, .int .u64 0, .string ⟨#[]⟩, .int .i64 c2, .int .i64 0, .int .i64 0, .int .i64 0, (.slice pp ps.length pc), .slice none 0 0] c2 pp ps pc) := HP0.out.next hM1 hv1
          go_simp
          refine hK _ _ ⟨trivial, ?_⟩
          clear hK K hM1 hv1
          refine wpAnyH_all (rs := [5]) (by kernel_rfl) (by simp) (fun i2 hi2 => ?_)
          obtain rfl : i2 = 5 := by simpa using hi2
          clear hi2
          refine wpOp_step rfl (fun K hK => ite_yes rfl ?_)
          simp only [List.getElem_toArray, List.getElem_cons_zero, List.getElem_cons_succ]
          go_simp
          have HP2 : Hid (P9 kb rp raw rc w (v1.alloc (.cells #[.int .i64 cv] 3)) (A + 1) w2.heap.size #[.int .i64 9, .string ⟨#[84]⟩, .int .i64 0, .int .u64 0, .string ⟨#[]⟩, .int .i64 c2, .int .i64 0, .int .i64 0, .int .i64 0, (.slice pp ps.length pc), .slice none 0 0] c2 pp ps pc) := HP1.out.below (below1 _ _)
          refine hK _ _ ⟨trivial, ?_⟩
          clear hK K
          refine wpAnyH_all (rs := [6]) (by kernel_rfl) (by simp) (fun i2 hi2 => ?_)
          obtain rfl : i2 = 6 := by simpa using hi2
          clear hi2
          refine wpOp_step rfl (fun K hK => ite_yes rfl ?_)
          simp only [List.getElem_toArray, List.getElem_cons_zero, List.getElem_cons_succ]
          obtain ⟨i3, hi3, hz30, hz31, hz32⟩ := info_parts info3z
          refine wp_append_own _ _ _ 22 rfl (w2.heap.size + 1) 3 i3 (.int .i64 0) 1 8 Tryd.underlying22 hi3 hz30 hz31 hz32 rfl (by decide) (.slice pp ps.length pc) ps.length (ps.map (Value.int .i64)) rfl HP2.out.2.1 ⟨v1.heap.size, 0, none⟩ 1 1 [.int .i64 cv] rfl rfl (fun q u hq => one_cell hq) (fun u hu => by simp at hu; rw [hu]; rfl) (by unfold maxLen; omega) (by omega) (by have := (Array.getElem?_eq_some_iff.1 HP2.out.1.box).1; omega) ?_
          intro vn v3 hown hgr _
          obtain ⟨pp2, pc2, rfl, HP3⟩ := P9.grown HP2.out hown hgr (by omega) (by omega) g2
          refine hK _ _ ⟨trivial, ?_⟩
          clear hK K hown hgr
          have hS : True := trivial
          refine wpAnyH_take (i := 7) (v := .pointer (some ⟨w2.heap.size, 5, none⟩)) rfl (by kernel_rfl) (by kernel_rfl) (by kernel_rfl) (fun _ _ _ h => h) (Or.inl ⟨by rfl, ?r⟩) hS ?_
          case r => intro W hW; simp [go_sem, execOp, Act.eval]
          simp only [List.getElem_toArray, List.getElem_cons_zero, List.getElem_cons_succ, Act.put, List.setIfInBounds_toArray, List.set_cons_succ, List.set_cons_zero]
          refine wpAnyH_take (i := 8) (v := .pointer (some ⟨w2.heap.size, 9, none⟩)) rfl (by kernel_rfl) (by kernel_rfl) (by kernel_rfl) (fun _ _ _ h => h) (Or.inl ⟨by rfl, ?r⟩) hS ?_
          case r => intro W hW; simp [go_sem, execOp, Act.eval]
          simp only [List.getElem_toArray, List.getElem_cons_zero, List.getElem_cons_succ, Act.put, List.setIfInBounds_toArray, List.set_cons_succ, List.set_cons_zero]
          refine wpAnyH_all (rs := [9]) (by kernel_rfl) (by simp) (fun i2 hi2 => ?_)
          obtain rfl : i2 = 9 := by simpa using hi2
          clear hi2
          refine wpOp_step rfl (fun K hK => ite_yes rfl ?_)
          simp only [List.getElem_toArray, List.getElem_cons_zero, List.getElem_cons_succ]
          have hs3 : ∀ q, v3.cell? ⟨w2.heap.size, q, none⟩ = (#[.int .i64 9, .string ⟨#[84]⟩, .int .i64 0, .int .u64 0, .string ⟨#[]⟩, .int .i64 c2, .int .i64 0, .int .i64 0, .int .i64 0, (.slice pp ps.length pc), .slice none 0 0] : Array Value)[q]? := row_at HP3.1.box
          have hf3 := fun i => fz _ _ _ _ i HP3.1.box
          have c9 : v3.cell? ⟨w2.heap.size, 9, none⟩ = some (.slice pp ps.length pc) := hs3 9
          have HP4 : Hid (P9 kb rp raw rc w (v3.setCell ⟨w2.heap.size, 9, none⟩ (.slice pp2 (ps ++ [cv]).length pc2)) (A + 1) w2.heap.size #[.int .i64 9, .string ⟨#[84]⟩, .int .i64 0, .int .u64 0, .string ⟨#[]⟩, .int .i64 c2, .int .i64 0, .int .i64 0, .int .i64 0, (.slice pp2 (ps ++ [cv]).length pc2), .slice none 0 0] c2 pp2 (ps ++ [cv]) pc2) := ⟨HP3.1.set 9 (.slice pp2 (ps ++ [cv]).length pc2), own_block HP3.2.1 (fun b b1 _ => Below.heap_setCell _ _ _ _ (show b ≠ w2.heap.size by omega)), HP3.2.2.1, HP3.2.2.2⟩
          have el : (ps ++ [cv]).length = ps.length + 1 := by simp
          rw [el] at HP4
          go_simp
          refine hK _ _ ⟨trivial, ?_⟩
          clear hK K hs3 hf3 c9 HP3
          refine wpAnyH_done (by kernel_rfl) ?_ _
          refine NoPanic.normal ?_
          try simp only [Act.put]
          have hb4 : w2.heap.size < v3.heap.size := by have := (Array.getElem?_eq_some_iff.1 HP4.out.1.box).1; simpa using this
          clear HP HP0 HP1 HP2 hc hf
          go_wp2_with fail
          exact ⟨⟨m - 1, ps ++ [cv], pp2, pc2, A + 1, by congr 1; omega, by rw [el]; omega, by omega, by rw [el]; exact HP4⟩, by simp [intOf]; omega⟩
        · clear hi2
          refine wpOp_step rfl (fun K hK => ite_yes rfl ?_)
          simp only [List.getElem_toArray, List.getElem_cons_zero, List.getElem_cons_succ]
          go_simp
          refine (next_det kb rp raw rc A 2 _ (HP0.out.1.maker HM.out) (by omega) (by decide) (by decide)).mono ?_
          rintro e v1 ⟨cv, rfl, cd, ce, hM1, hv1⟩
          have qv := nv_range raw A 2 (by decide)
          have HP1 : Hid (P9 kb rp raw rc w v1 (A + 1) w2.heap.size #[.int .i64 9, .string ⟨#[84]⟩, .int .i64 0, .int .u64 0, .string ⟨#[]⟩, .int .i64 c2, .int .i64 0, .int .i64 0, .int .i64 0, (.slice pp ps.length pc), .slice none 0 0] c2 pp ps pc) := HP0.out.next hM1 hv1
          go_simp
          refine hK _ _ ⟨trivial, ?_⟩
          clear hK K hM1 hv1
          refine wpAnyH_all (rs := [2, 5]) (by kernel_rfl) (by simp) (fun i2 hi2 => ?_)
          obtain rfl | rfl : i2 = 2 ∨ i2 = 5 := by simpa using hi2
          · clear hi2
            refine wpOp_step rfl (fun K hK => ite_yes rfl ?_)
            simp only [List.getElem_toArray, List.getElem_cons_zero, List.getElem_cons_succ]
            have hl : ∀ q, v1.cell? ⟨w2.heap.size, q, none⟩ = (#[.int .i64 9, .string ⟨#[84]⟩, .int .i64 0, .int .u64 0, .string ⟨#[]⟩, .int .i64 c2, .int .i64 0, .int .i64 0, .int .i64 0, (.slice pp ps.length pc), .slice none 0 0] : Array Value)[q]? := row_at HP1.out.1.box
            go_simp
            refine hK _ _ ⟨trivial, ?_⟩
            clear hK K hl
            refine wpAnyH_all (rs := [5]) (by kernel_rfl) (by simp) (fun i2 hi2 => ?_)
            obtain rfl : i2 = 5 := by simpa using hi2
            clear hi2
            refine wpOp_step rfl (fun K hK => ite_yes rfl ?_)
            simp only [List.getElem_toArray, List.getElem_cons_zero, List.getElem_cons_succ]
            go_simp
            have HP2 : Hid (P9 kb rp raw rc w (v1.alloc (.cells #[.int .i64 cv] 3)) (A + 1) w2.heap.size #[.int .i64 9, .string ⟨#[84]⟩, .int .i64 0, .int .u64 0, .string ⟨#[]⟩, .int .i64 c2, .int .i64 0, .int .i64 0, .int .i64 0, (.slice pp ps.length pc), .slice none 0 0] c2 pp ps pc) := HP1.out.below (below1 _ _)
            refine hK _ _ ⟨trivial, ?_⟩
            clear hK K
            refine wpAnyH_all (rs := [6]) (by kernel_rfl) (by simp) (fun i2 hi2 => ?_)
            obtain rfl : i2 = 6 := by simpa using hi2
            clear hi2
            refine wpOp_step rfl (fun K hK => ite_yes rfl ?_)
            simp only [List.getElem_toArray, List.getElem_cons_zero, List.getElem_cons_succ]
            obtain ⟨i3, hi3, hz30, hz31, hz32⟩ := info_parts info3z
            refine wp_append_own _ _ _ 22 rfl (w2.heap.size + 1) 3 i3 (.int .i64 0) 1 8 Tryd.underlying22 hi3 hz30 hz31 hz32 rfl (by decide) (.slice pp ps.length pc) ps.length (ps.map (Value.int .i64)) rfl HP2.out.2.1 ⟨v1.heap.size, 0, none⟩ 1 1 [.int .i64 cv] rfl rfl (fun q u hq => one_cell hq) (fun u hu => by simp at hu; rw [hu]; rfl) (by unfold maxLen; omega) (by omega) (by have := (Array.getElem?_eq_some_iff.1 HP2.out.1.box).1; omega) ?_
            intro vn v3 hown hgr _
            obtain ⟨pp2, pc2, rfl, HP3⟩ := P9.grown HP2.out hown hgr (by omega) (by omega) g2
            refine hK _ _ ⟨trivial, ?_⟩
            clear hK K hown hgr
            have hS : True := trivial
            refine wpAnyH_take (i := 7) (v := .pointer (some ⟨w2.heap.size, 5, none⟩)) rfl (by kernel_rfl) (by kernel_rfl) (by kernel_rfl) (fun _ _ _ h => h) (Or.inl ⟨by rfl, ?r⟩) hS ?_
            case r => intro W hW; simp [go_sem, execOp, Act.eval]
            simp only [List.getElem_toArray, List.getElem_cons_zero, List.getElem_cons_succ, Act.put, List.setIfInBounds_toArray, List.set_cons_succ, List.set_cons_zero]
            refine wpAnyH_take (i := 8) (v := .pointer (some ⟨w2.heap.size, 9, none⟩)) rfl (by kernel_rfl) (by kernel_rfl) (by kernel_rfl) (fun _ _ _ h => h) (Or.inl ⟨by rfl, ?r⟩) hS ?_
            case r => intro W hW; simp [go_sem, execOp, Act.eval]
            simp only [List.getElem_toArray, List.getElem_cons_zero, List.getElem_cons_succ, Act.put, List.setIfInBounds_toArray, List.set_cons_succ, List.set_cons_zero]
            refine wpAnyH_all (rs := [9]) (by kernel_rfl) (by simp) (fun i2 hi2 => ?_)
            obtain rfl : i2 = 9 := by simpa using hi2
            clear hi2
            refine wpOp_step rfl (fun K hK => ite_yes rfl ?_)
            simp only [List.getElem_toArray, List.getElem_cons_zero, List.getElem_cons_succ]
            have hs3 : ∀ q, v3.cell? ⟨w2.heap.size, q, none⟩ = (#[.int .i64 9, .string ⟨#[84]⟩, .int .i64 0, .int .u64 0, .string ⟨#[]⟩, .int .i64 c2, .int .i64 0, .int .i64 0, .int .i64 0, (.slice pp ps.length pc), .slice none 0 0] : Array Value)[q]? := row_at HP3.1.box
            have hf3 := fun i => fz _ _ _ _ i HP3.1.box
            have c9 : v3.cell? ⟨w2.heap.size, 9, none⟩ = some (.slice pp ps.length pc) := hs3 9
            have HP4 : Hid (P9 kb rp raw rc w (v3.setCell ⟨w2.heap.size, 9, none⟩ (.slice pp2 (ps ++ [cv]).length pc2)) (A + 1) w2.heap.size #[.int .i64 9, .string ⟨#[84]⟩, .int .i64 0, .int .u64 0, .string ⟨#[]⟩, .int .i64 c2, .int .i64 0, .int .i64 0, .int .i64 0, (.slice pp2 (ps ++ [cv]).length pc2), .slice none 0 0] c2 pp2 (ps ++ [cv]) pc2) := ⟨HP3.1.set 9 (.slice pp2 (ps ++ [cv]).length pc2), own_block HP3.2.1 (fun b b1 _ => Below.heap_setCell _ _ _ _ (show b ≠ w2.heap.size by omega)), HP3.2.2.1, HP3.2.2.2⟩
            have el : (ps ++ [cv]).length = ps.length + 1 := by simp
            rw [el] at HP4
            go_simp
            refine hK _ _ ⟨trivial, ?_⟩
            clear hK K hs3 hf3 c9 HP3
            refine wpAnyH_done (by kernel_rfl) ?_ _
            refine NoPanic.normal ?_
            try simp only [Act.put]
            have hb4 : w2.heap.size < v3.heap.size := by have := (Array.getElem?_eq_some_iff.1 HP4.out.1.box).1; simpa using this
            clear HP HP0 HP1 HP2 hc hf
            go_wp2_with fail
            exact ⟨⟨m - 1, ps ++ [cv], pp2, pc2, A + 1, by congr 1; omega, by rw [el]; omega, by omega, by rw [el]; exact HP4⟩, by simp [intOf]; omega⟩
          · clear hi2
            refine wpOp_step rfl (fun K hK => ite_yes rfl ?_)
            simp only [List.getElem_toArray, List.getElem_cons_zero, List.getElem_cons_succ]
            go_simp
            have HP2 : Hid (P9 kb rp raw rc w (v1.alloc (.cells #[.int .i64 cv] 3)) (A + 1) w2.heap.size #[.int .i64 9, .string ⟨#[84]⟩, .int .i64 0, .int .u64 0, .string ⟨#[]⟩, .int .i64 c2, .int .i64 0, .int .i64 0, .int .i64 0, (.slice pp ps.length pc), .slice none 0 0] c2 pp ps pc) := HP1.out.below (below1 _ _)
            refine hK _ _ ⟨trivial, ?_⟩
            clear hK K
            refine wpAnyH_all (rs := [2]) (by kernel_rfl) (by simp) (fun i2 hi2 => ?_)
            obtain rfl : i2 = 2 := by simpa using hi2
            clear hi2
            refine wpOp_step rfl (fun K hK => ite_yes rfl ?_)
            simp only [List.getElem_toArray, List.getElem_cons_zero, List.getElem_cons_succ]
            have hl : ∀ q, (v1.alloc (.cells #[.int .i64 cv] 3)).cell? ⟨w2.heap.size, q, none⟩ = (#[.int .i64 9, .string ⟨#[84]⟩, .int .i64 0, .int .u64 0, .string ⟨#[]⟩, .int .i64 c2, .int .i64 0, .int .i64 0, .int .i64 0, (.slice pp ps.length pc), .slice none 0 0] : Array Value)[q]? := row_at HP2.out.1.box
            go_simp
            refine hK _ _ ⟨trivial, ?_⟩
            clear hK K hl
            refine wpAnyH_all (rs := [6]) (by kernel_rfl) (by simp) (fun i2 hi2 => ?_)
            obtain rfl : i2 = 6 := by simpa using hi2
            clear hi2
            refine wpOp_step rfl (fun K hK => ite_yes rfl ?_)
            simp only [List.getElem_toArray, List.getElem_cons_zero, List.getElem_cons_succ]
            obtain ⟨i3, hi3, hz30, hz31, hz32⟩ := info_parts info3z
            refine wp_append_own _ _ _ 22 rfl (w2.heap.size + 1) 3 i3 (.int .i64 0) 1 8 Tryd.underlying22 hi3 hz30 hz31 hz32 rfl (by decide) (.slice pp ps.length pc) ps.length (ps.map (Value.int .i64)) rfl HP2.out.2.1 ⟨v1.heap.size, 0, none⟩ 1 1 [.int .i64 cv] rfl rfl (fun q u hq => one_cell hq) (fun u hu => by simp at hu; rw [hu]; rfl) (by unfold maxLen; omega) (by omega) (by have := (Array.getElem?_eq_some_iff.1 HP2.out.1.box).1; omega) ?_
            intro vn v3 hown hgr _
            obtain ⟨pp2, pc2, rfl, HP3⟩ := P9.grown HP2.out hown hgr (by omega) (by omega) g2
            refine hK _ _ ⟨trivial, ?_⟩
            clear hK K hown hgr
            have hS : True := trivial
            refine wpAnyH_take (i := 7) (v := .pointer (some ⟨w2.heap.size, 5, none⟩)) rfl (by kernel_rfl) (by kernel_rfl) (by kernel_rfl) (fun _ _ _ h => h) (Or.inl ⟨by rfl, ?r⟩) hS ?_
            case r => intro W hW; simp [go_sem, execOp, Act.eval]
            simp only [List.getElem_toArray, List.getElem_cons_zero, List.getElem_cons_succ, Act.put, List.setIfInBounds_toArray, List.set_cons_succ, List.set_cons_zero]
            refine wpAnyH_take (i := 8) (v := .pointer (some ⟨w2.heap.size, 9, none⟩)) rfl (by kernel_rfl) (by kernel_rfl) (by kernel_rfl) (fun _ _ _ h => h) (Or.inl ⟨by rfl, ?r⟩) hS ?_
            case r => intro W hW; simp [go_sem, execOp, Act.eval]
            simp only [List.getElem_toArray, List.getElem_cons_zero, List.getElem_cons_succ, Act.put, List.setIfInBounds_toArray, List.set_cons_succ, List.set_cons_zero]
            refine wpAnyH_all (rs := [9]) (by kernel_rfl) (by simp) (fun i2 hi2 => ?_)
            obtain rfl : i2 = 9 := by simpa using hi2
            clear hi2
            refine wpOp_step rfl (fun K hK => ite_yes rfl ?_)
            simp only [List.getElem_toArray, List.getElem_cons_zero, List.getElem_cons_succ]
            have hs3 : ∀ q, v3.cell? ⟨w2.heap.size, q, none⟩ = (#[.int .i64 9, .string ⟨#[84]⟩, .int .i64 0, .int .u64 0, .string ⟨#[]⟩, .int .i64 c2, .int .i64 0, .int .i64 0, .int .i64 0, (.slice pp ps.length pc), .slice none 0 0] : Array Value)[q]? := row_at HP3.1.box
            have hf3 := fun i => fz _ _ _ _ i HP3.1.box
            have c9 : v3.cell? ⟨w2.heap.size, 9, none⟩ = some (.slice pp ps.length pc) := hs3 9
            have HP4 : Hid (P9 kb rp raw rc w (v3.setCell ⟨w2.heap.size, 9, none⟩ (.slice pp2 (ps ++ [cv]).length pc2)) (A + 1) w2.heap.size #[.int .i64 9, .string ⟨#[84]⟩, .int .i64 0, .int .u64 0, .string ⟨#[]⟩, .int .i64 c2, .int .i64 0, .int .i64 0, .int .i64 0, (.slice pp2 (ps ++ [cv]).length pc2), .slice none 0 0] c2 pp2 (ps ++ [cv]) pc2) := ⟨HP3.1.set 9 (.slice pp2 (ps ++ [cv]).length pc2), own_block HP3.2.1 (fun b b1 _ => Below.heap_setCell _ _ _ _ (show b ≠ w2.heap.size by omega)), HP3.2.2.1, HP3.2.2.2⟩
            have el : (ps ++ [cv]).length = ps.length + 1 := by simp
            rw [el] at HP4
            go_simp
            refine hK _ _ ⟨trivial, ?_⟩
            clear hK K hs3 hf3 c9 HP3
            refine wpAnyH_done (by kernel_rfl) ?_ _
            refine NoPanic.normal ?_
            try simp only [Act.put]
            have hb4 : w2.heap.size < v3.heap.size := by have := (Array.getElem?_eq_some_iff.1 HP4.out.1.box).1; simpa using this
            clear HP HP0 HP1 HP2 hc hf
            go_wp2_with fail
            exact ⟨⟨m - 1, ps ++ [cv], pp2, pc2, A + 1, by congr 1; omega, by rw [el]; omega, by omega, by rw [el]; exact HP4⟩, by simp [intOf]; omega⟩
      · by_cases hm : 0 < m
        · have g1 : (0 : Int) < m := by omega
          have g2 : ¬ 0 < c2 := fun e => hgo ⟨hm, e⟩
          go_wp2_with fail
          refine bodyPost_ret (v := .agg #[.int .i64 9, .string ⟨#[84]⟩, .int .i64 0, .int .u64 0, .string ⟨#[]⟩, .int .i64 c2, .int .i64 0, .int .i64 0, .int .i64 0, (.slice pp ps.length pc), .slice none 0 0]) (by simp [results, Tryd.results21, go_sem, hr]) rfl ?_
          exact sim9_done ⟨#[84]⟩ c2 HM.out HP.out (bset (Below.refl _ _) (Nat.le_refl _) _ _ _ _ _ _ _ _ _ _ _) (fun b hb => eleven9 wr w.heap.size b hb _ _ _ _ _ _ _ _ _ _ _) (by omega) HT9.out.1 HT9.out.2 u2 (by omega)
        · have g1 : ¬ (0 : Int) < m := by omega
          go_wp2_with fail
          refine bodyPost_ret (v := .agg #[.int .i64 9, .string ⟨#[84]⟩, .int .i64 0, .int .u64 0, .string ⟨#[]⟩, .int .i64 c2, .int .i64 0, .int .i64 0, .int .i64 0, (.slice pp ps.length pc), .slice none 0 0]) (by simp [results, Tryd.results21, go_sem, hr]) rfl ?_
          exact sim9_done ⟨#[84]⟩ c2 HM.out HP.out (bset (Below.refl _ _) (Nat.le_refl _) _ _ _ _ _ _ _ _ _ _ _) (fun b hb => eleven9 wr w.heap.size b hb _ _ _ _ _ _ _ _ _ _ _) (by omega) HT9.out.1 HT9.out.2 u2 (by omega)
end Go.Proofs.YtnhbpcmiolkllabDoor
