/-
  The answer's equal: structs.
-/
import Derived.Test.YtnhbpcmiolkllaaDoorGc2
namespace Go.Proofs.YtnhbpcmiolkllaaDoor
open Go.RowKit
attribute [local go_sem] refold2 cell3_0 cell3_1 b28_0 b28_01

/-- The fault's word, by the type at which one can't say it. -/
def fw (c : ByteArray) : ByteArray := if c.size = 0 then ⟨#[]⟩ else ⟨#[99, 111, 109, 112, 97, 114, 101]⟩
def RefEqC (n : Nat) : Prop := ∀ (a b : MD) (w : World), MD.In w.heap.size w n a → MD.In w.heap.size w n b → MD.full n a = true → MD.full n b = true → Calls Tryd.prog 23 #[a.val, b.val] w fun r w' => r = .returned (.tuple #[.bool (MD.eqv n a b).1, .agg #[.string (fw (MD.eqv n a b).2), .string (MD.eqv n a b).2]]) ∧ Below w.heap.size w w'
set_option maxRecDepth 100000 in
set_option maxHeartbeats 16000000 in
theorem refEq_8 (n : Nat) (hI : RefEqC n) (t : ByteArray) (a a' f f' r0 r0' r1 r1' r2 r2' r3 r3' : Int) (s s' : ByteArray) (pp pp' ip ip' : Option Addr) (pl pl' pc pc' : Nat) (items items' : List MD) (ic ic' : Nat) (h h' : Hd) (w : World) (hx : MD.ItemsIn w.heap.size w n ⟨h, ip, ic, items⟩) (hy : MD.ItemsIn w.heap.size w n ⟨h', ip', ic', items'⟩) (hl : items.length ≤ maxLen) (fx : items.all (MD.full n) = true) (fy : items'.all (MD.full n) = true) (fb : Bool) (fc : ByteArray) (hfin : (if items.length = items'.length then allEq (MD.eqv n) items items' else (false, ⟨#[]⟩)) = (fb, fc)) :
    Calls Tryd.prog 23 #[.agg #[.int .i64 8, .string t, .int .i64 a, .int .u64 f, .string s, .int .i64 r0, .int .i64 r1, .int .i64 r2, .int .i64 r3, .slice pp pl pc, .slice ip items.length ic], .agg #[.int .i64 8, .string t, .int .i64 a', .int .u64 f', .string s', .int .i64 r0', .int .i64 r1', .int .i64 r2', .int .i64 r3', .slice pp' pl' pc', .slice ip' items'.length ic']] w fun r w' => r = .returned (.tuple #[.bool fb, .agg #[.string (fw fc), .string fc]]) ∧ Below w.heap.size w w' := by
  have HO : Hid (∀ W, Calls Tryd.prog 44 #[.agg #[.int .i64 8, .string t, .int .i64 a, .int .u64 f, .string s, .int .i64 r0, .int .i64 r1, .int .i64 r2, .int .i64 r3, .slice pp pl pc, .slice ip items.length ic], .agg #[.int .i64 8, .string t, .int .i64 a', .int .u64 f', .string s', .int .i64 r0', .int .i64 r1', .int .i64 r2', .int .i64 r3', .slice pp' pl' pc', .slice ip' items'.length ic']] W fun r w' => r = .returned (.bool true) ∧ Below W.heap.size W w') := fun W => (one_any 8 8 t t a a' f f' r0 r0' r1 r1' r2 r2' r3 r3' s s' pp pp' ip ip' pl pl' pc pc' items.length items'.length ic ic' W).mono fun _ _ h => ⟨by rw [h.1]; simp, h.2⟩
  have hb53 := b53_0
  have HX : Hid (MD.ItemsIn w.heap.size w n ⟨h, ip, ic, items⟩) := hx
  have HY : Hid (MD.ItemsIn w.heap.size w n ⟨h', ip', ic', items'⟩) := hy
  have HFX : Hid (∀ q ∈ items, MD.full n q = true) := List.all_eq_true.1 fx
  have HFY : Hid (∀ q ∈ items', MD.full n q = true) := List.all_eq_true.1 fy
  have HI : Hid (RefEqC n) := hI
  unfold maxLen at hl
  clear hx hy fx fy hI
  go_enter Tryd.func23, Tryd.ntmps23
  go_wp2_with fail
  refine (HO.out _).mono ?_
  rintro r w1 ⟨rfl, b1⟩
  obtain ⟨e1, d1, g1, z1⟩ := three_kept _ _ _ _ _ b1
  have gc := row_at g1
  have gf := fun j => fz _ _ _ _ j g1
  have q1 : Below w.heap.size w w1 := (below3 _ _ _ _).trans (b1.mono (by simp; omega))
  have HK : Hid (∀ W, Below w1.heap.size w1 W → (∀ j, W.cell? ⟨w.heap.size, j, none⟩ = (#[.int .i64 8, .string t, .int .i64 a, .int .u64 f, .string s, .int .i64 r0, .int .i64 r1, .int .i64 r2, .int .i64 r3, .slice pp pl pc, .slice ip items.length ic] : Array Value)[j]?) ∧ (∀ j, W.cell? ⟨w.heap.size + 1, j, none⟩ = (#[.int .i64 8, .string t, .int .i64 a', .int .u64 f', .string s', .int .i64 r0', .int .i64 r1', .int .i64 r2', .int .i64 r3', .slice pp' pl' pc', .slice ip' items'.length ic'] : Array Value)[j]?) ∧ W.heap[w.heap.size + 1 + 1]? = some (.cells #[.string ⟨#[]⟩, .string ⟨#[]⟩] 53 (0, 0))) := fun W hW =>
    ⟨fun j => by rw [← e1 j]; exact hW.cell (by show w.heap.size < _; omega), fun j => by rw [← d1 j]; exact hW.cell (by show w.heap.size + 1 < _; omega), (hW.block _ (by omega)).trans g1⟩
  by_cases hle : items.length = items'.length
  · rw [if_pos hle] at hfin
    have HLE : Hid (items.length = items'.length) := hle
    have hle2 : (items.length : Int) = items'.length := by omega
    have HF : Hid (allEq (MD.eqv n) items items' = (fb, fc)) := hfin
    clear b1 g1 gc gf hfin hle
    go_wp2_with fail
    go_loopw [11, 12, 13] (fun i _ _ wr => AllRel n items items' w1 i wr) (fun i _ _ _ => items.length - (intOf i).toNat)
    case atStart => exact ⟨0, Nat.zero_le _, rfl, rfl, Below.refl _ _⟩
    case round =>
      obtain ⟨j, hj, rfl, hae', hb'⟩ := hrel
      have HT : Hid (allEq (MD.eqv n) items items' = allEq (MD.eqv n) (items.drop j) (items'.drop j) ∧ Below w1.heap.size w1 wr) := ⟨hae', hb'⟩
      have hz := hb'.size
      have hcA := (HK.out _ hb').1
      have hcB := (HK.out _ hb').2.1
      have hq : Below w.heap.size w wr := q1.trans (hb'.mono q1.size)
      have HQ : Hid (Below w.heap.size w wr) := hq
      by_cases hlt : j < items.length
      · have i1 : (j : Int) < items.length := by omega
        have hlt' : j < items'.length := HLE.out ▸ hlt
        obtain ⟨bb, o, rfl, hbB, hC, hIn⟩ : ∃ bb o, ip = some ⟨bb, o, none⟩ ∧ bb < w.heap.size ∧ MD.CellsAt wr bb (o + j * 11) items[j] ∧ MD.In w.heap.size wr n items[j] := by
          rcases MD.ItemsIn.below HX.out hq with e | ⟨bb, o, e1, e2, e3⟩
          · have e' : items = [] := e
            rw [e'] at hlt; simp at hlt
          · exact ⟨bb, o, e1, e2, e3 j hlt⟩
        obtain ⟨bc, p, rfl, hbB', hC', hIn'⟩ : ∃ bb o, ip' = some ⟨bb, o, none⟩ ∧ bb < w.heap.size ∧ MD.CellsAt wr bb (o + j * 11) items'[j] ∧ MD.In w.heap.size wr n items'[j] := by
          rcases MD.ItemsIn.below HY.out hq with e | ⟨bb, o, e1, e2, e3⟩
          · have e' : items' = [] := e
            rw [e'] at hlt'; simp at hlt'
          · exact ⟨bb, o, e1, e2, e3 j hlt'⟩
        have HS : Hid (allEq (MD.eqv n) (items.drop j) (items'.drop j) = if (MD.eqv n items[j] items'[j]).1 = true then allEq (MD.eqv n) (items.drop (j + 1)) (items'.drop (j + 1)) else (false, (MD.eqv n items[j] items'[j]).2)) := by
          show _ = _
          rw [List.drop_eq_getElem_cons hlt, List.drop_eq_getElem_cons hlt']; rfl
        have HU : Hid (MD.full n items[j] = true ∧ MD.full n items'[j] = true) := ⟨HFX.out _ (List.getElem_mem hlt), HFY.out _ (List.getElem_mem hlt')⟩
        generalize items[j] = kid at hC hIn HS HU
        generalize items'[j] = lid at hC' hIn' HS HU
        obtain ⟨⟨k0, k1, k2, k3, k4, k5, k6, k7, k8, kp, kpath, kpc⟩, kip, kic, kit⟩ := kid
        obtain ⟨⟨l0, l1, l2, l3, l4, l5, l6, l7, l8, lp, lpath, lpc⟩, lip, lic, lit⟩ := lid
        obtain ⟨q, c, hqc⟩ : ∃ q c, MD.eqv n ⟨⟨k0, k1, k2, k3, k4, k5, k6, k7, k8, kp, kpath, kpc⟩, kip, kic, kit⟩ ⟨⟨l0, l1, l2, l3, l4, l5, l6, l7, l8, lp, lpath, lpc⟩, lip, lic, lit⟩ = (q, c) := ⟨_, _, rfl⟩
        rw [hqc] at HS
        simp only at HS
        have HC : Hid (∀ W, Below wr.heap.size wr W → Calls Tryd.prog 23 #[.agg #[.int .i64 k0, .string k1, .int .i64 k2, .int .u64 k3, .string k4, .int .i64 k5, .int .i64 k6, .int .i64 k7, .int .i64 k8, .slice kp kpath.length kpc, .slice kip kit.length kic], .agg #[.int .i64 l0, .string l1, .int .i64 l2, .int .u64 l3, .string l4, .int .i64 l5, .int .i64 l6, .int .i64 l7, .int .i64 l8, .slice lp lpath.length lpc, .slice lip lit.length lic]] W fun r w' => r = .returned (.tuple #[.bool q, .agg #[.string (fw c), .string c]]) ∧ Below W.heap.size W w') := fun W hW => by
          have h := HI.out ⟨⟨k0, k1, k2, k3, k4, k5, k6, k7, k8, kp, kpath, kpc⟩, kip, kic, kit⟩ ⟨⟨l0, l1, l2, l3, l4, l5, l6, l7, l8, lp, lpath, lpc⟩, lip, lic, lit⟩ W (hIn.later (by omega) hW) (hIn'.later (by omega) hW) HU.out.1 HU.out.2
          rw [hqc] at h
          exact h
        have HK2 : Hid (∀ W, Below wr.heap.size wr W → (∀ i, W.cell? ⟨w.heap.size, i, none⟩ = (#[.int .i64 8, .string t, .int .i64 a, .int .u64 f, .string s, .int .i64 r0, .int .i64 r1, .int .i64 r2, .int .i64 r3, .slice pp pl pc, .slice (some ⟨bb, o, none⟩) items.length ic] : Array Value)[i]?) ∧ (∀ i, W.cell? ⟨w.heap.size + 1, i, none⟩ = (#[.int .i64 8, .string t, .int .i64 a', .int .u64 f', .string s', .int .i64 r0', .int .i64 r1', .int .i64 r2', .int .i64 r3', .slice pp' pl' pc', .slice (some ⟨bc, p, none⟩) items'.length ic'] : Array Value)[i]?) ∧ (∀ i, i < 11 → W.cell? ⟨bb, o + j * 11 + i, none⟩ = (#[.int .i64 k0, .string k1, .int .i64 k2, .int .u64 k3, .string k4, .int .i64 k5, .int .i64 k6, .int .i64 k7, .int .i64 k8, .slice kp kpath.length kpc, .slice kip kit.length kic] : Array Value)[i]?) ∧ (∀ i, i < 11 → W.cell? ⟨bc, p + j * 11 + i, none⟩ = (#[.int .i64 l0, .string l1, .int .i64 l2, .int .u64 l3, .string l4, .int .i64 l5, .int .i64 l6, .int .i64 l7, .int .i64 l8, .slice lp lpath.length lpc, .slice lip lit.length lic] : Array Value)[i]?)) := fun W hW =>
          ⟨fun i => (hW.cell (p := ⟨w.heap.size, i, none⟩) (by show w.heap.size < _; omega)).trans (hcA i), fun i => (hW.cell (p := ⟨w.heap.size + 1, i, none⟩) (by show w.heap.size + 1 < _; omega)).trans (hcB i),
           fun i hi => (hW.cell (p := ⟨bb, o + j * 11 + i, none⟩) (by show bb < _; omega)).trans (hC i hi), fun i hi => (hW.cell (p := ⟨bc, p + j * 11 + i, none⟩) (by show bc < _; omega)).trans (hC' i hi)⟩
        have i2 : (j : Int) < items'.length := by omega
        clear hC hC' hIn hIn' HI HU hqc hb' hae' hq
        go_wp2_with fail
        refine wp_region_noPanic ?_
        refine wp_region_held (S := fun W => (∀ i, W.cell? ⟨w.heap.size, i, none⟩ = (#[.int .i64 8, .string t, .int .i64 a, .int .u64 f, .string s, .int .i64 r0, .int .i64 r1, .int .i64 r2, .int .i64 r3, .slice pp pl pc, .slice (some ⟨bb, o, none⟩) items.length ic] : Array Value)[i]?) ∧ (∀ i, W.cell? ⟨w.heap.size + 1, i, none⟩ = (#[.int .i64 8, .string t, .int .i64 a', .int .u64 f', .string s', .int .i64 r0', .int .i64 r1', .int .i64 r2', .int .i64 r3', .slice pp' pl' pc', .slice (some ⟨bc, p, none⟩) items'.length ic'] : Array Value)[i]?) ∧ (∀ i, i < 11 → W.cell? ⟨bb, o + j * 11 + i, none⟩ = (#[.int .i64 k0, .string k1, .int .i64 k2, .int .u64 k3, .string k4, .int .i64 k5, .int .i64 k6, .int .i64 k7, .int .i64 k8, .slice kp kpath.length kpc, .slice kip kit.length kic] : Array Value)[i]?) ∧ (∀ i, i < 11 → W.cell? ⟨bc, p + j * 11 + i, none⟩ = (#[.int .i64 l0, .string l1, .int .i64 l2, .int .u64 l3, .string l4, .int .i64 l5, .int .i64 l6, .int .i64 l7, .int .i64 l8, .slice lp lpath.length lpc, .slice lip lit.length lic] : Array Value)[i]?)) (by kernel_rfl) ?_
        obtain ⟨W4, hW4⟩ : ∃ W4, W4 = wr.drew := ⟨_, rfl⟩
        have e4 : ({ wr with drawn := wr.drawn + 1 } : World) = W4 := hW4.symm
        rw [e4]
        have hB4 : Below wr.heap.size wr W4 := by rw [hW4]; exact (Below.refl _ _).drew
        have hS := HK2.out W4 hB4
        have hz4 := hB4.size
        clear e4 hW4
        refine wpAnyH_take (i := 0) (v := .pointer (some ⟨w.heap.size, 10, none⟩)) rfl (by kernel_rfl) (by kernel_rfl) (by kernel_rfl) (fun _ _ _ h => h) (Or.inl ⟨by rfl, ?r⟩) hS ?_
        case r => intro W hW; simp [go_sem, execOp, Act.eval]
        simp only [List.getElem_toArray, List.getElem_cons_zero, Act.put, List.setIfInBounds_toArray, List.set_cons_succ, List.set_cons_zero]
        refine wpAnyH_take (i := 1) (v := .slice (some ⟨bb, o, none⟩) items.length ic) rfl (by kernel_rfl) (by kernel_rfl) (by kernel_rfl) (fun _ _ _ h => h) (Or.inl ⟨by rfl, ?r⟩) hS ?_
        case r => intro W hW; simp [go_sem, execOp, Act.eval, hW.1]
        simp only [List.getElem_toArray, List.getElem_cons_zero, List.getElem_cons_succ, Act.put, List.setIfInBounds_toArray, List.set_cons_succ, List.set_cons_zero]
        refine wpAnyH_take (i := 2) (v := .int .i64 j) rfl (by kernel_rfl) (by kernel_rfl) (by kernel_rfl) (fun _ _ _ h => h) (Or.inl ⟨by rfl, ?r⟩) hS ?_
        case r => intro W hW; simp [go_sem, execOp, Act.eval]
        simp only [List.getElem_toArray, List.getElem_cons_zero, List.getElem_cons_succ, Act.put, List.setIfInBounds_toArray, List.set_cons_succ, List.set_cons_zero]
        refine wpAnyH_take (i := 3) (v := .pointer (some ⟨bb, o + j * 11, none⟩)) rfl (by kernel_rfl) (by kernel_rfl) (by kernel_rfl) (fun _ _ _ h => h) (Or.inl ⟨by rfl, ?r⟩) hS ?_
        case r => intro W hW; simp [go_sem, execOp, Act.eval, i1]
        simp only [List.getElem_toArray, List.getElem_cons_zero, List.getElem_cons_succ, Act.put, List.setIfInBounds_toArray, List.set_cons_succ, List.set_cons_zero]
        refine wpAnyH_take (i := 4) (v := .agg #[.int .i64 k0, .string k1, .int .i64 k2, .int .u64 k3, .string k4, .int .i64 k5, .int .i64 k6, .int .i64 k7, .int .i64 k8, .slice kp kpath.length kpc, .slice kip kit.length kic]) rfl (by kernel_rfl) (by kernel_rfl) (by kernel_rfl) (fun _ _ _ h => h) (Or.inl ⟨by rfl, ?r⟩) hS ?_
        case r => intro W hW; have e0 : W.cell? ⟨bb, o + j * 11, none⟩ = some (.int .i64 k0) := hW.2.2.1 0 (by omega); have e1 : W.cell? ⟨bb, o + j * 11 + 1, none⟩ = some (.string k1) := hW.2.2.1 1 (by omega); have e2 : W.cell? ⟨bb, o + j * 11 + 2, none⟩ = some (.int .i64 k2) := hW.2.2.1 2 (by omega); have e3 : W.cell? ⟨bb, o + j * 11 + 3, none⟩ = some (.int .u64 k3) := hW.2.2.1 3 (by omega); have e4 : W.cell? ⟨bb, o + j * 11 + 4, none⟩ = some (.string k4) := hW.2.2.1 4 (by omega); have e5 : W.cell? ⟨bb, o + j * 11 + 5, none⟩ = some (.int .i64 k5) := hW.2.2.1 5 (by omega); have e6 : W.cell? ⟨bb, o + j * 11 + 6, none⟩ = some (.int .i64 k6) := hW.2.2.1 6 (by omega); have e7 : W.cell? ⟨bb, o + j * 11 + 7, none⟩ = some (.int .i64 k7) := hW.2.2.1 7 (by omega); have e8 : W.cell? ⟨bb, o + j * 11 + 8, none⟩ = some (.int .i64 k8) := hW.2.2.1 8 (by omega); have e9 : W.cell? ⟨bb, o + j * 11 + 9, none⟩ = some (.slice kp kpath.length kpc) := hW.2.2.1 9 (by omega); have e10 : W.cell? ⟨bb, o + j * 11 + 10, none⟩ = some (.slice kip kit.length kic) := hW.2.2.1 10 (by omega); simp [go_sem, execOp, Act.eval, e0, e1, e2, e3, e4, e5, e6, e7, e8, e9, e10]
        simp only [List.getElem_toArray, List.getElem_cons_zero, List.getElem_cons_succ, Act.put, List.setIfInBounds_toArray, List.set_cons_succ, List.set_cons_zero]
        refine wpAnyH_take (i := 5) (v := .pointer (some ⟨w.heap.size + 1, 10, none⟩)) rfl (by kernel_rfl) (by kernel_rfl) (by kernel_rfl) (fun _ _ _ h => h) (Or.inl ⟨by rfl, ?r⟩) hS ?_
        case r => intro W hW; simp [go_sem, execOp, Act.eval]
        simp only [List.getElem_toArray, List.getElem_cons_zero, List.getElem_cons_succ, Act.put, List.setIfInBounds_toArray, List.set_cons_succ, List.set_cons_zero]
        refine wpAnyH_take (i := 6) (v := .slice (some ⟨bc, p, none⟩) items'.length ic') rfl (by kernel_rfl) (by kernel_rfl) (by kernel_rfl) (fun _ _ _ h => h) (Or.inl ⟨by rfl, ?r⟩) hS ?_
        case r => intro W hW; simp [go_sem, execOp, Act.eval, hW.2.1]
        simp only [List.getElem_toArray, List.getElem_cons_zero, List.getElem_cons_succ, Act.put, List.setIfInBounds_toArray, List.set_cons_succ, List.set_cons_zero]
        refine wpAnyH_take (i := 7) (v := .int .i64 j) rfl (by kernel_rfl) (by kernel_rfl) (by kernel_rfl) (fun _ _ _ h => h) (Or.inl ⟨by rfl, ?r⟩) hS ?_
        case r => intro W hW; simp [go_sem, execOp, Act.eval]
        simp only [List.getElem_toArray, List.getElem_cons_zero, List.getElem_cons_succ, Act.put, List.setIfInBounds_toArray, List.set_cons_succ, List.set_cons_zero]
        refine wpAnyH_take (i := 8) (v := .pointer (some ⟨bc, p + j * 11, none⟩)) rfl (by kernel_rfl) (by kernel_rfl) (by kernel_rfl) (fun _ _ _ h => h) (Or.inl ⟨by rfl, ?r⟩) hS ?_
        case r => intro W hW; simp [go_sem, execOp, Act.eval, i2]
        simp only [List.getElem_toArray, List.getElem_cons_zero, List.getElem_cons_succ, Act.put, List.setIfInBounds_toArray, List.set_cons_succ, List.set_cons_zero]
        refine wpAnyH_take (i := 9) (v := .agg #[.int .i64 l0, .string l1, .int .i64 l2, .int .u64 l3, .string l4, .int .i64 l5, .int .i64 l6, .int .i64 l7, .int .i64 l8, .slice lp lpath.length lpc, .slice lip lit.length lic]) rfl (by kernel_rfl) (by kernel_rfl) (by kernel_rfl) (fun _ _ _ h => h) (Or.inl ⟨by rfl, ?r⟩) hS ?_
        case r => intro W hW; have e0 : W.cell? ⟨bc, p + j * 11, none⟩ = some (.int .i64 l0) := hW.2.2.2 0 (by omega); have e1 : W.cell? ⟨bc, p + j * 11 + 1, none⟩ = some (.string l1) := hW.2.2.2 1 (by omega); have e2 : W.cell? ⟨bc, p + j * 11 + 2, none⟩ = some (.int .i64 l2) := hW.2.2.2 2 (by omega); have e3 : W.cell? ⟨bc, p + j * 11 + 3, none⟩ = some (.int .u64 l3) := hW.2.2.2 3 (by omega); have e4 : W.cell? ⟨bc, p + j * 11 + 4, none⟩ = some (.string l4) := hW.2.2.2 4 (by omega); have e5 : W.cell? ⟨bc, p + j * 11 + 5, none⟩ = some (.int .i64 l5) := hW.2.2.2 5 (by omega); have e6 : W.cell? ⟨bc, p + j * 11 + 6, none⟩ = some (.int .i64 l6) := hW.2.2.2 6 (by omega); have e7 : W.cell? ⟨bc, p + j * 11 + 7, none⟩ = some (.int .i64 l7) := hW.2.2.2 7 (by omega); have e8 : W.cell? ⟨bc, p + j * 11 + 8, none⟩ = some (.int .i64 l8) := hW.2.2.2 8 (by omega); have e9 : W.cell? ⟨bc, p + j * 11 + 9, none⟩ = some (.slice lp lpath.length lpc) := hW.2.2.2 9 (by omega); have e10 : W.cell? ⟨bc, p + j * 11 + 10, none⟩ = some (.slice lip lit.length lic) := hW.2.2.2 10 (by omega); simp [go_sem, execOp, Act.eval, e0, e1, e2, e3, e4, e5, e6, e7, e8, e9, e10]
        simp only [List.getElem_toArray, List.getElem_cons_zero, List.getElem_cons_succ, Act.put, List.setIfInBounds_toArray, List.set_cons_succ, List.set_cons_zero]
        refine wpAnyH_all (rs := [10, 14]) (by kernel_rfl) (by simp) (fun i2 hi2 => ?_)
        obtain rfl | rfl : i2 = 10 ∨ i2 = 14 := by simpa using hi2
        · clear hi2
          refine wpOp_step rfl (fun K hK => ite_yes rfl ?_)
          simp only [List.getElem_toArray, List.getElem_cons_zero, List.getElem_cons_succ]
          go_simp
          refine (HC.out _ hB4).mono ?_
          rintro e w9 ⟨rfl, b9⟩
          go_simp
          have h9 : Below wr.heap.size wr w9 := hB4.trans (b9.mono hB4.size)
          have hz9 := h9.size
          refine hK _ _ ⟨HK2.out _ h9, ?_⟩
          clear hK K hS
          have hS := HK2.out _ h9
          refine wpAnyH_take (i := 11) (v := .tuple #[.bool q, .agg #[.string (fw c), .string c]]) rfl (by kernel_rfl) (by kernel_rfl) (by kernel_rfl) (fun _ _ _ h => h) (Or.inl ⟨by rfl, ?r⟩) hS ?_
          case r => intro W hW; simp [go_sem, execOp, Act.eval]
          simp only [List.getElem_toArray, List.getElem_cons_zero, List.getElem_cons_succ, Act.put, List.setIfInBounds_toArray, List.set_cons_succ, List.set_cons_zero]
          refine wpAnyH_take (i := 12) (v := .bool q) rfl (by kernel_rfl) (by kernel_rfl) (by kernel_rfl) (fun _ _ _ h => h) (Or.inl ⟨by rfl, ?r⟩) hS ?_
          case r => intro W hW; simp [go_sem, execOp, Act.eval]
          simp only [List.getElem_toArray, List.getElem_cons_zero, List.getElem_cons_succ, Act.put, List.setIfInBounds_toArray, List.set_cons_succ, List.set_cons_zero]
          refine wpAnyH_take (i := 13) (v := .agg #[.string (fw c), .string c]) rfl (by kernel_rfl) (by kernel_rfl) (by kernel_rfl) (fun _ _ _ h => h) (Or.inl ⟨by rfl, ?r⟩) hS ?_
          case r => intro W hW; simp [go_sem, execOp, Act.eval]
          simp only [List.getElem_toArray, List.getElem_cons_zero, List.getElem_cons_succ, Act.put, List.setIfInBounds_toArray, List.set_cons_succ, List.set_cons_zero]
          refine wpAnyH_all (rs := [14]) (by kernel_rfl) (by simp) (fun i2 hi2 => ?_)
          obtain rfl : i2 = 14 := by simpa using hi2
          clear hi2
          refine wpOp_step rfl (fun K hK => ite_yes rfl ?_)
          simp only [List.getElem_toArray, List.getElem_cons_zero, List.getElem_cons_succ]
          go_simp
          have hA : Below wr.heap.size wr (w9.alloc (.cells #[.string ⟨#[]⟩, .string ⟨#[]⟩] 53)) := h9.alloc h9.size _
          refine hK _ _ ⟨HK2.out _ hA, ?_⟩
          clear hK K hS
          have hS := HK2.out _ hA
          have bx0 : True := trivial
          have bx1 : True := trivial
          refine wpAnyH_take (i := 15) (v := .bool q) rfl (by kernel_rfl) (by kernel_rfl) (by kernel_rfl) (fun _ _ _ h => h) (Or.inl ⟨by rfl, ?r⟩) hS ?_
          case r => intro W hW; simp [go_sem, execOp, Act.eval]
          simp only [List.getElem_toArray, List.getElem_cons_zero, List.getElem_cons_succ, Act.put, List.setIfInBounds_toArray, List.set_cons_succ, List.set_cons_zero]
          refine wpAnyH_all (rs := [16]) (by kernel_rfl) (by simp) (fun i2 hi2 => ?_)
          obtain rfl : i2 = 16 := by simpa using hi2
          clear hi2
          refine wpOp_step rfl (fun K hK => ite_yes rfl ?_)
          simp only [List.getElem_toArray, List.getElem_cons_zero, List.getElem_cons_succ]
          go_simp
          have HE : Hid (Below wr.heap.size wr (w9.alloc (.cells #[.string (fw c), .string c] 53))) := h9.alloc h9.size _
          refine hK _ _ ⟨HK2.out _ HE.out, ?_⟩
          clear hK K hS
          have c0 : (w9.alloc (.cells #[.string (fw c), .string c] 53)).cell? ⟨w9.heap.size, 0, none⟩ = some (.string (fw c)) := row_at (heap_alloc_new _ _) 0
          have c1 : (w9.alloc (.cells #[.string (fw c), .string c] 53)).cell? ⟨w9.heap.size, 1, none⟩ = some (.string c) := row_at (heap_alloc_new _ _) 1
          clear bx0 bx1
          generalize hwE : w9.alloc (.cells #[.string (fw c), .string c] 53) = wE at HE c0 c1 ⊢
          clear hwE
          generalize hbx : w9.heap.size = bx at c0 c1 ⊢
          refine wpAnyH_done (by kernel_rfl) ?_ _
          refine NoPanic.normal ?_
          try simp only [Act.put]
          have HW : Hid (Below w1.heap.size w1 wE) := HT.out.2.trans (HE.out.mono (by omega))
          have gc9 := row_at (HK.out _ HW.out).2.2
          have gf9 := fun j => fz _ _ _ _ j (HK.out _ HW.out).2.2
          have q9 : Below w.heap.size w wE := q1.trans (HW.out.mono q1.size)
          have hzE := HW.out.size
          clear HE
          cases q with
          | false =>
            have HFF : Hid (fb = false ∧ fc = c) := by
              have e := HF.out
              rw [HT.out.1, HS.out, if_neg (by simp)] at e
              cases e; exact ⟨rfl, rfl⟩
            obtain ⟨rfl, rfl⟩ := HFF.out
            go_wp2_with fail
            go_region
            all_goals go_wp2_with fail
            all_goals refine bodyPost_ret (v := .tuple #[.bool false, .agg #[.string (fw fc), .string fc]]) (by simp [results, Tryd.results23, go_sem, gc9]) rfl ⟨rfl, (q9.drew.setCell (p := ⟨w.heap.size + 1 + 1, 0, none⟩) (by show w.heap.size ≤ w.heap.size + 1 + 1; omega) _).setCell (p := ⟨w.heap.size + 1 + 1, 1, none⟩) (by show w.heap.size ≤ w.heap.size + 1 + 1; omega) _⟩
          | true =>
            have HN : Hid (allEq (MD.eqv n) items items' = allEq (MD.eqv n) (items.drop (j + 1)) (items'.drop (j + 1))) := by
              show _ = _
              rw [HT.out.1, HS.out, if_pos rfl]
            go_wp2_with fail
            exact ⟨⟨j + 1, hlt, by go_num, HN.out, HW.out⟩, by simp [intOf]; omega⟩
        · clear hi2
          refine wpOp_step rfl (fun K hK => ite_yes rfl ?_)
          simp only [List.getElem_toArray, List.getElem_cons_zero, List.getElem_cons_succ]
          go_simp
          have hA : Below wr.heap.size wr (W4.alloc (.cells #[.string ⟨#[]⟩, .string ⟨#[]⟩] 53)) := hB4.alloc hB4.size _
          refine hK _ _ ⟨HK2.out _ hA, ?_⟩
          clear hK K hS
          have hS := HK2.out _ hA
          refine wpAnyH_all (rs := [10]) (by kernel_rfl) (by simp) (fun i2 hi2 => ?_)
          obtain rfl : i2 = 10 := by simpa using hi2
          clear hi2
          refine wpOp_step rfl (fun K hK => ite_yes rfl ?_)
          simp only [List.getElem_toArray, List.getElem_cons_zero, List.getElem_cons_succ]
          go_simp
          refine (HC.out _ hA).mono ?_
          rintro e w9 ⟨rfl, b9⟩
          go_simp
          have h9 : Below wr.heap.size wr w9 := hA.trans (b9.mono hA.size)
          have g9 : w9.heap[W4.heap.size]? = some (.cells #[.string ⟨#[]⟩, .string ⟨#[]⟩] 53 (0, 0)) := (b9.block _ (by simp)).trans (heap_alloc_new _ _)
          have bx0 : w9.cell? ⟨W4.heap.size, 0, none⟩ = some (.string ⟨#[]⟩) := row_at g9 0
          have bx1 : w9.cell? ⟨W4.heap.size, 1, none⟩ = some (.string ⟨#[]⟩) := row_at g9 1
          have bf := fun j => fz _ _ _ _ j g9
          refine hK _ _ ⟨HK2.out _ h9, ?_⟩
          clear hK K hS g9
          have hS := HK2.out _ h9
          refine wpAnyH_take (i := 11) (v := .tuple #[.bool q, .agg #[.string (fw c), .string c]]) rfl (by kernel_rfl) (by kernel_rfl) (by kernel_rfl) (fun _ _ _ h => h) (Or.inl ⟨by rfl, ?r⟩) hS ?_
          case r => intro W hW; simp [go_sem, execOp, Act.eval]
          simp only [List.getElem_toArray, List.getElem_cons_zero, List.getElem_cons_succ, Act.put, List.setIfInBounds_toArray, List.set_cons_succ, List.set_cons_zero]
          refine wpAnyH_take (i := 12) (v := .bool q) rfl (by kernel_rfl) (by kernel_rfl) (by kernel_rfl) (fun _ _ _ h => h) (Or.inl ⟨by rfl, ?r⟩) hS ?_
          case r => intro W hW; simp [go_sem, execOp, Act.eval]
          simp only [List.getElem_toArray, List.getElem_cons_zero, List.getElem_cons_succ, Act.put, List.setIfInBounds_toArray, List.set_cons_succ, List.set_cons_zero]
          refine wpAnyH_take (i := 13) (v := .agg #[.string (fw c), .string c]) rfl (by kernel_rfl) (by kernel_rfl) (by kernel_rfl) (fun _ _ _ h => h) (Or.inl ⟨by rfl, ?r⟩) hS ?_
          case r => intro W hW; simp [go_sem, execOp, Act.eval]
          simp only [List.getElem_toArray, List.getElem_cons_zero, List.getElem_cons_succ, Act.put, List.setIfInBounds_toArray, List.set_cons_succ, List.set_cons_zero]
          refine wpAnyH_take (i := 15) (v := .bool q) rfl (by kernel_rfl) (by kernel_rfl) (by kernel_rfl) (fun _ _ _ h => h) (Or.inl ⟨by rfl, ?r⟩) hS ?_
          case r => intro W hW; simp [go_sem, execOp, Act.eval]
          simp only [List.getElem_toArray, List.getElem_cons_zero, List.getElem_cons_succ, Act.put, List.setIfInBounds_toArray, List.set_cons_succ, List.set_cons_zero]
          refine wpAnyH_all (rs := [16]) (by kernel_rfl) (by simp) (fun i2 hi2 => ?_)
          obtain rfl : i2 = 16 := by simpa using hi2
          clear hi2
          refine wpOp_step rfl (fun K hK => ite_yes rfl ?_)
          simp only [List.getElem_toArray, List.getElem_cons_zero, List.getElem_cons_succ]
          go_simp
          have HE : Hid (Below wr.heap.size wr ((w9.setCell ⟨W4.heap.size, 0, none⟩ (.string (fw c))).setCell ⟨W4.heap.size, 1, none⟩ (.string c))) := (h9.setCell (p := ⟨W4.heap.size, 0, none⟩) (by show wr.heap.size ≤ W4.heap.size; omega) _).setCell (p := ⟨W4.heap.size, 1, none⟩) (by show wr.heap.size ≤ W4.heap.size; omega) _
          refine hK _ _ ⟨HK2.out _ HE.out, ?_⟩
          clear hK K hS
          have c0 : ((w9.setCell ⟨W4.heap.size, 0, none⟩ (.string (fw c))).setCell ⟨W4.heap.size, 1, none⟩ (.string c)).cell? ⟨W4.heap.size, 0, none⟩ = some (.string (fw c)) := by simp [go_sem, bx0]
          have c1 : ((w9.setCell ⟨W4.heap.size, 0, none⟩ (.string (fw c))).setCell ⟨W4.heap.size, 1, none⟩ (.string c)).cell? ⟨W4.heap.size, 1, none⟩ = some (.string c) := by simp [go_sem, bx1]
          clear bx0 bx1
          generalize hwE : (w9.setCell ⟨W4.heap.size, 0, none⟩ (.string (fw c))).setCell ⟨W4.heap.size, 1, none⟩ (.string c) = wE at HE c0 c1 ⊢
          clear hwE
          generalize hbx : W4.heap.size = bx at c0 c1 ⊢
          refine wpAnyH_done (by kernel_rfl) ?_ _
          refine NoPanic.normal ?_
          try simp only [Act.put]
          have HW : Hid (Below w1.heap.size w1 wE) := HT.out.2.trans (HE.out.mono (by omega))
          have gc9 := row_at (HK.out _ HW.out).2.2
          have gf9 := fun j => fz _ _ _ _ j (HK.out _ HW.out).2.2
          have q9 : Below w.heap.size w wE := q1.trans (HW.out.mono q1.size)
          have hzE := HW.out.size
          clear HE
          cases q with
          | false =>
            have HFF : Hid (fb = false ∧ fc = c) := by
              have e := HF.out
              rw [HT.out.1, HS.out, if_neg (by simp)] at e
              cases e; exact ⟨rfl, rfl⟩
            obtain ⟨rfl, rfl⟩ := HFF.out
            go_wp2_with fail
            go_region
            all_goals go_wp2_with fail
            all_goals refine bodyPost_ret (v := .tuple #[.bool false, .agg #[.string (fw fc), .string fc]]) (by simp [results, Tryd.results23, go_sem, gc9]) rfl ⟨rfl, (q9.drew.setCell (p := ⟨w.heap.size + 1 + 1, 0, none⟩) (by show w.heap.size ≤ w.heap.size + 1 + 1; omega) _).setCell (p := ⟨w.heap.size + 1 + 1, 1, none⟩) (by show w.heap.size ≤ w.heap.size + 1 + 1; omega) _⟩
          | true =>
            have HN : Hid (allEq (MD.eqv n) items items' = allEq (MD.eqv n) (items.drop (j + 1)) (items'.drop (j + 1))) := by
              show _ = _
              rw [HT.out.1, HS.out, if_pos rfl]
            go_wp2_with fail
            exact ⟨⟨j + 1, hlt, by go_num, HN.out, HW.out⟩, by simp [intOf]; omega⟩
      · have i1 : ¬ (j : Int) < items.length := by omega
        have HFF : Hid (fb = true ∧ fc = ⟨#[]⟩) := by
          have e := HF.out
          rw [HT.out.1, List.drop_of_length_le (by omega)] at e
          cases e; exact ⟨rfl, rfl⟩
        obtain ⟨rfl, rfl⟩ := HFF.out
        have gc9 := row_at (HK.out _ hb').2.2
        have gf9 := fun j => fz _ _ _ _ j (HK.out _ hb').2.2
        clear hb' hae'
        go_wp2_with fail
        refine bodyPost_ret (v := .tuple #[.bool true, .agg #[.string ⟨#[]⟩, .string ⟨#[]⟩]]) (by simp [results, Tryd.results23, go_sem, gc9]) rfl ⟨rfl, (HQ.out.setCell (p := ⟨w.heap.size + 1 + 1, 0, none⟩) (by show w.heap.size ≤ w.heap.size + 1 + 1; omega) _).setCell (p := ⟨w.heap.size + 1 + 1, 1, none⟩) (by show w.heap.size ≤ w.heap.size + 1 + 1; omega) _⟩
  · rw [if_neg hle] at hfin
    cases hfin
    have hle2 : ¬ (items.length : Int) = items'.length := by omega
    go_wp2_with fail
    refine bodyPost_ret (v := .tuple #[.bool false, .agg #[.string ⟨#[]⟩, .string ⟨#[]⟩]]) (by simp [results, Tryd.results23, go_sem, gc]) rfl ⟨rfl, (q1.setCell (p := ⟨w.heap.size + 1 + 1, 0, none⟩) (by show w.heap.size ≤ w.heap.size + 1 + 1; omega) _).setCell (p := ⟨w.heap.size + 1 + 1, 1, none⟩) (by show w.heap.size ≤ w.heap.size + 1 + 1; omega) _⟩
end Go.Proofs.YtnhbpcmiolkllaaDoor
