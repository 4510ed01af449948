/-
  equal, at any two right data.
-/
import Derived.Test.YtflonmlnedkmjaaDoorEa2
import Derived.Test.YtflonmlnedkmjaaDoorEe
namespace Go.Proofs.YtflonmlnedkmjaaDoor
open Go.RowKit
attribute [local go_sem] refold2 cell3_0 cell3_1 b28_0 b28_01 x56 ta3r ta3f ta8r

theorem tyB_out {k : Int} {t : ByteArray} (hk : k < 0 ∨ 9 < k) (h : tyB k t = true) : False := by
  have := tyB_range h; omega
theorem MD.ItemsIn.later {w w' : World} {n : Nat} {d : MD} (h : MD.ItemsIn w.heap.size w n d) (hb : Below w.heap.size w w') : MD.ItemsIn w'.heap.size w' n d := by
  rcases h.below hb with e | ⟨b, o, e1, e2, e3⟩
  · exact .inl e
  · exact .inr ⟨b, o, e1, Nat.lt_of_lt_of_le e2 hb.size, fun i hi => ⟨(e3 i hi).1, MD.In.mono hb.size n _ (e3 i hi).2⟩⟩
/-- Two rows of Items: are they equal, or at which type can't one say so? -/
def allEq (p : MD → MD → Bool × ByteArray) : List MD → List MD → Bool × ByteArray
  | [], _ => (true, ⟨#[]⟩)
  | _ :: _, [] => (true, ⟨#[]⟩)
  | x :: xs, y :: ys => if (p x y).1 = true then allEq p xs ys else (false, (p x y).2)
/-- Are the floats of some bits equal? -/
def feq (f g : Int) : Bool := FloatKind.f64.format.order f.toNat g.toNat == some .eq
/-- Are two equal, or at which type can't one say so? -/
def MD.eqv : Nat → MD → MD → Bool × ByteArray
  | 0, _, _ => (false, ⟨#[]⟩)
  | n + 1, a, b => if a.h.k = b.h.k ∧ a.h.t = b.h.t then
      (if a.h.k = 8 then (if a.items.length = b.items.length then allEq (MD.eqv n) a.items b.items else (false, ⟨#[]⟩))
       else if a.h.k = 3 then (feq a.h.f b.h.f, ⟨#[]⟩)
       else if a.h.k = 5 ∨ a.h.k = 6 ∨ a.h.k = 7 then (false, a.h.t)
       else (decide (a.h.n = b.h.n ∧ nz a.h.f = nz b.h.f ∧ a.h.s = b.h.s ∧ a.h.r0 = b.h.r0 ∧ a.h.path = b.h.path), ⟨#[]⟩))
      else (false, ⟨#[]⟩)
def EqC (n : Nat) : Prop := ∀ (a b : MD) (w : World), MD.In w.heap.size w n a → MD.In w.heap.size w n b → MD.full n a = true → MD.full n b = true → Calls Tryd.prog 59 #[a.val, b.val] w fun r w' => r = .returned (.tuple #[.bool (MD.eqv n a b).1, .string (MD.eqv n a b).2]) ∧ Below w.heap.size w w'
def AllC (n : Nat) : Prop := ∀ (x y : MD) (w : World), MD.ItemsIn w.heap.size w n x → MD.ItemsIn w.heap.size w n y → x.items.length ≤ maxLen → x.items.all (MD.full n) = true → y.items.all (MD.full n) = true →
  Calls Tryd.prog 67 #[.slice x.ip x.items.length x.ic, .slice y.ip y.items.length y.ic] w fun r w' => r = .returned (.tuple #[.bool (if x.items.length = y.items.length then allEq (MD.eqv n) x.items y.items else (false, ⟨#[]⟩)).1, .string (if x.items.length = y.items.length then allEq (MD.eqv n) x.items y.items else (false, ⟨#[]⟩)).2]) ∧ Below w.heap.size w w'
def AllRel (n : Nat) (xs ys : List MD) (w : World) (i : Value) (wr : World) : Prop := ∃ j : Nat, j ≤ xs.length ∧ i = .int .i64 j ∧ allEq (MD.eqv n) xs ys = allEq (MD.eqv n) (xs.drop j) (ys.drop j) ∧ Below w.heap.size w wr

set_option maxRecDepth 100000 in
set_option maxHeartbeats 8000000 in
theorem allEqual_step (n : Nat) (hI : EqC n) : AllC n := by
  intro x y w hx hy hl fx fy
  obtain ⟨h, ip, ic, items⟩ := x
  obtain ⟨h', ip', ic', items'⟩ := y
  simp only at *
  unfold maxLen at hl
  have HX : Hid (MD.ItemsIn w.heap.size w n ⟨h, ip, ic, items⟩) := hx
  have HY : Hid (MD.ItemsIn w.heap.size w n ⟨h', ip', ic', items'⟩) := hy
  have HFX : Hid (∀ q ∈ items, MD.full n q = true) := List.all_eq_true.1 fx
  have HFY : Hid (∀ q ∈ items', MD.full n q = true) := List.all_eq_true.1 fy
  have HI : Hid (EqC n) := hI
  clear hx hy fx fy hI
  by_cases hle : items.length = items'.length
  · rw [if_pos hle]
    have HLE : Hid (items.length = items'.length) := hle
    obtain ⟨fb, fc, hfin⟩ : ∃ fb fc, allEq (MD.eqv n) items items' = (fb, fc) := ⟨_, _, rfl⟩
    rw [hfin]
    have HF : Hid (allEq (MD.eqv n) items items' = (fb, fc)) := hfin
    rw [← hle]
    clear hfin hle
    simp only
    go_enter Tryd.func67, Tryd.ntmps67
    go_wp2_with fail
    go_loopw [6, 7, 8, 16] (fun _ _ _ i wr => AllRel n items items' w i wr) (fun _ _ _ i _ => items.length - (intOf i).toNat)
    case atStart => exact ⟨0, Nat.zero_le _, rfl, rfl, Below.refl _ _⟩
    case round =>
      obtain ⟨j, hj, rfl, hae', hb'⟩ := hrel
      have HT : Hid (allEq (MD.eqv n) items items' = allEq (MD.eqv n) (items.drop j) (items'.drop j) ∧ Below w.heap.size w wr) := ⟨hae', hb'⟩
      have hz := hb'.size
      clear hae' hb'
      by_cases hlt : j < items.length
      · have i1 : (j : Int) < items.length := by omega
        have hlt' : j < items'.length := HLE.out ▸ hlt
        obtain ⟨bb, o, rfl, hbB, hC, hIn⟩ : ∃ bb o, ip = some ⟨bb, o, none⟩ ∧ bb < w.heap.size ∧ MD.CellsAt wr bb (o + j * 11) items[j] ∧ MD.In w.heap.size wr n items[j] := by
          rcases MD.ItemsIn.below HX.out HT.out.2 with e | ⟨bb, o, e1, e2, e3⟩
          · have e' : items = [] := e
            rw [e'] at hlt; simp at hlt
          · exact ⟨bb, o, e1, e2, e3 j hlt⟩
        obtain ⟨bc, p, rfl, hbB', hC', hIn'⟩ : ∃ bb o, ip' = some ⟨bb, o, none⟩ ∧ bb < w.heap.size ∧ MD.CellsAt wr bb (o + j * 11) items'[j] ∧ MD.In w.heap.size wr n items'[j] := by
          rcases MD.ItemsIn.below HY.out HT.out.2 with e | ⟨bb, o, e1, e2, e3⟩
          · have e' : items' = [] := e
            rw [e'] at hlt'; simp at hlt'
          · exact ⟨bb, o, e1, e2, e3 j hlt'⟩
        have HS : Hid (allEq (MD.eqv n) (items.drop j) (items'.drop j) = if (MD.eqv n items[j] items'[j]).1 = true then allEq (MD.eqv n) (items.drop (j + 1)) (items'.drop (j + 1)) else (false, (MD.eqv n items[j] items'[j]).2)) := by
          show _ = _
          rw [List.drop_eq_getElem_cons hlt, List.drop_eq_getElem_cons hlt']; rfl
        have HU : Hid (MD.full n items[j] = true ∧ MD.full n items'[j] = true) := ⟨HFX.out _ (List.getElem_mem hlt), HFY.out _ (List.getElem_mem hlt')⟩
        generalize items[j] = kid at hC hIn HS HU
        generalize items'[j] = lid at hC' hIn' HS HU
        obtain ⟨⟨k0, k1, k2, k3, k4, k5, k6, k7, k8, kp, kpath, kpc⟩, kip, kic, kit⟩ := kid
        obtain ⟨⟨l0, l1, l2, l3, l4, l5, l6, l7, l8, lp, lpath, lpc⟩, lip, lic, lit⟩ := lid
        obtain ⟨q, c, hqc⟩ : ∃ q c, MD.eqv n ⟨⟨k0, k1, k2, k3, k4, k5, k6, k7, k8, kp, kpath, kpc⟩, kip, kic, kit⟩ ⟨⟨l0, l1, l2, l3, l4, l5, l6, l7, l8, lp, lpath, lpc⟩, lip, lic, lit⟩ = (q, c) := ⟨_, _, rfl⟩
        rw [hqc] at HS
        simp only at HS
        have HC : Hid (∀ W, Below wr.heap.size wr W → Calls Tryd.prog 59 #[.agg #[.int .i64 k0, .string k1, .int .i64 k2, .int .u64 k3, .string k4, .int .i64 k5, .int .i64 k6, .int .i64 k7, .int .i64 k8, .slice kp kpath.length kpc, .slice kip kit.length kic], .agg #[.int .i64 l0, .string l1, .int .i64 l2, .int .u64 l3, .string l4, .int .i64 l5, .int .i64 l6, .int .i64 l7, .int .i64 l8, .slice lp lpath.length lpc, .slice lip lit.length lic]] W fun r w' => r = .returned (.tuple #[.bool q, .string c]) ∧ Below W.heap.size W w') := fun W hW => by
          have h := HI.out ⟨⟨k0, k1, k2, k3, k4, k5, k6, k7, k8, kp, kpath, kpc⟩, kip, kic, kit⟩ ⟨⟨l0, l1, l2, l3, l4, l5, l6, l7, l8, lp, lpath, lpc⟩, lip, lic, lit⟩ W (hIn.later (by omega) hW) (hIn'.later (by omega) hW) HU.out.1 HU.out.2
          rw [hqc] at h
          exact h
        have HK2 : Hid (∀ W, Below wr.heap.size wr W → (∀ i, i < 11 → W.cell? ⟨bb, o + j * 11 + i, none⟩ = (#[.int .i64 k0, .string k1, .int .i64 k2, .int .u64 k3, .string k4, .int .i64 k5, .int .i64 k6, .int .i64 k7, .int .i64 k8, .slice kp kpath.length kpc, .slice kip kit.length kic] : Array Value)[i]?) ∧ (∀ i, i < 11 → W.cell? ⟨bc, p + j * 11 + i, none⟩ = (#[.int .i64 l0, .string l1, .int .i64 l2, .int .u64 l3, .string l4, .int .i64 l5, .int .i64 l6, .int .i64 l7, .int .i64 l8, .slice lp lpath.length lpc, .slice lip lit.length lic] : Array Value)[i]?)) := fun W hW =>
          ⟨fun i hi => (hW.cell (p := ⟨bb, o + j * 11 + i, none⟩) (by show bb < _; omega)).trans (hC i hi), fun i hi => (hW.cell (p := ⟨bc, p + j * 11 + i, none⟩) (by show bc < _; omega)).trans (hC' i hi)⟩
        clear hC hC' hIn hIn' HI HU hqc
        go_wp2_with fail
        refine wp_region_noPanic ?_
        refine wp_region_held (S := fun W => (∀ i, i < 11 → W.cell? ⟨bb, o + j * 11 + i, none⟩ = (#[.int .i64 k0, .string k1, .int .i64 k2, .int .u64 k3, .string k4, .int .i64 k5, .int .i64 k6, .int .i64 k7, .int .i64 k8, .slice kp kpath.length kpc, .slice kip kit.length kic] : Array Value)[i]?) ∧ (∀ i, i < 11 → W.cell? ⟨bc, p + j * 11 + i, none⟩ = (#[.int .i64 l0, .string l1, .int .i64 l2, .int .u64 l3, .string l4, .int .i64 l5, .int .i64 l6, .int .i64 l7, .int .i64 l8, .slice lp lpath.length lpc, .slice lip lit.length lic] : Array Value)[i]?)) (by kernel_rfl) ?_
        obtain ⟨W4, hW4⟩ : ∃ W4, W4 = wr.drew := ⟨_, rfl⟩
        have e4 : ({ wr with drawn := wr.drawn + 1 } : World) = W4 := hW4.symm
        rw [e4]
        have hB4 : Below wr.heap.size wr W4 := by rw [hW4]; exact (Below.refl _ _).drew
        have hS := HK2.out W4 hB4
        clear e4 hW4
        refine wpAnyH_take (i := 0) (v := .slice (some ⟨bb, o, none⟩) items.length ic) rfl (by kernel_rfl) (by kernel_rfl) (by kernel_rfl) (fun _ _ _ h => h) (Or.inl ⟨by rfl, ?r⟩) hS ?_
        case r => intro W hW; simp [go_sem, execOp, Act.eval]
        simp only [List.getElem_toArray, List.getElem_cons_zero, Act.put, List.setIfInBounds_toArray, List.set_cons_succ, List.set_cons_zero]
        refine wpAnyH_take (i := 1) (v := .int .i64 j) rfl (by kernel_rfl) (by kernel_rfl) (by kernel_rfl) (fun _ _ _ h => h) (Or.inl ⟨by rfl, ?r⟩) hS ?_
        case r => intro W hW; simp [go_sem, execOp, Act.eval]
        simp only [List.getElem_toArray, List.getElem_cons_zero, List.getElem_cons_succ, Act.put, List.setIfInBounds_toArray, List.set_cons_succ, List.set_cons_zero]
        refine wpAnyH_take (i := 2) (v := .pointer (some ⟨bb, o + j * 11, none⟩)) rfl (by kernel_rfl) (by kernel_rfl) (by kernel_rfl) (fun _ _ _ h => h) (Or.inl ⟨by rfl, ?r⟩) hS ?_
        case r => intro W hW; simp [go_sem, execOp, Act.eval, i1]
        simp only [List.getElem_toArray, List.getElem_cons_zero, List.getElem_cons_succ, Act.put, List.setIfInBounds_toArray, List.set_cons_succ, List.set_cons_zero]
        refine wpAnyH_take (i := 3) (v := .agg #[.int .i64 k0, .string k1, .int .i64 k2, .int .u64 k3, .string k4, .int .i64 k5, .int .i64 k6, .int .i64 k7, .int .i64 k8, .slice kp kpath.length kpc, .slice kip kit.length kic]) rfl (by kernel_rfl) (by kernel_rfl) (by kernel_rfl) (fun _ _ _ h => h) (Or.inl ⟨by rfl, ?r⟩) hS ?_
        case r => intro W hW; have e0 : W.cell? ⟨bb, o + j * 11, none⟩ = some (.int .i64 k0) := hW.1 0 (by omega); have e1 : W.cell? ⟨bb, o + j * 11 + 1, none⟩ = some (.string k1) := hW.1 1 (by omega); have e2 : W.cell? ⟨bb, o + j * 11 + 2, none⟩ = some (.int .i64 k2) := hW.1 2 (by omega); have e3 : W.cell? ⟨bb, o + j * 11 + 3, none⟩ = some (.int .u64 k3) := hW.1 3 (by omega); have e4 : W.cell? ⟨bb, o + j * 11 + 4, none⟩ = some (.string k4) := hW.1 4 (by omega); have e5 : W.cell? ⟨bb, o + j * 11 + 5, none⟩ = some (.int .i64 k5) := hW.1 5 (by omega); have e6 : W.cell? ⟨bb, o + j * 11 + 6, none⟩ = some (.int .i64 k6) := hW.1 6 (by omega); have e7 : W.cell? ⟨bb, o + j * 11 + 7, none⟩ = some (.int .i64 k7) := hW.1 7 (by omega); have e8 : W.cell? ⟨bb, o + j * 11 + 8, none⟩ = some (.int .i64 k8) := hW.1 8 (by omega); have e9 : W.cell? ⟨bb, o + j * 11 + 9, none⟩ = some (.slice kp kpath.length kpc) := hW.1 9 (by omega); have e10 : W.cell? ⟨bb, o + j * 11 + 10, none⟩ = some (.slice kip kit.length kic) := hW.1 10 (by omega); simp [go_sem, execOp, Act.eval, e0, e1, e2, e3, e4, e5, e6, e7, e8, e9, e10]
        simp only [List.getElem_toArray, List.getElem_cons_zero, List.getElem_cons_succ, Act.put, List.setIfInBounds_toArray, List.set_cons_succ, List.set_cons_zero]
        refine wpAnyH_take (i := 4) (v := .slice (some ⟨bc, p, none⟩) items.length ic') rfl (by kernel_rfl) (by kernel_rfl) (by kernel_rfl) (fun _ _ _ h => h) (Or.inl ⟨by rfl, ?r⟩) hS ?_
        case r => intro W hW; simp [go_sem, execOp, Act.eval]
        simp only [List.getElem_toArray, List.getElem_cons_zero, List.getElem_cons_succ, Act.put, List.setIfInBounds_toArray, List.set_cons_succ, List.set_cons_zero]
        refine wpAnyH_take (i := 5) (v := .int .i64 j) rfl (by kernel_rfl) (by kernel_rfl) (by kernel_rfl) (fun _ _ _ h => h) (Or.inl ⟨by rfl, ?r⟩) hS ?_
        case r => intro W hW; simp [go_sem, execOp, Act.eval]
        simp only [List.getElem_toArray, List.getElem_cons_zero, List.getElem_cons_succ, Act.put, List.setIfInBounds_toArray, List.set_cons_succ, List.set_cons_zero]
        refine wpAnyH_take (i := 6) (v := .pointer (some ⟨bc, p + j * 11, none⟩)) rfl (by kernel_rfl) (by kernel_rfl) (by kernel_rfl) (fun _ _ _ h => h) (Or.inl ⟨by rfl, ?r⟩) hS ?_
        case r => intro W hW; simp [go_sem, execOp, Act.eval, i1]
        simp only [List.getElem_toArray, List.getElem_cons_zero, List.getElem_cons_succ, Act.put, List.setIfInBounds_toArray, List.set_cons_succ, List.set_cons_zero]
        refine wpAnyH_take (i := 7) (v := .agg #[.int .i64 l0, .string l1, .int .i64 l2, .int .u64 l3, .string l4, .int .i64 l5, .int .i64 l6, .int .i64 l7, .int .i64 l8, .slice lp lpath.length lpc, .slice lip lit.length lic]) rfl (by kernel_rfl) (by kernel_rfl) (by kernel_rfl) (fun _ _ _ h => h) (Or.inl ⟨by rfl, ?r⟩) hS ?_
        case r => intro W hW; have e0 : W.cell? ⟨bc, p + j * 11, none⟩ = some (.int .i64 l0) := hW.2 0 (by omega); have e1 : W.cell? ⟨bc, p + j * 11 + 1, none⟩ = some (.string l1) := hW.2 1 (by omega); have e2 : W.cell? ⟨bc, p + j * 11 + 2, none⟩ = some (.int .i64 l2) := hW.2 2 (by omega); have e3 : W.cell? ⟨bc, p + j * 11 + 3, none⟩ = some (.int .u64 l3) := hW.2 3 (by omega); have e4 : W.cell? ⟨bc, p + j * 11 + 4, none⟩ = some (.string l4) := hW.2 4 (by omega); have e5 : W.cell? ⟨bc, p + j * 11 + 5, none⟩ = some (.int .i64 l5) := hW.2 5 (by omega); have e6 : W.cell? ⟨bc, p + j * 11 + 6, none⟩ = some (.int .i64 l6) := hW.2 6 (by omega); have e7 : W.cell? ⟨bc, p + j * 11 + 7, none⟩ = some (.int .i64 l7) := hW.2 7 (by omega); have e8 : W.cell? ⟨bc, p + j * 11 + 8, none⟩ = some (.int .i64 l8) := hW.2 8 (by omega); have e9 : W.cell? ⟨bc, p + j * 11 + 9, none⟩ = some (.slice lp lpath.length lpc) := hW.2 9 (by omega); have e10 : W.cell? ⟨bc, p + j * 11 + 10, none⟩ = some (.slice lip lit.length lic) := hW.2 10 (by omega); simp [go_sem, execOp, Act.eval, e0, e1, e2, e3, e4, e5, e6, e7, e8, e9, e10]
        simp only [List.getElem_toArray, List.getElem_cons_zero, List.getElem_cons_succ, Act.put, List.setIfInBounds_toArray, List.set_cons_succ, List.set_cons_zero]
        refine wpAnyH_all (rs := [8]) (by kernel_rfl) (by simp) (fun i2 hi2 => ?_)
        obtain rfl : i2 = 8 := by simpa using hi2
        clear hi2
        refine wpOp_step rfl (fun K hK => ite_yes rfl ?_)
        simp only [List.getElem_toArray, List.getElem_cons_zero, List.getElem_cons_succ]
        go_simp
        refine (HC.out _ hB4).mono ?_
        rintro e w9 ⟨rfl, b9⟩
        have hb9 : Below wr.heap.size wr w9 := hB4.trans (b9.mono hB4.size)
        go_simp
        refine hK _ _ ⟨HK2.out _ hb9, ?_⟩
        clear hK K hS
        have hS := HK2.out _ hb9
        refine wpAnyH_take (i := 9) (v := .tuple #[.bool q, .string c]) rfl (by kernel_rfl) (by kernel_rfl) (by kernel_rfl) (fun _ _ _ h => h) (Or.inl ⟨by rfl, ?r⟩) hS ?_
        case r => intro W hW; simp [go_sem, execOp, Act.eval]
        simp only [List.getElem_toArray, List.getElem_cons_zero, List.getElem_cons_succ, Act.put, List.setIfInBounds_toArray, List.set_cons_succ, List.set_cons_zero]
        refine wpAnyH_take (i := 10) (v := .bool q) rfl (by kernel_rfl) (by kernel_rfl) (by kernel_rfl) (fun _ _ _ h => h) (Or.inl ⟨by rfl, ?r⟩) hS ?_
        case r => intro W hW; simp [go_sem, execOp, Act.eval]
        simp only [List.getElem_toArray, List.getElem_cons_zero, List.getElem_cons_succ, Act.put, List.setIfInBounds_toArray, List.set_cons_succ, List.set_cons_zero]
        refine wpAnyH_take (i := 11) (v := .string c) rfl (by kernel_rfl) (by kernel_rfl) (by kernel_rfl) (fun _ _ _ h => h) (Or.inl ⟨by rfl, ?r⟩) hS ?_
        case r => intro W hW; simp [go_sem, execOp, Act.eval]
        simp only [List.getElem_toArray, List.getElem_cons_zero, List.getElem_cons_succ, Act.put, List.setIfInBounds_toArray, List.set_cons_succ, List.set_cons_zero]
        refine wpAnyH_take (i := 12) (v := .bool q) rfl (by kernel_rfl) (by kernel_rfl) (by kernel_rfl) (fun _ _ _ h => h) (Or.inl ⟨by rfl, ?r⟩) hS ?_
        case r => intro W hW; simp [go_sem, execOp, Act.eval]
        simp only [List.getElem_toArray, List.getElem_cons_zero, List.getElem_cons_succ, Act.put, List.setIfInBounds_toArray, List.set_cons_succ, List.set_cons_zero]
        refine wpAnyH_take (i := 13) (v := .string c) rfl (by kernel_rfl) (by kernel_rfl) (by kernel_rfl) (fun _ _ _ h => h) (Or.inl ⟨by rfl, ?r⟩) hS ?_
        case r => intro W hW; simp [go_sem, execOp, Act.eval]
        simp only [List.getElem_toArray, List.getElem_cons_zero, List.getElem_cons_succ, Act.put, List.setIfInBounds_toArray, List.set_cons_succ, List.set_cons_zero]
        refine wpAnyH_done (by kernel_rfl) ?_ _
        refine NoPanic.normal ?_
        try simp only [Act.put]
        have HW : Hid (Below w.heap.size w w9) := HT.out.2.trans (hb9.mono (by omega))
        clear hS HK2 b9 hb9 hB4 HC
        cases q with
        | false =>
          have HFF : Hid (fb = false ∧ fc = c) := by
            have h := HT.out.1
            rw [HF.out, HS.out] at h
            simp at h
            exact h
          go_wp2_with fail
          refine bodyPost_ret (v := .tuple #[.bool false, .string c]) (by simp [results, Tryd.results67, go_sem]) rfl ⟨by rw [HFF.out.1, HFF.out.2], HW.out⟩
        | true =>
          have HFF : Hid (allEq (MD.eqv n) items items' = allEq (MD.eqv n) (items.drop (j + 1)) (items'.drop (j + 1))) := by
            show _ = _
            rw [HT.out.1, HS.out, if_pos rfl]
          go_wp2_with fail
          exact ⟨⟨j + 1, hlt, by go_num, HFF.out, HW.out⟩, by simp [intOf]; omega⟩
      · have i1 : ¬ (j : Int) < items.length := by omega
        have HFF : Hid (fb = true ∧ fc = ⟨#[]⟩) := by
          have h := HT.out.1
          rw [HF.out, List.drop_of_length_le (by omega)] at h
          simp [allEq] at h
          exact h
        go_wp2_with fail
        refine bodyPost_ret (v := .tuple #[.bool true, .string ⟨#[]⟩]) (by simp [results, Tryd.results67, go_sem]) rfl ⟨by rw [HFF.out.1, HFF.out.2], HT.out.2⟩
  · rw [if_neg hle]
    have hle' : ¬ (items.length : Int) = items'.length := by omega
    clear hle HX HY HFX HFY HI
    go_enter Tryd.func67, Tryd.ntmps67
    go_wp2_with fail
    refine bodyPost_ret (v := .tuple #[.bool false, .string ⟨#[]⟩]) (by simp [results, Tryd.results67, go_sem]) rfl ⟨rfl, Below.refl _ _⟩

set_option maxRecDepth 100000 in
set_option maxHeartbeats 8000000 in
theorem eqk_3 (t : ByteArray) (a f : Int) (s : ByteArray) (r0 r1 r2 r3 : Int) (pp : Option Addr) (path : List Int) (pc : Nat) (ip : Option Addr) (items : List MD) (ic : Nat) (a' f' : Int) (s' : ByteArray) (r0' r1' r2' r3' : Int) (pp' : Option Addr) (path' : List Int) (pc' : Nat) (ip' : Option Addr) (items' : List MD) (ic' : Nat) (w : World) :
    Calls Tryd.prog 59 #[.agg #[.int .i64 3, .string t, .int .i64 a, .int .u64 f, .string s, .int .i64 r0, .int .i64 r1, .int .i64 r2, .int .i64 r3, .slice pp path.length pc, .slice ip items.length ic], .agg #[.int .i64 3, .string t, .int .i64 a', .int .u64 f', .string s', .int .i64 r0', .int .i64 r1', .int .i64 r2', .int .i64 r3', .slice pp' path'.length pc', .slice ip' items'.length ic']] w fun r w' => r = .returned (.tuple #[.bool (feq f f'), .string ⟨#[]⟩]) ∧ Below w.heap.size w w' := by
  have HQ : ∀ W, (binOp .neq 96 (.agg #[.int .i64 3, .string t]) (.agg #[.int .i64 3, .string t])).run Tryd.prog W = .ok (.bool false) W := fun W => by rw [typed_neq]; simp
  obtain ⟨W2, hW2⟩ : ∃ W2, W2 = (w.alloc (.cells #[.int .i64 3, .string t, .int .i64 a, .int .u64 f, .string s, .int .i64 r0, .int .i64 r1, .int .i64 r2, .int .i64 r3, .slice pp path.length pc, .slice ip items.length ic] 39)).alloc (.cells #[.int .i64 3, .string t, .int .i64 a', .int .u64 f', .string s', .int .i64 r0', .int .i64 r1', .int .i64 r2', .int .i64 r3', .slice pp' path'.length pc', .slice ip' items'.length ic'] 39) := ⟨_, rfl⟩
  have HK : Hid (∀ W, Below W2.heap.size W2 W → Below w.heap.size w W ∧ (∀ i, W.cell? ⟨w.heap.size, i, none⟩ = (#[.int .i64 3, .string t, .int .i64 a, .int .u64 f, .string s, .int .i64 r0, .int .i64 r1, .int .i64 r2, .int .i64 r3, .slice pp path.length pc, .slice ip items.length ic] : Array Value)[i]?) ∧ (∀ i, W.cell? ⟨w.heap.size + 1, i, none⟩ = (#[.int .i64 3, .string t, .int .i64 a', .int .u64 f', .string s', .int .i64 r0', .int .i64 r1', .int .i64 r2', .int .i64 r3', .slice pp' path'.length pc', .slice ip' items'.length ic'] : Array Value)[i]?)) := fun W hW => by rw [hW2] at hW; exact kept2 hW
  have hz2 : W2.heap.size = w.heap.size + 2 := by rw [hW2]; simp
  have HTA : Hid (∀ W, Calls Tryd.prog 58 #[.agg #[.int .i64 3, .string t, .int .i64 a, .int .u64 f, .string s, .int .i64 r0, .int .i64 r1, .int .i64 r2, .int .i64 r3, .slice pp path.length pc, .slice ip items.length ic]] W fun r w' => r = .returned (.agg #[.int .i64 3, .string t]) ∧ Below W.heap.size W w') := fun W => typeOf_any _ _ _ _ _ _ _ _ _ _ _ W
  have HTB : Hid (∀ W, Calls Tryd.prog 58 #[.agg #[.int .i64 3, .string t, .int .i64 a', .int .u64 f', .string s', .int .i64 r0', .int .i64 r1', .int .i64 r2', .int .i64 r3', .slice pp' path'.length pc', .slice ip' items'.length ic']] W fun r w' => r = .returned (.agg #[.int .i64 3, .string t]) ∧ Below W.heap.size W w') := fun W => typeOf_any _ _ _ _ _ _ _ _ _ _ _ W
  go_enter Tryd.func59, Tryd.ntmps59
  go_wp2_with fail
  rw [← hW2]
  clear hW2
  refine wp_region_noPanic ?_
  refine wp_region_held (S := fun W => (∀ i, W.cell? ⟨w.heap.size, i, none⟩ = (#[.int .i64 3, .string t, .int .i64 a, .int .u64 f, .string s, .int .i64 r0, .int .i64 r1, .int .i64 r2, .int .i64 r3, .slice pp path.length pc, .slice ip items.length ic] : Array Value)[i]?) ∧ (∀ i, W.cell? ⟨w.heap.size + 1, i, none⟩ = (#[.int .i64 3, .string t, .int .i64 a', .int .u64 f', .string s', .int .i64 r0', .int .i64 r1', .int .i64 r2', .int .i64 r3', .slice pp' path'.length pc', .slice ip' items'.length ic'] : Array Value)[i]?)) (by kernel_rfl) ?_
  obtain ⟨W4, hW4⟩ : ∃ W4, W4 = W2.drew := ⟨_, rfl⟩
  have e4 : ({ W2 with drawn := W2.drawn + 1 } : World) = W4 := hW4.symm
  rw [e4]
  have hB4 : Below W2.heap.size W2 W4 := by rw [hW4]; exact (Below.refl _ _).drew
  have hS := (HK.out W4 hB4).2
  clear e4 hW4
  refine wpAnyH_take (i := 0) (v := .agg #[.int .i64 3, .string t, .int .i64 a, .int .u64 f, .string s, .int .i64 r0, .int .i64 r1, .int .i64 r2, .int .i64 r3, .slice pp path.length pc, .slice ip items.length ic]) rfl (by kernel_rfl) (by kernel_rfl) (by kernel_rfl) (fun _ _ _ h => h) (Or.inl ⟨by rfl, ?r⟩) hS ?_
  case r => intro W hW; simp [go_sem, execOp, Act.eval, hW.1]
  simp only [List.getElem_toArray, List.getElem_cons_zero, Act.put, List.setIfInBounds_toArray, List.set_cons_succ, List.set_cons_zero]
  refine wpAnyH_take (i := 2) (v := .agg #[.int .i64 3, .string t, .int .i64 a', .int .u64 f', .string s', .int .i64 r0', .int .i64 r1', .int .i64 r2', .int .i64 r3', .slice pp' path'.length pc', .slice ip' items'.length ic']) rfl (by kernel_rfl) (by kernel_rfl) (by kernel_rfl) (fun _ _ _ h => h) (Or.inl ⟨by rfl, ?r⟩) hS ?_
  case r => intro W hW; simp [go_sem, execOp, Act.eval, hW.2]
  simp only [List.getElem_toArray, List.getElem_cons_zero, List.getElem_cons_succ, Act.put, List.setIfInBounds_toArray, List.set_cons_succ, List.set_cons_zero]
  refine wpAnyH_all (rs := [1]) (by kernel_rfl) (by simp) (fun i2 hi2 => ?_)
  obtain rfl : i2 = 1 := by simpa using hi2
  clear hi2
  refine wpOp_step rfl (fun K hK => ite_yes rfl ?_)
  simp only [List.getElem_toArray, List.getElem_cons_zero, List.getElem_cons_succ]
  go_simp
  refine (HTA.out _).mono ?_
  rintro e w5 ⟨rfl, b5⟩
  have hb5 : Below W2.heap.size W2 w5 := hB4.trans (b5.mono hB4.size)
  go_simp
  refine hK _ _ ⟨(HK.out _ hb5).2, ?_⟩
  clear hK K
  refine wpAnyH_all (rs := [3]) (by kernel_rfl) (by simp) (fun i2 hi2 => ?_)
  obtain rfl : i2 = 3 := by simpa using hi2
  clear hi2
  refine wpOp_step rfl (fun K hK => ite_yes rfl ?_)
  simp only [List.getElem_toArray, List.getElem_cons_zero, List.getElem_cons_succ]
  go_simp
  refine (HTB.out _).mono ?_
  rintro e w6 ⟨rfl, b6⟩
  have hb6 : Below W2.heap.size W2 w6 := hb5.trans (b6.mono hb5.size)
  go_simp
  refine hK _ _ ⟨(HK.out _ hb6).2, ?_⟩
  clear hK K
  clear hS
  have hS := (HK.out _ hb6).2
  refine wpAnyH_take (i := 4) (v := .bool false) rfl (by kernel_rfl) (by kernel_rfl) (by kernel_rfl) (fun _ _ _ h => h) (Or.inl ⟨by rfl, ?r⟩) hS ?_
  case r => intro W hW; simp [go_sem, execOp, Act.eval, HQ]
  simp only [List.getElem_toArray, List.getElem_cons_zero, List.getElem_cons_succ, Act.put, List.setIfInBounds_toArray, List.set_cons_succ, List.set_cons_zero]
  refine wpAnyH_done (by kernel_rfl) ?_ _
  refine NoPanic.normal ?_
  try simp only [Act.put]
  have hc6 := (HK.out _ hb6).2.1
  have hd6 := (HK.out _ hb6).2.2
  have HB6 : Hid (Below W2.heap.size W2 w6) := hb6
  have hz6 := hb6.size
  clear hb6 b6 hb5 b5 hB4 hS HQ HTA HTB
  have hb0 : w6.cell? ⟨w.heap.size, 0, none⟩ = some (.int .i64 3) := hc6 0
  go_wp2_with (go_at_call 66; refine (behind_3 _ _ hb0 (by omega)).mono ?_; rintro r w7 ⟨rfl, b7⟩; have HB7 : Hid (Below W2.heap.size W2 w7) := HB6.out.trans (b7.mono HB6.out.size); clear b7)
  clear hc6 hd6 hb0
  refine wp_region_noPanic ?_
  refine wp_region_held (S := fun W => (∀ i, W.cell? ⟨w.heap.size, i, none⟩ = (#[.int .i64 3, .string t, .int .i64 a, .int .u64 f, .string s, .int .i64 r0, .int .i64 r1, .int .i64 r2, .int .i64 r3, .slice pp path.length pc, .slice ip items.length ic] : Array Value)[i]?) ∧ (∀ i, W.cell? ⟨w.heap.size + 1, i, none⟩ = (#[.int .i64 3, .string t, .int .i64 a', .int .u64 f', .string s', .int .i64 r0', .int .i64 r1', .int .i64 r2', .int .i64 r3', .slice pp' path'.length pc', .slice ip' items'.length ic'] : Array Value)[i]?)) (by kernel_rfl) ?_
  obtain ⟨W8, hW8⟩ : ∃ W8, W8 = w7.drew := ⟨_, rfl⟩
  have e8 : ({ w7 with drawn := w7.drawn + 1 } : World) = W8 := hW8.symm
  rw [e8]
  have hB8 : Below W2.heap.size W2 W8 := by rw [hW8]; exact HB7.out.drew
  have hS := (HK.out W8 hB8).2
  clear e8 hW8
  refine wpAnyH_take (i := 0) (v := .pointer (some ⟨w.heap.size, 3, none⟩)) rfl (by kernel_rfl) (by kernel_rfl) (by kernel_rfl) (fun _ _ _ h => h) (Or.inl ⟨by rfl, ?r⟩) hS ?_
  case r => intro W hW; simp [go_sem, execOp, Act.eval]
  simp only [List.getElem_toArray, List.getElem_cons_zero, Act.put, List.setIfInBounds_toArray, List.set_cons_succ, List.set_cons_zero]
  refine wpAnyH_take (i := 1) (v := .int .u64 f) rfl (by kernel_rfl) (by kernel_rfl) (by kernel_rfl) (fun _ _ _ h => h) (Or.inl ⟨by rfl, ?r⟩) hS ?_
  case r => intro W hW; simp [go_sem, execOp, Act.eval, hW.1]
  simp only [List.getElem_toArray, List.getElem_cons_zero, List.getElem_cons_succ, Act.put, List.setIfInBounds_toArray, List.set_cons_succ, List.set_cons_zero]
  refine wpAnyH_take (i := 3) (v := .pointer (some ⟨w.heap.size + 1, 3, none⟩)) rfl (by kernel_rfl) (by kernel_rfl) (by kernel_rfl) (fun _ _ _ h => h) (Or.inl ⟨by rfl, ?r⟩) hS ?_
  case r => intro W hW; simp [go_sem, execOp, Act.eval]
  simp only [List.getElem_toArray, List.getElem_cons_zero, List.getElem_cons_succ, Act.put, List.setIfInBounds_toArray, List.set_cons_succ, List.set_cons_zero]
  refine wpAnyH_take (i := 4) (v := .int .u64 f') rfl (by kernel_rfl) (by kernel_rfl) (by kernel_rfl) (fun _ _ _ h => h) (Or.inl ⟨by rfl, ?r⟩) hS ?_
  case r => intro W hW; simp [go_sem, execOp, Act.eval, hW.2]
  simp only [List.getElem_toArray, List.getElem_cons_zero, List.getElem_cons_succ, Act.put, List.setIfInBounds_toArray, List.set_cons_succ, List.set_cons_zero]
  refine wpAnyH_all (rs := [2]) (by kernel_rfl) (by simp) (fun i2 hi2 => ?_)
  obtain rfl : i2 = 2 := by simpa using hi2
  clear hi2
  refine wpOp_step rfl (fun K hK => ite_yes rfl ?_)
  simp only [List.getElem_toArray, List.getElem_cons_zero, List.getElem_cons_succ]
  go_simp
  refine hK _ _ ⟨(HK.out _ hB8).2, ?_⟩
  clear hK K
  refine wpAnyH_all (rs := [5]) (by kernel_rfl) (by simp) (fun i2 hi2 => ?_)
  obtain rfl : i2 = 5 := by simpa using hi2
  clear hi2
  refine wpOp_step rfl (fun K hK => ite_yes rfl ?_)
  simp only [List.getElem_toArray, List.getElem_cons_zero, List.getElem_cons_succ]
  go_simp
  refine hK _ _ ⟨(HK.out _ hB8).2, ?_⟩
  clear hK K
  refine wpAnyH_take (i := 6) (v := .bool (FloatKind.f64.format.order f.toNat f'.toNat == some .eq)) rfl (by kernel_rfl) (by kernel_rfl) (by kernel_rfl) (fun _ _ _ h => h) (Or.inl ⟨by rfl, ?r⟩) hS ?_
  case r => intro W hW; simp [go_sem, execOp, Act.eval]
  simp only [List.getElem_toArray, List.getElem_cons_zero, List.getElem_cons_succ, Act.put, List.setIfInBounds_toArray, List.set_cons_succ, List.set_cons_zero]
  refine wpAnyH_take (i := 7) (v := .bool (FloatKind.f64.format.order f.toNat f'.toNat == some .eq)) rfl (by kernel_rfl) (by kernel_rfl) (by kernel_rfl) (fun _ _ _ h => h) (Or.inl ⟨by rfl, ?r⟩) hS ?_
  case r => intro W hW; simp [go_sem, execOp, Act.eval]
  simp only [List.getElem_toArray, List.getElem_cons_zero, List.getElem_cons_succ, Act.put, List.setIfInBounds_toArray, List.set_cons_succ, List.set_cons_zero]
  refine wpAnyH_take (i := 8) (v := .string ⟨#[]⟩) rfl (by kernel_rfl) (by kernel_rfl) (by kernel_rfl) (fun _ _ _ h => h) (Or.inl ⟨by rfl, ?r⟩) hS ?_
  case r => intro W hW; simp [go_sem, execOp, Act.eval]
  simp only [List.getElem_toArray, List.getElem_cons_zero, List.getElem_cons_succ, Act.put, List.setIfInBounds_toArray, List.set_cons_succ, List.set_cons_zero]
  refine wpAnyH_done (by kernel_rfl) ?_ _
  refine NoPanic.normal ?_
  try simp only [Act.put]
  go_wp2_with fail
  refine bodyPost_ret (v := .tuple #[.bool (FloatKind.f64.format.order f.toNat f'.toNat == some .eq), .string ⟨#[]⟩]) (by simp [results, Tryd.results59, go_sem]) rfl ⟨rfl, (HK.out _ hB8).1⟩

set_option maxRecDepth 100000 in
set_option maxHeartbeats 8000000 in
theorem eqk_8 (t : ByteArray) (a f : Int) (s : ByteArray) (r0 r1 r2 r3 : Int) (pp : Option Addr) (path : List Int) (pc : Nat) (ip : Option Addr) (items : List MD) (ic : Nat) (a' f' : Int) (s' : ByteArray) (r0' r1' r2' r3' : Int) (pp' : Option Addr) (path' : List Int) (pc' : Nat) (ip' : Option Addr) (items' : List MD) (ic' : Nat) (w : World) (q : Bool) (c : ByteArray) (hA : ∀ W, Below w.heap.size w W → Calls Tryd.prog 67 #[.slice ip items.length ic, .slice ip' items'.length ic'] W fun r w' => r = .returned (.tuple #[.bool q, .string c]) ∧ Below W.heap.size W w') :
    Calls Tryd.prog 59 #[.agg #[.int .i64 8, .string t, .int .i64 a, .int .u64 f, .string s, .int .i64 r0, .int .i64 r1, .int .i64 r2, .int .i64 r3, .slice pp path.length pc, .slice ip items.length ic], .agg #[.int .i64 8, .string t, .int .i64 a', .int .u64 f', .string s', .int .i64 r0', .int .i64 r1', .int .i64 r2', .int .i64 r3', .slice pp' path'.length pc', .slice ip' items'.length ic']] w fun r w' => r = .returned (.tuple #[.bool q, .string c]) ∧ Below w.heap.size w w' := by
  have HQ : ∀ W, (binOp .neq 96 (.agg #[.int .i64 8, .string t]) (.agg #[.int .i64 8, .string t])).run Tryd.prog W = .ok (.bool false) W := fun W => by rw [typed_neq]; simp
  have HA : Hid (∀ W, Below w.heap.size w W → Calls Tryd.prog 67 #[.slice ip items.length ic, .slice ip' items'.length ic'] W fun r w' => r = .returned (.tuple #[.bool q, .string c]) ∧ Below W.heap.size W w') := hA
  clear hA
  obtain ⟨W2, hW2⟩ : ∃ W2, W2 = (w.alloc (.cells #[.int .i64 8, .string t, .int .i64 a, .int .u64 f, .string s, .int .i64 r0, .int .i64 r1, .int .i64 r2, .int .i64 r3, .slice pp path.length pc, .slice ip items.length ic] 39)).alloc (.cells #[.int .i64 8, .string t, .int .i64 a', .int .u64 f', .string s', .int .i64 r0', .int .i64 r1', .int .i64 r2', .int .i64 r3', .slice pp' path'.length pc', .slice ip' items'.length ic'] 39) := ⟨_, rfl⟩
  have HK : Hid (∀ W, Below W2.heap.size W2 W → Below w.heap.size w W ∧ (∀ i, W.cell? ⟨w.heap.size, i, none⟩ = (#[.int .i64 8, .string t, .int .i64 a, .int .u64 f, .string s, .int .i64 r0, .int .i64 r1, .int .i64 r2, .int .i64 r3, .slice pp path.length pc, .slice ip items.length ic] : Array Value)[i]?) ∧ (∀ i, W.cell? ⟨w.heap.size + 1, i, none⟩ = (#[.int .i64 8, .string t, .int .i64 a', .int .u64 f', .string s', .int .i64 r0', .int .i64 r1', .int .i64 r2', .int .i64 r3', .slice pp' path'.length pc', .slice ip' items'.length ic'] : Array Value)[i]?)) := fun W hW => by rw [hW2] at hW; exact kept2 hW
  have hz2 : W2.heap.size = w.heap.size + 2 := by rw [hW2]; simp
  have HTA : Hid (∀ W, Calls Tryd.prog 58 #[.agg #[.int .i64 8, .string t, .int .i64 a, .int .u64 f, .string s, .int .i64 r0, .int .i64 r1, .int .i64 r2, .int .i64 r3, .slice pp path.length pc, .slice ip items.length ic]] W fun r w' => r = .returned (.agg #[.int .i64 8, .string t]) ∧ Below W.heap.size W w') := fun W => typeOf_any _ _ _ _ _ _ _ _ _ _ _ W
  have HTB : Hid (∀ W, Calls Tryd.prog 58 #[.agg #[.int .i64 8, .string t, .int .i64 a', .int .u64 f', .string s', .int .i64 r0', .int .i64 r1', .int .i64 r2', .int .i64 r3', .slice pp' path'.length pc', .slice ip' items'.length ic']] W fun r w' => r = .returned (.agg #[.int .i64 8, .string t]) ∧ Below W.heap.size W w') := fun W => typeOf_any _ _ _ _ _ _ _ _ _ _ _ W
  go_enter Tryd.func59, Tryd.ntmps59
  go_wp2_with fail
  rw [← hW2]
  clear hW2
  refine wp_region_noPanic ?_
  refine wp_region_held (S := fun W => (∀ i, W.cell? ⟨w.heap.size, i, none⟩ = (#[.int .i64 8, .string t, .int .i64 a, .int .u64 f, .string s, .int .i64 r0, .int .i64 r1, .int .i64 r2, .int .i64 r3, .slice pp path.length pc, .slice ip items.length ic] : Array Value)[i]?) ∧ (∀ i, W.cell? ⟨w.heap.size + 1, i, none⟩ = (#[.int .i64 8, .string t, .int .i64 a', .int .u64 f', .string s', .int .i64 r0', .int .i64 r1', .int .i64 r2', .int .i64 r3', .slice pp' path'.length pc', .slice ip' items'.length ic'] : Array Value)[i]?)) (by kernel_rfl) ?_
  obtain ⟨W4, hW4⟩ : ∃ W4, W4 = W2.drew := ⟨_, rfl⟩
  have e4 : ({ W2 with drawn := W2.drawn + 1 } : World) = W4 := hW4.symm
  rw [e4]
  have hB4 : Below W2.heap.size W2 W4 := by rw [hW4]; exact (Below.refl _ _).drew
  have hS := (HK.out W4 hB4).2
  clear e4 hW4
  refine wpAnyH_take (i := 0) (v := .agg #[.int .i64 8, .string t, .int .i64 a, .int .u64 f, .string s, .int .i64 r0, .int .i64 r1, .int .i64 r2, .int .i64 r3, .slice pp path.length pc, .slice ip items.length ic]) rfl (by kernel_rfl) (by kernel_rfl) (by kernel_rfl) (fun _ _ _ h => h) (Or.inl ⟨by rfl, ?r⟩) hS ?_
  case r => intro W hW; simp [go_sem, execOp, Act.eval, hW.1]
  simp only [List.getElem_toArray, List.getElem_cons_zero, Act.put, List.setIfInBounds_toArray, List.set_cons_succ, List.set_cons_zero]
  refine wpAnyH_take (i := 2) (v := .agg #[.int .i64 8, .string t, .int .i64 a', .int .u64 f', .string s', .int .i64 r0', .int .i64 r1', .int .i64 r2', .int .i64 r3', .slice pp' path'.length pc', .slice ip' items'.length ic']) rfl (by kernel_rfl) (by kernel_rfl) (by kernel_rfl) (fun _ _ _ h => h) (Or.inl ⟨by rfl, ?r⟩) hS ?_
  case r => intro W hW; simp [go_sem, execOp, Act.eval, hW.2]
  simp only [List.getElem_toArray, List.getElem_cons_zero, List.getElem_cons_succ, Act.put, List.setIfInBounds_toArray, List.set_cons_succ, List.set_cons_zero]
  refine wpAnyH_all (rs := [1]) (by kernel_rfl) (by simp) (fun i2 hi2 => ?_)
  obtain rfl : i2 = 1 := by simpa using hi2
  clear hi2
  refine wpOp_step rfl (fun K hK => ite_yes rfl ?_)
  simp only [List.getElem_toArray, List.getElem_cons_zero, List.getElem_cons_succ]
  go_simp
  refine (HTA.out _).mono ?_
  rintro e w5 ⟨rfl, b5⟩
  have hb5 : Below W2.heap.size W2 w5 := hB4.trans (b5.mono hB4.size)
  go_simp
  refine hK _ _ ⟨(HK.out _ hb5).2, ?_⟩
  clear hK K
  refine wpAnyH_all (rs := [3]) (by kernel_rfl) (by simp) (fun i2 hi2 => ?_)
  obtain rfl : i2 = 3 := by simpa using hi2
  clear hi2
  refine wpOp_step rfl (fun K hK => ite_yes rfl ?_)
  simp only [List.getElem_toArray, List.getElem_cons_zero, List.getElem_cons_succ]
  go_simp
  refine (HTB.out _).mono ?_
  rintro e w6 ⟨rfl, b6⟩
  have hb6 : Below W2.heap.size W2 w6 := hb5.trans (b6.mono hb5.size)
  go_simp
  refine hK _ _ ⟨(HK.out _ hb6).2, ?_⟩
  clear hK K
  clear hS
  have hS := (HK.out _ hb6).2
  refine wpAnyH_take (i := 4) (v := .bool false) rfl (by kernel_rfl) (by kernel_rfl) (by kernel_rfl) (fun _ _ _ h => h) (Or.inl ⟨by rfl, ?r⟩) hS ?_
  case r => intro W hW; simp [go_sem, execOp, Act.eval, HQ]
  simp only [List.getElem_toArray, List.getElem_cons_zero, List.getElem_cons_succ, Act.put, List.setIfInBounds_toArray, List.set_cons_succ, List.set_cons_zero]
  refine wpAnyH_done (by kernel_rfl) ?_ _
  refine NoPanic.normal ?_
  try simp only [Act.put]
  have hc6 := (HK.out _ hb6).2.1
  have hd6 := (HK.out _ hb6).2.2
  have HB6 : Hid (Below W2.heap.size W2 w6) := hb6
  have hz6 := hb6.size
  clear hb6 b6 hb5 b5 hB4 hS HQ HTA HTB
  have hb0 : w6.cell? ⟨w.heap.size, 0, none⟩ = some (.int .i64 8) := hc6 0
  go_wp2_with (first | (go_at_call 66; refine (behind_8 _ _ hb0 (by omega)).mono ?_; rintro r w7 ⟨rfl, b7⟩; have HB7 : Hid (Below W2.heap.size W2 w7) := HB6.out.trans (b7.mono HB6.out.size); have hc7 := (HK.out _ HB7.out).2.1; have hd7 := (HK.out _ HB7.out).2.2; clear b7) | (go_at_call 67; refine (HA.out _ (HK.out _ HB7.out).1).mono ?_; rintro r w8 ⟨rfl, b8⟩; have HB8 : Hid (Below W2.heap.size W2 w8) := HB7.out.trans (b8.mono HB7.out.size); clear b8))
  refine bodyPost_ret (v := .tuple #[.bool q, .string c]) (by simp [results, Tryd.results59, go_sem]) rfl ⟨rfl, (HK.out _ HB8.out).1⟩

theorem head_path {h : Hd} {il : Nat} (hh : headOK h il = true) : h.path.length ≤ 100 ∧ ∀ z ∈ h.path, 0 ≤ z ∧ z < 30 := by
  unfold headOK at hh
  rw [Bool.and_eq_true, Bool.and_eq_true] at hh
  obtain ⟨⟨_, h2⟩, h3⟩ := hh
  by_cases h9 : h.k = 9
  · unfold kindB at h3
    rw [if_neg (by omega), if_neg (by omega), if_neg (by omega), if_neg (by omega), if_neg (by omega), if_neg (by omega), if_pos h9, targetB_eq] at h3
    simp only [Bool.and_eq_true, decide_eq_true_eq, List.all_eq_true] at h3
    exact ⟨h3.1.1.2, fun z hz => by have := h3.2 z hz; simp only [stepB, Bool.and_eq_true, decide_eq_true_eq] at this; exact this⟩
  · unfold zeroK at h2
    simp only [Bool.and_eq_true, Bool.or_eq_true, beq_iff_eq] at h2
    have h4 : h.path = [] := by
      rcases h2.1.2 with e | e
      · exact absurd e h9
      · exact List.eq_nil_of_length_eq_zero (by exact_mod_cast e)
    rw [h4]; exact ⟨by simp, fun z hz => by cases hz⟩
theorem size_of_list {t : ByteArray} {l : List UInt8} (h : t.toList = l) : t.size = l.length := by
  rw [Lib.size_eq, ← h, Lib.toList_data]
theorem ty_small {k : Int} {t : ByteArray} (h : tyB k t = true) : t.size ≤ 40 := by
  have hd : declB t = true → t.size ≤ 40 := fun h => by
    unfold declB at h
    simp only [Bool.and_eq_true, decide_eq_true_eq] at h
    exact h.1.1.2
  rcases kinds k with rfl | rfl | rfl | rfl | rfl | rfl | rfl | rfl | rfl | rfl | hk
  · have e : (t.toList == []) = true := h
    have := size_of_list (beq_iff_eq.1 e); rw [this]; decide
  iterate 7 (
    rcases (Bool.or_eq_true _ _).mp (show (_ || declB t) = true from h) with e | e
    · have := size_of_list (beq_iff_eq.1 e); rw [this]; decide
    · exact hd e)
  · exact hd h
  · exact hd h
  · have := tyB_out hk h; cases this

theorem eqv_step (n : Nat) (hI : EqC n) : EqC (n + 1) := by
  intro x y w hx hy fx fy
  by_cases hty : x.h.k = y.h.k ∧ x.h.t = y.h.t
  · have hF := hx.fine
    have hF' := hy.fine
    have hP := hx.path
    have hP' := hy.path
    have hxi := hx.items
    have hyi := hy.items
    have hl := hx.len
    obtain ⟨⟨k, t, a, f, s, r0, r1, r2, r3, pp, path, pc⟩, ip, ic, items⟩ := x
    obtain ⟨⟨k', t', a', f', s', r0', r1', r2', r3', pp', path', pc'⟩, ip', ic', items'⟩ := y
    obtain ⟨rfl, rfl⟩ : k = k' ∧ t = t' := hty
    have fx2 : (headOK ⟨k, t, a, f, s, r0, r1, r2, r3, pp, path, pc⟩ items.length && (k != 8 || (decide (items.length ≤ 30) && items.all (MD.full n)))) = true := fx
    have fy2 : (headOK ⟨k, t, a', f', s', r0', r1', r2', r3', pp', path', pc'⟩ items'.length && (k != 8 || (decide (items'.length ≤ 30) && items'.all (MD.full n)))) = true := fy
    rw [Bool.and_eq_true] at fx2 fy2
    obtain ⟨hp, hb⟩ := head_path fx2.1
    obtain ⟨hp', hb'⟩ := head_path fy2.1
    have hty : tyB k t = true := by
      have := fx2.1
      unfold headOK at this
      rw [Bool.and_eq_true, Bool.and_eq_true] at this
      exact this.1.1
    have ht := ty_small hty
    simp only [MD.eqv, MD.val, D]
    rw [if_pos ⟨trivial, trivial⟩]
    rcases kinds k with rfl | rfl | rfl | rfl | rfl | rfl | rfl | rfl | rfl | rfl | hk
    · rw [if_neg (by decide), if_neg (by decide), if_neg (by decide)]
      exact eqk_0 t a f s r0 r1 r2 r3 pp path pc ip items ic a' f' s' r0' r1' r2' r3' pp' path' pc' ip' items' ic' w hF hF' hP hP' hp hb hp' hb'
    · rw [if_neg (by decide), if_neg (by decide), if_neg (by decide)]
      exact eqk_1 t a f s r0 r1 r2 r3 pp path pc ip items ic a' f' s' r0' r1' r2' r3' pp' path' pc' ip' items' ic' w hF hF' hP hP' hp hb hp' hb'
    · rw [if_neg (by decide), if_neg (by decide), if_neg (by decide)]
      exact eqk_2 t a f s r0 r1 r2 r3 pp path pc ip items ic a' f' s' r0' r1' r2' r3' pp' path' pc' ip' items' ic' w hF hF' hP hP' hp hb hp' hb'
    · rw [if_neg (by decide), if_pos rfl]
      exact eqk_3 t a f s r0 r1 r2 r3 pp path pc ip items ic a' f' s' r0' r1' r2' r3' pp' path' pc' ip' items' ic' w
    · rw [if_neg (by decide), if_neg (by decide), if_neg (by decide)]
      exact eqk_4 t a f s r0 r1 r2 r3 pp path pc ip items ic a' f' s' r0' r1' r2' r3' pp' path' pc' ip' items' ic' w hF hF' hP hP' hp hb hp' hb'
    · rw [if_neg (by decide), if_neg (by decide), if_pos (by decide)]
      exact eqk_5 t a f s r0 r1 r2 r3 pp path pc ip items ic a' f' s' r0' r1' r2' r3' pp' path' pc' ip' items' ic' w (by omega)
    · rw [if_neg (by decide), if_neg (by decide), if_pos (by decide)]
      exact eqk_6 t a f s r0 r1 r2 r3 pp path pc ip items ic a' f' s' r0' r1' r2' r3' pp' path' pc' ip' items' ic' w (by omega)
    · rw [if_neg (by decide), if_neg (by decide), if_pos (by decide)]
      exact eqk_7 t a f s r0 r1 r2 r3 pp path pc ip items ic a' f' s' r0' r1' r2' r3' pp' path' pc' ip' items' ic' w (by omega)
    · rw [if_pos rfl]
      have gx : items.all (MD.full n) = true := by have := fx2.2; simp at this; simpa using this.2
      have gy : items'.all (MD.full n) = true := by have := fy2.2; simp at this; simpa using this.2
      refine eqk_8 t a f s r0 r1 r2 r3 pp path pc ip items ic a' f' s' r0' r1' r2' r3' pp' path' pc' ip' items' ic' w _ _ fun W hW => allEqual_step n hI ⟨⟨8, t, a, f, s, r0, r1, r2, r3, pp, path, pc⟩, ip, ic, items⟩ ⟨⟨8, t, a', f', s', r0', r1', r2', r3', pp', path', pc'⟩, ip', ic', items'⟩ W (hxi.later hW) (hyi.later hW) (Nat.le_trans hl.1 hl.2) gx gy
    · rw [if_neg (by decide), if_neg (by decide), if_neg (by decide)]
      exact eqk_9 t a f s r0 r1 r2 r3 pp path pc ip items ic a' f' s' r0' r1' r2' r3' pp' path' pc' ip' items' ic' w hF hF' hP hP' hp hb hp' hb'
    · have := tyB_range hty; omega
  · have e : MD.eqv (n + 1) x y = (false, ⟨#[]⟩) := by simp only [MD.eqv]; rw [if_neg hty]
    rw [e]
    exact equal_unlike x y w hty
theorem eqv_any : ∀ n, EqC n
  | 0 => fun _ _ _ h _ _ _ => h.elim
  | n + 1 => eqv_step n (eqv_any n)
end Go.Proofs.YtflonmlnedkmjaaDoor
