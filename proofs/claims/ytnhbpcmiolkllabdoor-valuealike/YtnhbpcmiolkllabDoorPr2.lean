/-
  A datum, made.
-/
import Derived.Test.YtnhbpcmiolkllabDoorPq2
import Derived.Test.YtnhbpcmiolkllabDoorIa2J
namespace Go.Proofs.YtnhbpcmiolkllabDoor
open Go.RowKit
attribute [local go_sem] refold2 cell3_0 cell3_1 b28_0 b28_01 b32_k

set_option maxRecDepth 100000 in
set_option maxHeartbeats 4000000 in
theorem made_0 (kb : Nat) (rp : Option Addr) (raw : List Int) (rc at_ : Nat) (w : World) (hM : MakerAt w kb rp raw rc at_) (ha : at_ + bd 0 ≤ 90000) :
    Calls Tryd.prog 7 #[.pointer (some ⟨kb, 0, none⟩), .int .i64 3] w (MadeP 0 kb rp raw rc at_ w) := by
  have hk : kb < w.heap.size := (Array.getElem?_eq_some_iff.1 hM.row).1
  have HM : Hid (MakerAt w kb rp raw rc at_) := hM
  have ha' : at_ + 12 ≤ 90000 := ha
  clear hM ha
  go_enter Tryd.func7, Tryd.ntmps7
  go_wp2_with fail
  refine (simple_any kb rp raw rc (at_) _ (HM.out.below (below1 _ _)) (by omega)).mono ?_
  rintro e v2 ⟨⟨⟨k, t, n, f, s, r0, r1, r2, r3, pp, path, pc⟩, ip, ic, items⟩, a2, rfl, hin, hR, hab, ha2, hM2, hv2⟩
  have hres : v2.heap[w.heap.size]? = some (.cells zeros 32 (0, 0)) := (hv2.block _ (by simp) (by omega)).trans (heap_alloc_new _ _)
  have hr : ∀ i, v2.cell? ⟨w.heap.size, i, none⟩ = (#[.int .i64 0, .string ⟨#[]⟩, .int .i64 0, .int .u64 0, .string ⟨#[]⟩, .int .i64 0, .int .i64 0, .int .i64 0, .int .i64 0, .slice none 0 0, .slice none 0 0] : Array Value)[i]? := row_at hres
  have hg := fun i => fz _ _ _ _ i hres
  have hy : w.heap.size < v2.heap.size := (Array.getElem?_eq_some_iff.1 hres).1
  have HH : Hid _ := hin
  have HR : Hid _ := hR
  have HA : Hid _ := hab
  have HM2 : Hid _ := hM2
  have HV : Hid (Moved kb w v2) := (Moved.of_below (below1 _ _)).trans hv2
  clear hin hR hab hM2 hv2 hres
  simp only [MD.val, D]
  go_wp2_with fail
  refine bodyPost_ret (v := .agg #[.int .i64 k, .string t, .int .i64 n, .int .u64 f, .string s, .int .i64 r0, .int .i64 r1, .int .i64 r2, .int .i64 r3, .slice pp path.length pc, .slice ip items.length ic]) (by simp [results, Tryd.results7, go_sem, hr]) rfl ?_
  exact made_of_sim (d := ⟨⟨k, t, n, f, s, r0, r1, r2, r3, pp, path, pc⟩, ip, ic, items⟩) 0 HH.out HR.out (by have e := HA.out; rwa [World.size_alloc] at e) HM.out HM2.out HV.out (bset (Below.refl _ _) (Nat.le_refl _) _ _ _ _ _ _ _ _ _ _ _) (fun b hb => eleven9 v2 w.heap.size b hb _ _ _ _ _ _ _ _ _ _ _) (by show a2 ≤ at_ + 12; omega)
theorem PM.set {r kb : Nat} {rp : Option Addr} {raw : List Int} {rc a bx : Nat} {w W : World} {row : Array Value} {ip : Option Addr} {ds : List MD} {ic : Nat} (h : PM r kb rp raw rc w W a bx row ip ds ic) (q : Nat) (v : Value) : PM r kb rp raw rc w (W.setCell ⟨bx, q, none⟩ v) a bx (row.setIfInBounds q v) ip ds ic :=
  ⟨h.sb.set q v, own_block h.own (fun b b1 _ => Below.heap_setCell _ _ _ _ (show b ≠ bx by omega)), fun x hx => have k := h.kids x hx
    ⟨by rw [World.size_setCell]; exact MD.In.off (og := some bx) (fun b _ b2 => Below.heap_setCell _ _ _ _ (show b ≠ bx from fun e => b2 (by rw [e]))) _ _ k.here (MD.Above.off (fun g e => by cases e; omega) _ _ k.hi), k.hi, k.full, k.size, k.off⟩⟩
set_option maxRecDepth 100000 in
set_option maxHeartbeats 4000000 in
theorem made_step (r : Nat) (kb : Nat) (rp : Option Addr) (raw : List Int) (rc : Nat) (deep : Int) (hd0 : 0 ≤ deep) (hd2 : deep ≤ 2) (HI : Hid (∀ (a : Nat) (W : World), MakerAt W kb rp raw rc a → a + bd r ≤ 90000 → Calls Tryd.prog 7 #[.pointer (some ⟨kb, 0, none⟩), .int .i64 (deep + 1)] W (MadeP r kb rp raw rc a W)))
    (at_ : Nat) (w : World) (hM : MakerAt w kb rp raw rc at_) (ha : at_ + bd (r + 1) ≤ 90000) :
    Calls Tryd.prog 7 #[.pointer (some ⟨kb, 0, none⟩), .int .i64 deep] w (MadeP (r + 1) kb rp raw rc at_ w) := by
  have hk : kb < w.heap.size := (Array.getElem?_eq_some_iff.1 hM.row).1
  have HM : Hid (MakerAt w kb rp raw rc at_) := hM
  have ha' : at_ + (3 + 3 * bd r) ≤ 90000 := ha
  have hbd := bd_ge r
  have hd3 : ¬ (3 : Int) ≤ deep := by omega
  have hwr : IntKind.i64.wrap (deep + 1) = deep + 1 := by unfold IntKind.wrap; simp [IntKind.bits, IntKind.signed]; omega
  clear hM ha
  go_enter Tryd.func7, Tryd.ntmps7
  go_wp2_with fail
  refine (next_det kb rp raw rc at_ 3 _ (HM.out.below (below1 _ _)) (by omega) (by decide) (by decide)).mono ?_
  rintro e w2 ⟨c, rfl, d0, e0, hM2, hv2⟩
  have hr2 : w2.heap[w.heap.size]? = some (.cells zeros 32 (0, 0)) := (hv2.block _ (by simp) (by omega)).trans (heap_alloc_new _ _)
  have HV0 : Hid (Moved kb w w2) := (Moved.of_below (below1 _ _)).trans hv2
  have HS0 : Hid (St kb rp raw rc w w2 (at_ + 1)) := ⟨HV0.out, hM2.row⟩
  have HR0 : Hid _ := hr2
  have hy0 : w.heap.size < w2.heap.size := (Array.getElem?_eq_some_iff.1 hr2).1
  have q0 := nv_range raw at_ 3 (by decide)
  clear hM2 hv2 hr2
  by_cases hc : 0 < c
  · go_wp2_with fail
    refine (simple_any kb rp raw rc (at_ + 1) _ (HS0.out.maker HM.out) (by omega)).mono ?_
    rintro e v2 ⟨⟨⟨k, t, n, f, s, r0, r1, r2, r3, pp, path, pc⟩, ip, ic, items⟩, a2, rfl, hin, hR, hab, ha2, hM2, hv2⟩
    have hres : v2.heap[w.heap.size]? = some (.cells zeros 32 (0, 0)) := (hv2.block _ (hy0) (by omega)).trans HR0.out
    have hr : ∀ i, v2.cell? ⟨w.heap.size, i, none⟩ = (#[.int .i64 0, .string ⟨#[]⟩, .int .i64 0, .int .u64 0, .string ⟨#[]⟩, .int .i64 0, .int .i64 0, .int .i64 0, .int .i64 0, .slice none 0 0, .slice none 0 0] : Array Value)[i]? := row_at hres
    have hg := fun i => fz _ _ _ _ i hres
    have hy : w.heap.size < v2.heap.size := (Array.getElem?_eq_some_iff.1 hres).1
    have HH : Hid _ := hin
    have HR : Hid _ := hR
    have HA : Hid _ := hab
    have HM2 : Hid _ := hM2
    have HV : Hid (Moved kb w v2) := HV0.out.trans hv2
    clear hin hR hab hM2 hv2 hres
    simp only [MD.val, D]
    go_wp2_with fail
    refine bodyPost_ret (v := .agg #[.int .i64 k, .string t, .int .i64 n, .int .u64 f, .string s, .int .i64 r0, .int .i64 r1, .int .i64 r2, .int .i64 r3, .slice pp path.length pc, .slice ip items.length ic]) (by simp [results, Tryd.results7, go_sem, hr]) rfl ?_
    exact made_of_sim (d := ⟨⟨k, t, n, f, s, r0, r1, r2, r3, pp, path, pc⟩, ip, ic, items⟩) (r + 1) HH.out HR.out (MD.Above.mono hy0 _ _ HA.out) HM.out HM2.out HV.out (bset (Below.refl _ _) (Nat.le_refl _) _ _ _ _ _ _ _ _ _ _ _) (fun b hb => eleven9 v2 w.heap.size b hb _ _ _ _ _ _ _ _ _ _ _) (by have := bd_ge r; show a2 ≤ at_ + (3 + 3 * bd r); omega)
  · obtain rfl : c = 0 := by omega
    clear hc q0 d0 e0
    go_wp2_with fail
    refine (next_det kb rp raw rc (at_ + 1) 2 _ ((HS0.out.maker HM.out).below (below1 _ _)) (by omega) (by decide) (by decide)).mono ?_
    rintro e w3 ⟨c1, rfl, d1, e1, hM3, hv3⟩
    have hr3 : w3.heap[w.heap.size]? = some (.cells zeros 32 (0, 0)) := ((Moved.of_below (below1 _ _)).trans hv3).block _ hy0 (by omega) |>.trans HR0.out
    have hp3 : w3.heap[w2.heap.size]? = some (.cells #[.string ⟨#[83]⟩, .string ⟨#[84]⟩] 9 (0, 0)) := (hv3.block _ (by simp) (by omega)).trans (heap_alloc_new _ _)
    have HS1 : Hid (St kb rp raw rc w w3 (at_ + 1 + 1)) := ⟨(HV0.out.trans (Moved.of_below (below1 _ _))).trans hv3, hM3.row⟩
    have HR1 : Hid _ := hr3
    have hy1 : w.heap.size < w3.heap.size := (Array.getElem?_eq_some_iff.1 hr3).1
    have q1 := nv_range raw (at_ + 1) 2 (by decide)
    obtain ⟨m1, rfl⟩ : ∃ m : Nat, c1 = m := ⟨c1.toNat, by omega⟩
    have hm1 : m1 < 2 := by omega
    have i1 : (m1 : Int) < 2 := by omega
    obtain ⟨tv, htv, htd, ht0⟩ := two_get ⟨#[83]⟩ ⟨#[84]⟩ m1 hm1 ⟨decl_S, by decide⟩ ⟨decl_T, by decide⟩
    have hl1 := (row_at hp3 m1).trans htv
    have HT9 : Hid (tyB 8 tv = true ∧ (tv : ByteArray).size ≤ 100) := ⟨tyB_decl 8 tv (by decide) (by decide) htd, ht0⟩
    clear hp3 htv htd ht0 hM3 hv3 hr3 d1 e1 q1
    go_wp2_with fail
    refine (next_det kb rp raw rc (at_ + 1 + 1) 4 _ ((Sb.new HS1.out hk HR1.out #[.int .i64 8, .string tv, .int .i64 0, .int .u64 0, .string ⟨#[]⟩, .int .i64 0, .int .i64 0, .int .i64 0, .int .i64 0, .slice none 0 0, .slice none 0 0]).maker HM.out) (by omega) (by decide) (by decide)).mono ?_
    rintro e w4 ⟨c2, rfl, d2, e2, hM4, hv4⟩
    have HS2 : Hid (Sb kb rp raw rc w w4 (at_ + 1 + 1 + 1) w3.heap.size #[.int .i64 8, .string tv, .int .i64 0, .int .u64 0, .string ⟨#[]⟩, .int .i64 0, .int .i64 0, .int .i64 0, .int .i64 0, .slice none 0 0, .slice none 0 0]) := (Sb.new HS1.out hk HR1.out #[.int .i64 8, .string tv, .int .i64 0, .int .u64 0, .string ⟨#[]⟩, .int .i64 0, .int .i64 0, .int .i64 0, .int .i64 0, .slice none 0 0, .slice none 0 0]).next hM4 hv4
    have q2 := nv_range raw (at_ + 1 + 1) 4 (by decide)
    obtain ⟨m0, rfl⟩ : ∃ m : Nat, c2 = m := ⟨c2.toNat, by omega⟩
    have hm0 : m0 ≤ 3 := by omega
    clear hM4 hv4 q2 d2 e2
    have hmb := Nat.mul_le_mul_right (bd r) hm0
    go_wp2_with fail
    go_loopw [6] (fun i wr => ∃ (m : Nat) (ds : List MD) (ip : Option Addr) (ic A : Nat), i = .int .i64 m ∧ ds.length + m ≤ 3 ∧ A + m * bd r ≤ at_ + (3 + 3 * bd r) ∧ Hid (PM r kb rp raw rc w wr (A) w3.heap.size #[.int .i64 8, .string tv, .int .i64 0, .int .u64 0, .string ⟨#[]⟩, .int .i64 0, .int .i64 0, .int .i64 0, .int .i64 0, .slice none 0 0, (.slice ip ds.length ic)] ip ds ic)) (fun i _ => (intOf i).toNat)
    case atStart => exact ⟨m0, [], none, 0, at_ + 1 + 1 + 1, rfl, by show 0 + m0 ≤ 3; omega, by omega, HS2.out, World.ownsRow_nil _ _ _ _, fun z hz => (by cases hz)⟩
    case round =>
      obtain ⟨m, ds, ip, ic, A, rfl, hn1, hn2, HP⟩ := hrel
      have hc : ∀ i, wr.cell? ⟨w3.heap.size, i, none⟩ = _ := row_at HP.out.sb.box
      have hf := fun i => fz _ _ _ _ i HP.out.sb.box
      have hr : ∀ i, wr.cell? ⟨w.heap.size, i, none⟩ = (#[.int .i64 0, .string ⟨#[]⟩, .int .i64 0, .int .u64 0, .string ⟨#[]⟩, .int .i64 0, .int .i64 0, .int .i64 0, .int .i64 0, .slice none 0 0, .slice none 0 0] : Array Value)[i]? := row_at HP.out.sb.res
      have hg := fun i => fz _ _ _ _ i HP.out.sb.res
      have hz : w3.heap.size < wr.heap.size := (Array.getElem?_eq_some_iff.1 HP.out.sb.box).1
      have hy : w.heap.size < wr.heap.size := (Array.getElem?_eq_some_iff.1 HP.out.sb.res).1
      rcases m with _ | m
      · have g1 : ¬ (0 : Int) < ((0 : Nat) : Int) := by omega
        go_wp2_with fail
        refine bodyPost_ret (v := .agg #[.int .i64 8, .string tv, .int .i64 0, .int .u64 0, .string ⟨#[]⟩, .int .i64 0, .int .i64 0, .int .i64 0, .int .i64 0, .slice none 0 0, (.slice ip ds.length ic)]) (by simp [results, Tryd.results7, go_sem, hr]) rfl ?_
        exact made_done tv HM.out HP.out (bset (Below.refl _ _) (Nat.le_refl _) _ _ _ _ _ _ _ _ _ _ _) (fun b hb => eleven9 wr w.heap.size b hb _ _ _ _ _ _ _ _ _ _ _) (by show A ≤ at_ + (3 + 3 * bd r); omega) HT9.out.1 HT9.out.2 (by omega)
      · have g1 : (0 : Int) < ((m + 1 : Nat) : Int) := by omega
        have e1 : (m + 1) * bd r = m * bd r + bd r := Nat.succ_mul _ _
        go_wp2_with fail
        clear hr hg
        refine wp_region_noPanic ?_
        refine wp_region_held (S := fun _ => True) (by kernel_rfl) ?_
        obtain ⟨v0, hv0⟩ : ∃ v0, v0 = wr.drew := ⟨_, rfl⟩
        have e4 : ({ wr with drawn := wr.drawn + 1 } : World) = v0 := hv0.symm
        rw [e4]
        have B0 : Below wr.heap.size wr v0 := by rw [hv0]; exact (Below.refl _ _).drew
        have HP0 : Hid (PM r kb rp raw rc w v0 (A) w3.heap.size #[.int .i64 8, .string tv, .int .i64 0, .int .u64 0, .string ⟨#[]⟩, .int .i64 0, .int .i64 0, .int .i64 0, .int .i64 0, .slice none 0 0, (.slice ip ds.length ic)] ip ds ic) := HP.out.below B0
        have hS : True := trivial
        clear e4 hv0 B0
        refine wpAnyH_take (i := 0) (v := .pointer (some ⟨w3.heap.size, 10, none⟩)) rfl (by kernel_rfl) (by kernel_rfl) (by kernel_rfl) (fun _ _ _ h => h) (Or.inl ⟨by rfl, ?r⟩) hS ?_
        case r => intro W hW; simp [go_sem, execOp, Act.eval]
        simp only [List.getElem_toArray, List.getElem_cons_zero, Act.put, List.setIfInBounds_toArray, List.set_cons_succ, List.set_cons_zero]
        refine wpAnyH_take (i := 2) (v := .pointer (some ⟨kb, 0, none⟩)) rfl (by kernel_rfl) (by kernel_rfl) (by kernel_rfl) (fun _ _ _ h => h) (Or.inl ⟨by rfl, ?r⟩) hS ?_
        case r => intro W hW; simp [go_sem, execOp, Act.eval]
        simp only [List.getElem_toArray, List.getElem_cons_zero, List.getElem_cons_succ, Act.put, List.setIfInBounds_toArray, List.set_cons_succ, List.set_cons_zero]
        refine wpAnyH_take (i := 3) (v := .int .i64 deep) rfl (by kernel_rfl) (by kernel_rfl) (by kernel_rfl) (fun _ _ _ h => h) (Or.inl ⟨by rfl, ?r⟩) hS ?_
        case r => intro W hW; simp [go_sem, execOp, Act.eval]
        simp only [List.getElem_toArray, List.getElem_cons_zero, List.getElem_cons_succ, Act.put, List.setIfInBounds_toArray, List.set_cons_succ, List.set_cons_zero]
        refine wpAnyH_take (i := 4) (v := .int .i64 (deep + 1)) rfl (by kernel_rfl) (by kernel_rfl) (by kernel_rfl) (fun _ _ _ h => h) (Or.inl ⟨by rfl, ?r⟩) hS ?_
        case r => intro W hW; simp [go_sem, execOp, Act.eval, hwr]
        simp only [List.getElem_toArray, List.getElem_cons_zero, List.getElem_cons_succ, Act.put, List.setIfInBounds_toArray, List.set_cons_succ, List.set_cons_zero]
        refine wpAnyH_all (rs := [1, 5]) (by kernel_rfl) (by simp) (fun i2 hi2 => ?_)
        obtain rfl | rfl : i2 = 1 ∨ i2 = 5 := by simpa using hi2
        · clear hi2
          refine wpOp_step rfl (fun K hK => ite_yes rfl ?_)
          simp only [List.getElem_toArray, List.getElem_cons_zero, List.getElem_cons_succ]
          have hl : ∀ q, v0.cell? ⟨w3.heap.size, q, none⟩ = (#[.int .i64 8, .string tv, .int .i64 0, .int .u64 0, .string ⟨#[]⟩, .int .i64 0, .int .i64 0, .int .i64 0, .int .i64 0, .slice none 0 0, (.slice ip ds.length ic)] : Array Value)[q]? := row_at HP0.out.sb.box
          go_simp
          refine hK _ _ ⟨trivial, ?_⟩
          clear hK K hl
          refine wpAnyH_all (rs := [5]) (by kernel_rfl) (by simp) (fun i2 hi2 => ?_)
          obtain rfl : i2 = 5 := by simpa using hi2
          clear hi2
          refine wpOp_step rfl (fun K hK => ite_yes rfl ?_)
          simp only [List.getElem_toArray, List.getElem_cons_zero, List.getElem_cons_succ]
          go_simp
          refine (HI.out A _ (HP0.out.sb.maker HM.out) (by omega)).mono ?_
          rintro e v1 ⟨⟨⟨k, t, n, f, s, r0, r1, r2, r3, pp, path, pc⟩, jp, jc, items⟩, a2, rfl, hin, hful, hsz, hab, ha2, hM1, hv1⟩
          have HP1 : Hid (PM r kb rp raw rc w v1 (a2) w3.heap.size #[.int .i64 8, .string tv, .int .i64 0, .int .u64 0, .string ⟨#[]⟩, .int .i64 0, .int .i64 0, .int .i64 0, .int .i64 0, .slice none 0 0, (.slice ip ds.length ic)] ip ds ic) := HP0.out.next hM1 hv1
          have HK1 : Hid (Kid r w3.heap.size (Value.slice ip ds.length ic).ownBlock v1 ⟨⟨k, t, n, f, s, r0, r1, r2, r3, pp, path, pc⟩, jp, jc, items⟩) := ⟨hin, MD.Above.mono (Array.getElem?_eq_some_iff.1 HP0.out.sb.box).1 _ _ hab, hful, hsz, MD.Above.off (fun g e => (HP0.out.own.lt g e).2) _ _ hab⟩
          simp only [MD.val, D]
          go_simp
          refine hK _ _ ⟨trivial, ?_⟩
          clear hK K hM1 hv1 hin hful hsz hab
          refine wpAnyH_all (rs := [6]) (by kernel_rfl) (by simp) (fun i2 hi2 => ?_)
          obtain rfl : i2 = 6 := by simpa using hi2
          clear hi2
          refine wpOp_step rfl (fun K hK => ite_yes rfl ?_)
          simp only [List.getElem_toArray, List.getElem_cons_zero, List.getElem_cons_succ]
          go_simp
          have HP2 : Hid (PM r kb rp raw rc w (v1.alloc (.cells #[.int .i64 k, .string t, .int .i64 n, .int .u64 f, .string s, .int .i64 r0, .int .i64 r1, .int .i64 r2, .int .i64 r3, .slice pp path.length pc, .slice jp items.length jc] 32)) (a2) w3.heap.size #[.int .i64 8, .string tv, .int .i64 0, .int .u64 0, .string ⟨#[]⟩, .int .i64 0, .int .i64 0, .int .i64 0, .int .i64 0, .slice none 0 0, (.slice ip ds.length ic)] ip ds ic) := HP1.out.below (below1 _ _)
          have HK2 : Hid (Kid r w3.heap.size (Value.slice ip ds.length ic).ownBlock (v1.alloc (.cells #[.int .i64 k, .string t, .int .i64 n, .int .u64 f, .string s, .int .i64 r0, .int .i64 r1, .int .i64 r2, .int .i64 r3, .slice pp path.length pc, .slice jp items.length jc] 32)) ⟨⟨k, t, n, f, s, r0, r1, r2, r3, pp, path, pc⟩, jp, jc, items⟩) := HK1.out.later (below1 _ _)
          refine hK _ _ ⟨trivial, ?_⟩
          clear hK K
          refine wpAnyH_all (rs := [7]) (by kernel_rfl) (by simp) (fun i2 hi2 => ?_)
          obtain rfl : i2 = 7 := by simpa using hi2
          clear hi2
          refine wpOp_step rfl (fun K hK => ite_yes rfl ?_)
          simp only [List.getElem_toArray, List.getElem_cons_zero, List.getElem_cons_succ]
          obtain ⟨i28, hi28, hz280, hz281, hz282⟩ := info_parts info28z
          refine wp_append_where _ _ 30 rfl (w3.heap.size + 1) 32 i28 (.agg zeros) 11 136 Tryd.underlying30 hi28 hz280 hz281 hz282 rfl (by decide) (.slice ip ds.length ic) ds.length (rowOf ds) rfl HP2.out.own ⟨v1.heap.size, 0, none⟩ 1 1 (MD.cells ⟨⟨k, t, n, f, s, r0, r1, r2, r3, pp, path, pc⟩, jp, jc, items⟩).toList rfl rfl (fun q u hq => rowc_cell hq) (MD.cells_one _) (by unfold maxLen; omega) (by omega) (by have := (Array.getElem?_eq_some_iff.1 HP2.out.sb.box).1; omega) ?_
          intro vn v3 hown hgr hwh
          obtain ⟨ip2, ic2, rfl, HP3⟩ := PM.grown HP2.out HK2.out hown hgr hwh
          refine hK _ _ ⟨trivial, ?_⟩
          clear hK K hown hgr hwh
          have hS : True := trivial
          refine wpAnyH_take (i := 8) (v := .pointer (some ⟨w3.heap.size, 10, none⟩)) rfl (by kernel_rfl) (by kernel_rfl) (by kernel_rfl) (fun _ _ _ h => h) (Or.inl ⟨by rfl, ?r⟩) hS ?_
          case r => intro W hW; simp [go_sem, execOp, Act.eval]
          simp only [List.getElem_toArray, List.getElem_cons_zero, List.getElem_cons_succ, Act.put, List.setIfInBounds_toArray, List.set_cons_succ, List.set_cons_zero]
          refine wpAnyH_all (rs := [9]) (by kernel_rfl) (by simp) (fun i2 hi2 => ?_)
          obtain rfl : i2 = 9 := by simpa using hi2
          clear hi2
          refine wpOp_step rfl (fun K hK => ite_yes rfl ?_)
          simp only [List.getElem_toArray, List.getElem_cons_zero, List.getElem_cons_succ]
          have hs3 : ∀ q, v3.cell? ⟨w3.heap.size, q, none⟩ = (#[.int .i64 8, .string tv, .int .i64 0, .int .u64 0, .string ⟨#[]⟩, .int .i64 0, .int .i64 0, .int .i64 0, .int .i64 0, .slice none 0 0, (.slice ip ds.length ic)] : Array Value)[q]? := row_at HP3.sb.box
          have hf3 := fun i => fz _ _ _ _ i HP3.sb.box
          have c9 : v3.cell? ⟨w3.heap.size, 10, none⟩ = some (.slice ip ds.length ic) := hs3 10
          have el : (ds ++ [(⟨⟨k, t, n, f, s, r0, r1, r2, r3, pp, path, pc⟩, jp, jc, items⟩ : MD)]).length = ds.length + 1 := by simp
          have HP4 : Hid (PM r kb rp raw rc w (v3.setCell ⟨w3.heap.size, 10, none⟩ (.slice ip2 (ds.length + 1) ic2)) (a2) w3.heap.size #[.int .i64 8, .string tv, .int .i64 0, .int .u64 0, .string ⟨#[]⟩, .int .i64 0, .int .i64 0, .int .i64 0, .int .i64 0, .slice none 0 0, (.slice ip2 (ds ++ [(⟨⟨k, t, n, f, s, r0, r1, r2, r3, pp, path, pc⟩, jp, jc, items⟩ : MD)]).length ic2)] ip2 (ds ++ [(⟨⟨k, t, n, f, s, r0, r1, r2, r3, pp, path, pc⟩, jp, jc, items⟩ : MD)]) ic2) := by
            rw [el]
            exact HP3.set 10 (.slice ip2 (ds.length + 1) ic2)
          go_simp
          refine hK _ _ ⟨trivial, ?_⟩
          clear hK K hs3 hf3 c9 HP3
          refine wpAnyH_done (by kernel_rfl) ?_ _
          refine NoPanic.normal ?_
          try simp only [Act.put]
          have hb4 : w3.heap.size < v3.heap.size := by have := (Array.getElem?_eq_some_iff.1 HP4.out.sb.box).1; simpa using this
          clear HP HP0 HP1 HP2 HK1 HK2 hc hf
          go_wp2_with fail
          exact ⟨⟨m, ds ++ [(⟨⟨k, t, n, f, s, r0, r1, r2, r3, pp, path, pc⟩, jp, jc, items⟩ : MD)], ip2, ic2, a2, by congr 1 <;> omega, by rw [el]; omega, by omega, HP4⟩, by simp [intOf] <;> omega⟩
        · clear hi2
          refine wpOp_step rfl (fun K hK => ite_yes rfl ?_)
          simp only [List.getElem_toArray, List.getElem_cons_zero, List.getElem_cons_succ]
          go_simp
          refine (HI.out A _ (HP0.out.sb.maker HM.out) (by omega)).mono ?_
          rintro e v1 ⟨⟨⟨k, t, n, f, s, r0, r1, r2, r3, pp, path, pc⟩, jp, jc, items⟩, a2, rfl, hin, hful, hsz, hab, ha2, hM1, hv1⟩
          have HP1 : Hid (PM r kb rp raw rc w v1 (a2) w3.heap.size #[.int .i64 8, .string tv, .int .i64 0, .int .u64 0, .string ⟨#[]⟩, .int .i64 0, .int .i64 0, .int .i64 0, .int .i64 0, .slice none 0 0, (.slice ip ds.length ic)] ip ds ic) := HP0.out.next hM1 hv1
          have HK1 : Hid (Kid r w3.heap.size (Value.slice ip ds.length ic).ownBlock v1 ⟨⟨k, t, n, f, s, r0, r1, r2, r3, pp, path, pc⟩, jp, jc, items⟩) := ⟨hin, MD.Above.mono (Array.getElem?_eq_some_iff.1 HP0.out.sb.box).1 _ _ hab, hful, hsz, MD.Above.off (fun g e => (HP0.out.own.lt g e).2) _ _ hab⟩
          simp only [MD.val, D]
          go_simp
          refine hK _ _ ⟨trivial, ?_⟩
          clear hK K hM1 hv1 hin hful hsz hab
          refine wpAnyH_all (rs := [1, 6]) (by kernel_rfl) (by simp) (fun i2 hi2 => ?_)
          obtain rfl | rfl : i2 = 1 ∨ i2 = 6 := by simpa using hi2
          · clear hi2
            refine wpOp_step rfl (fun K hK => ite_yes rfl ?_)
            simp only [List.getElem_toArray, List.getElem_cons_zero, List.getElem_cons_succ]
            have hl : ∀ q, v1.cell? ⟨w3.heap.size, q, none⟩ = (#[.int .i64 8, .string tv, .int .i64 0, .int .u64 0, .string ⟨#[]⟩, .int .i64 0, .int .i64 0, .int .i64 0, .int .i64 0, .slice none 0 0, (.slice ip ds.length ic)] : Array Value)[q]? := row_at HP1.out.sb.box
            go_simp
            refine hK _ _ ⟨trivial, ?_⟩
            clear hK K hl
            refine wpAnyH_all (rs := [6]) (by kernel_rfl) (by simp) (fun i2 hi2 => ?_)
            obtain rfl : i2 = 6 := by simpa using hi2
            clear hi2
            refine wpOp_step rfl (fun K hK => ite_yes rfl ?_)
            simp only [List.getElem_toArray, List.getElem_cons_zero, List.getElem_cons_succ]
            go_simp
            have HP2 : Hid (PM r kb rp raw rc w (v1.alloc (.cells #[.int .i64 k, .string t, .int .i64 n, .int .u64 f, .string s, .int .i64 r0, .int .i64 r1, .int .i64 r2, .int .i64 r3, .slice pp path.length pc, .slice jp items.length jc] 32)) (a2) w3.heap.size #[.int .i64 8, .string tv, .int .i64 0, .int .u64 0, .string ⟨#[]⟩, .int .i64 0, .int .i64 0, .int .i64 0, .int .i64 0, .slice none 0 0, (.slice ip ds.length ic)] ip ds ic) := HP1.out.below (below1 _ _)
            have HK2 : Hid (Kid r w3.heap.size (Value.slice ip ds.length ic).ownBlock (v1.alloc (.cells #[.int .i64 k, .string t, .int .i64 n, .int .u64 f, .string s, .int .i64 r0, .int .i64 r1, .int .i64 r2, .int .i64 r3, .slice pp path.length pc, .slice jp items.length jc] 32)) ⟨⟨k, t, n, f, s, r0, r1, r2, r3, pp, path, pc⟩, jp, jc, items⟩) := HK1.out.later (below1 _ _)
            refine hK _ _ ⟨trivial, ?_⟩
            clear hK K
            refine wpAnyH_all (rs := [7]) (by kernel_rfl) (by simp) (fun i2 hi2 => ?_)
            obtain rfl : i2 = 7 := by simpa using hi2
            clear hi2
            refine wpOp_step rfl (fun K hK => ite_yes rfl ?_)
            simp only [List.getElem_toArray, List.getElem_cons_zero, List.getElem_cons_succ]
            obtain ⟨i28, hi28, hz280, hz281, hz282⟩ := info_parts info28z
            refine wp_append_where _ _ 30 rfl (w3.heap.size + 1) 32 i28 (.agg zeros) 11 136 Tryd.underlying30 hi28 hz280 hz281 hz282 rfl (by decide) (.slice ip ds.length ic) ds.length (rowOf ds) rfl HP2.out.own ⟨v1.heap.size, 0, none⟩ 1 1 (MD.cells ⟨⟨k, t, n, f, s, r0, r1, r2, r3, pp, path, pc⟩, jp, jc, items⟩).toList rfl rfl (fun q u hq => rowc_cell hq) (MD.cells_one _) (by unfold maxLen; omega) (by omega) (by have := (Array.getElem?_eq_some_iff.1 HP2.out.sb.box).1; omega) ?_
            intro vn v3 hown hgr hwh
            obtain ⟨ip2, ic2, rfl, HP3⟩ := PM.grown HP2.out HK2.out hown hgr hwh
            refine hK _ _ ⟨trivial, ?_⟩
            clear hK K hown hgr hwh
            have hS : True := trivial
            refine wpAnyH_take (i := 8) (v := .pointer (some ⟨w3.heap.size, 10, none⟩)) rfl (by kernel_rfl) (by kernel_rfl) (by kernel_rfl) (fun _ _ _ h => h) (Or.inl ⟨by rfl, ?r⟩) hS ?_
            case r => intro W hW; simp [go_sem, execOp, Act.eval]
            simp only [List.getElem_toArray, List.getElem_cons_zero, List.getElem_cons_succ, Act.put, List.setIfInBounds_toArray, List.set_cons_succ, List.set_cons_zero]
            refine wpAnyH_all (rs := [9]) (by kernel_rfl) (by simp) (fun i2 hi2 => ?_)
            obtain rfl : i2 = 9 := by simpa using hi2
            clear hi2
            refine wpOp_step rfl (fun K hK => ite_yes rfl ?_)
            simp only [List.getElem_toArray, List.getElem_cons_zero, List.getElem_cons_succ]
            have hs3 : ∀ q, v3.cell? ⟨w3.heap.size, q, none⟩ = (#[.int .i64 8, .string tv, .int .i64 0, .int .u64 0, .string ⟨#[]⟩, .int .i64 0, .int .i64 0, .int .i64 0, .int .i64 0, .slice none 0 0, (.slice ip ds.length ic)] : Array Value)[q]? := row_at HP3.sb.box
            have hf3 := fun i => fz _ _ _ _ i HP3.sb.box
            have c9 : v3.cell? ⟨w3.heap.size, 10, none⟩ = some (.slice ip ds.length ic) := hs3 10
            have el : (ds ++ [(⟨⟨k, t, n, f, s, r0, r1, r2, r3, pp, path, pc⟩, jp, jc, items⟩ : MD)]).length = ds.length + 1 := by simp
            have HP4 : Hid (PM r kb rp raw rc w (v3.setCell ⟨w3.heap.size, 10, none⟩ (.slice ip2 (ds.length + 1) ic2)) (a2) w3.heap.size #[.int .i64 8, .string tv, .int .i64 0, .int .u64 0, .string ⟨#[]⟩, .int .i64 0, .int .i64 0, .int .i64 0, .int .i64 0, .slice none 0 0, (.slice ip2 (ds ++ [(⟨⟨k, t, n, f, s, r0, r1, r2, r3, pp, path, pc⟩, jp, jc, items⟩ : MD)]).length ic2)] ip2 (ds ++ [(⟨⟨k, t, n, f, s, r0, r1, r2, r3, pp, path, pc⟩, jp, jc, items⟩ : MD)]) ic2) := by
              rw [el]
              exact HP3.set 10 (.slice ip2 (ds.length + 1) ic2)
            go_simp
            refine hK _ _ ⟨trivial, ?_⟩
            clear hK K hs3 hf3 c9 HP3
            refine wpAnyH_done (by kernel_rfl) ?_ _
            refine NoPanic.normal ?_
            try simp only [Act.put]
            have hb4 : w3.heap.size < v3.heap.size := by have := (Array.getElem?_eq_some_iff.1 HP4.out.sb.box).1; simpa using this
            clear HP HP0 HP1 HP2 HK1 HK2 hc hf
            go_wp2_with fail
            exact ⟨⟨m, ds ++ [(⟨⟨k, t, n, f, s, r0, r1, r2, r3, pp, path, pc⟩, jp, jc, items⟩ : MD)], ip2, ic2, a2, by congr 1 <;> omega, by rw [el]; omega, by omega, HP4⟩, by simp [intOf] <;> omega⟩
          · clear hi2
            refine wpOp_step rfl (fun K hK => ite_yes rfl ?_)
            simp only [List.getElem_toArray, List.getElem_cons_zero, List.getElem_cons_succ]
            go_simp
            have HP2 : Hid (PM r kb rp raw rc w (v1.alloc (.cells #[.int .i64 k, .string t, .int .i64 n, .int .u64 f, .string s, .int .i64 r0, .int .i64 r1, .int .i64 r2, .int .i64 r3, .slice pp path.length pc, .slice jp items.length jc] 32)) (a2) w3.heap.size #[.int .i64 8, .string tv, .int .i64 0, .int .u64 0, .string ⟨#[]⟩, .int .i64 0, .int .i64 0, .int .i64 0, .int .i64 0, .slice none 0 0, (.slice ip ds.length ic)] ip ds ic) := HP1.out.below (below1 _ _)
            have HK2 : Hid (Kid r w3.heap.size (Value.slice ip ds.length ic).ownBlock (v1.alloc (.cells #[.int .i64 k, .string t, .int .i64 n, .int .u64 f, .string s, .int .i64 r0, .int .i64 r1, .int .i64 r2, .int .i64 r3, .slice pp path.length pc, .slice jp items.length jc] 32)) ⟨⟨k, t, n, f, s, r0, r1, r2, r3, pp, path, pc⟩, jp, jc, items⟩) := HK1.out.later (below1 _ _)
            refine hK _ _ ⟨trivial, ?_⟩
            clear hK K
            refine wpAnyH_all (rs := [1]) (by kernel_rfl) (by simp) (fun i2 hi2 => ?_)
            obtain rfl : i2 = 1 := by simpa using hi2
            clear hi2
            refine wpOp_step rfl (fun K hK => ite_yes rfl ?_)
            simp only [List.getElem_toArray, List.getElem_cons_zero, List.getElem_cons_succ]
            have hl : ∀ q, (v1.alloc (.cells #[.int .i64 k, .string t, .int .i64 n, .int .u64 f, .string s, .int .i64 r0, .int .i64 r1, .int .i64 r2, .int .i64 r3, .slice pp path.length pc, .slice jp items.length jc] 32)).cell? ⟨w3.heap.size, q, none⟩ = (#[.int .i64 8, .string tv, .int .i64 0, .int .u64 0, .string ⟨#[]⟩, .int .i64 0, .int .i64 0, .int .i64 0, .int .i64 0, .slice none 0 0, (.slice ip ds.length ic)] : Array Value)[q]? := row_at HP2.out.sb.box
            go_simp
            refine hK _ _ ⟨trivial, ?_⟩
            clear hK K hl
            refine wpAnyH_all (rs := [7]) (by kernel_rfl) (by simp) (fun i2 hi2 => ?_)
            obtain rfl : i2 = 7 := by simpa using hi2
            clear hi2
            refine wpOp_step rfl (fun K hK => ite_yes rfl ?_)
            simp only [List.getElem_toArray, List.getElem_cons_zero, List.getElem_cons_succ]
            obtain ⟨i28, hi28, hz280, hz281, hz282⟩ := info_parts info28z
            refine wp_append_where _ _ 30 rfl (w3.heap.size + 1) 32 i28 (.agg zeros) 11 136 Tryd.underlying30 hi28 hz280 hz281 hz282 rfl (by decide) (.slice ip ds.length ic) ds.length (rowOf ds) rfl HP2.out.own ⟨v1.heap.size, 0, none⟩ 1 1 (MD.cells ⟨⟨k, t, n, f, s, r0, r1, r2, r3, pp, path, pc⟩, jp, jc, items⟩).toList rfl rfl (fun q u hq => rowc_cell hq) (MD.cells_one _) (by unfold maxLen; omega) (by omega) (by have := (Array.getElem?_eq_some_iff.1 HP2.out.sb.box).1; omega) ?_
            intro vn v3 hown hgr hwh
            obtain ⟨ip2, ic2, rfl, HP3⟩ := PM.grown HP2.out HK2.out hown hgr hwh
            refine hK _ _ ⟨trivial, ?_⟩
            clear hK K hown hgr hwh
            have hS : True := trivial
            refine wpAnyH_take (i := 8) (v := .pointer (some ⟨w3.heap.size, 10, none⟩)) rfl (by kernel_rfl) (by kernel_rfl) (by kernel_rfl) (fun _ _ _ h => h) (Or.inl ⟨by rfl, ?r⟩) hS ?_
            case r => intro W hW; simp [go_sem, execOp, Act.eval]
            simp only [List.getElem_toArray, List.getElem_cons_zero, List.getElem_cons_succ, Act.put, List.setIfInBounds_toArray, List.set_cons_succ, List.set_cons_zero]
            refine wpAnyH_all (rs := [9]) (by kernel_rfl) (by simp) (fun i2 hi2 => ?_)
            obtain rfl : i2 = 9 := by simpa using hi2
            clear hi2
            refine wpOp_step rfl (fun K hK => ite_yes rfl ?_)
            simp only [List.getElem_toArray, List.getElem_cons_zero, List.getElem_cons_succ]
            have hs3 : ∀ q, v3.cell? ⟨w3.heap.size, q, none⟩ = (#[.int .i64 8, .string tv, .int .i64 0, .int .u64 0, .string ⟨#[]⟩, .int .i64 0, .int .i64 0, .int .i64 0, .int .i64 0, .slice none 0 0, (.slice ip ds.length ic)] : Array Value)[q]? := row_at HP3.sb.box
            have hf3 := fun i => fz _ _ _ _ i HP3.sb.box
            have c9 : v3.cell? ⟨w3.heap.size, 10, none⟩ = some (.slice ip ds.length ic) := hs3 10
            have el : (ds ++ [(⟨⟨k, t, n, f, s, r0, r1, r2, r3, pp, path, pc⟩, jp, jc, items⟩ : MD)]).length = ds.length + 1 := by simp
            have HP4 : Hid (PM r kb rp raw rc w (v3.setCell ⟨w3.heap.size, 10, none⟩ (.slice ip2 (ds.length + 1) ic2)) (a2) w3.heap.size #[.int .i64 8, .string tv, .int .i64 0, .int .u64 0, .string ⟨#[]⟩, .int .i64 0, .int .i64 0, .int .i64 0, .int .i64 0, .slice none 0 0, (.slice ip2 (ds ++ [(⟨⟨k, t, n, f, s, r0, r1, r2, r3, pp, path, pc⟩, jp, jc, items⟩ : MD)]).length ic2)] ip2 (ds ++ [(⟨⟨k, t, n, f, s, r0, r1, r2, r3, pp, path, pc⟩, jp, jc, items⟩ : MD)]) ic2) := by
              rw [el]
              exact HP3.set 10 (.slice ip2 (ds.length + 1) ic2)
            go_simp
            refine hK _ _ ⟨trivial, ?_⟩
            clear hK K hs3 hf3 c9 HP3
            refine wpAnyH_done (by kernel_rfl) ?_ _
            refine NoPanic.normal ?_
            try simp only [Act.put]
            have hb4 : w3.heap.size < v3.heap.size := by have := (Array.getElem?_eq_some_iff.1 HP4.out.sb.box).1; simpa using this
            clear HP HP0 HP1 HP2 HK1 HK2 hc hf
            go_wp2_with fail
            exact ⟨⟨m, ds ++ [(⟨⟨k, t, n, f, s, r0, r1, r2, r3, pp, path, pc⟩, jp, jc, items⟩ : MD)], ip2, ic2, a2, by congr 1 <;> omega, by rw [el]; omega, by omega, HP4⟩, by simp [intOf] <;> omega⟩
theorem made_any (kb : Nat) (rp : Option Addr) (raw : List Int) (rc : Nat) : ∀ (r : Nat), r ≤ 3 → ∀ (at_ : Nat) (w : World), MakerAt w kb rp raw rc at_ → at_ + bd r ≤ 90000 → Calls Tryd.prog 7 #[.pointer (some ⟨kb, 0, none⟩), .int .i64 (3 - (r : Int))] w (MadeP r kb rp raw rc at_ w)
  | 0, _, at_, w, hM, ha => made_0 kb rp raw rc at_ w hM ha
  | r + 1, hr, at_, w, hM, ha => by
    refine made_step r kb rp raw rc (3 - ((r + 1 : Nat) : Int)) (by omega) (by omega) (fun a W hW h => ?_) at_ w hM ha
    have e : 3 - ((r + 1 : Nat) : Int) + 1 = 3 - (r : Int) := by omega
    rw [e]
    exact made_any kb rp raw rc r (by omega) a W hW h
end Go.Proofs.YtnhbpcmiolkllabDoor
