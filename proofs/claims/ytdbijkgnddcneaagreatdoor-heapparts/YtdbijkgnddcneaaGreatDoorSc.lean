/-
  .
-/
import Derived.Test.YtdbijkgnddcneaaGreatDoorSq
import Derived.Test.YtdbijkgnddcneaaGreatDoorEeJ
import Derived.Deep.RegionWith
import Derived.BigRegion
namespace Go.Proofs.YtdbijkgnddcneaaGreatDoor
open Go.RowKit
set_option maxRecDepth 100000
set_option maxHeartbeats 8000000
attribute [local go_sem] refold2 cell3_0 cell3_1 b28_0 b28_01
def RefSameC (n : Nat) : Prop := ∀ (a b : MD) (w : World), MD.In w.heap.size w n a → MD.In w.heap.size w n b → Calls Tryz.prog 19 #[a.val, b.val] w fun r w' => r = .returned (.bool (MD.same n a b)) ∧ Below w.heap.size w w'
theorem refSame_no (x y : MD) (w : World) (hne : sameH x.h y.h x.items.length y.items.length = false) (lx : x.items.length ≤ x.ic) (ly : y.items.length ≤ y.ic) :
    Calls Tryz.prog 19 #[x.val, y.val] w fun r w' => r = .returned (.bool false) ∧ Below w.heap.size w w' := by
  obtain ⟨⟨k, t, a, f, s, r0, r1, r2, r3, pp, path, pc⟩, ip, ic, items⟩ := x
  obtain ⟨⟨k', t', a', f', s', r0', r1', r2', r3', pp', path', pc'⟩, ip', ic', items'⟩ := y
  have HN : Hid (¬ (k = k' ∧ t.toList = t'.toList ∧ a = a' ∧ f = f' ∧ s.toList = s'.toList ∧ r0 = r0' ∧ r1 = r1' ∧ r2 = r2' ∧ r3 = r3' ∧ (path.length : Int) = path'.length ∧ (items.length : Int) = items'.length)) := fun h => by
    have h2 : ¬ _ := of_decide_eq_false hne
    obtain ⟨h1, h2', h3, h4, h5, h6, h7, h8, h9, h10, h11⟩ := h
    exact h2 ⟨h1, byteArray_ext h2', h3, h4, byteArray_ext h5, h6, h7, h8, h9, by exact_mod_cast h10, by exact_mod_cast h11⟩
  clear hne
  simp only [MD.val, D]
  go_enter Tryz.func19, Tryz.ntmps19
  go_wp2_with fail
  all_goals first
    | (go_ret; exact ⟨rfl, below2 _ _ _⟩)
    | (exfalso; refine HN.out ⟨?_, ?_, ?_, ?_, ?_, ?_, ?_, ?_, ?_, ?_, ?_⟩ <;> first | assumption | (simp_all; done) | omega)
theorem refSame_step (n : Nat) (hI : RefSameC n) : RefSameC (n + 1) := by
  intro x y w hx hy
  by_cases hh : sameH x.h y.h x.items.length y.items.length = true
  · have hxi := hx.items
    have hyi := hy.items
    have hxp := hx.path
    have hyp := hy.path
    have hxl := hx.len
    have hxf := hx.fine
    obtain ⟨⟨k, t, a, f, s, r0, r1, r2, r3, pp, path, pc⟩, ip, ic, items⟩ := x
    obtain ⟨⟨k', t', a', f', s', r0', r1', r2', r3', pp', path', pc'⟩, ip', ic', items'⟩ := y
    have hh2 := of_decide_eq_true hh
    simp only at hh2
    obtain ⟨rfl, rfl, rfl, rfl, rfl, rfl, rfl, rfl, rfl, hpl, hil⟩ := hh2
    obtain ⟨fin, hfin⟩ : ∃ fin, fin = MD.same (n + 1) ⟨⟨k, t, a, f, s, r0, r1, r2, r3, pp, path, pc⟩, ip, ic, items⟩ ⟨⟨k, t, a, f, s, r0, r1, r2, r3, pp', path', pc'⟩, ip', ic', items'⟩ := ⟨_, rfl⟩
    rw [← hfin]
    have HF : Hid (fin = (decide (path = path') && all2 (MD.same n) items items')) := by
      show _ = _
      rw [hfin]
      show (sameH _ _ _ _ && _ && _) = _
      rw [hh, Bool.true_and]
    have HL : Hid (path.length = path'.length ∧ items.length = items'.length) := ⟨hpl, hil⟩
    have HI : Hid (RefSameC n) := hI
    have HXI : Hid (MD.ItemsIn w.heap.size w n ⟨⟨k, t, a, f, s, r0, r1, r2, r3, pp, path, pc⟩, ip, ic, items⟩) := hxi
    have HYI : Hid (MD.ItemsIn w.heap.size w n ⟨⟨k, t, a, f, s, r0, r1, r2, r3, pp', path', pc'⟩, ip', ic', items'⟩) := hyi
    have HXP : Hid (MD.PathIn w.heap.size w ⟨k, t, a, f, s, r0, r1, r2, r3, pp, path, pc⟩) := hxp
    have HYP : Hid (MD.PathIn w.heap.size w ⟨k, t, a, f, s, r0, r1, r2, r3, pp', path', pc'⟩) := hyp
    have hl1 : items.length ≤ 9223372036854775807 := by have := hxl.1; have := hxl.2; unfold maxLen at *; simp at *; omega
    have hl2 : path.length ≤ 9223372036854775807 := by have := hxf.pl; have := hxf.pm; unfold maxLen at *; simp at *; omega
    simp only [MD.val, D]
    rw [← hpl, ← hil]
    clear hh hfin hI hxi hyi hxp hyp hxl hxf hx hy hpl hil
    obtain ⟨W2, hW2⟩ : ∃ W2, W2 = (w.alloc (.cells #[.int .i64 k, .string t, .int .i64 a, .int .u64 f, .string s, .int .i64 r0, .int .i64 r1, .int .i64 r2, .int .i64 r3, .slice pp path.length pc, .slice ip items.length ic] 32)).alloc (.cells #[.int .i64 k, .string t, .int .i64 a, .int .u64 f, .string s, .int .i64 r0, .int .i64 r1, .int .i64 r2, .int .i64 r3, .slice pp' path.length pc', .slice ip' items.length ic'] 32) := ⟨_, rfl⟩
    have HK : Hid (∀ W, Below W2.heap.size W2 W → Below w.heap.size w W ∧ (∀ j, W.cell? ⟨w.heap.size, j, none⟩ = (#[.int .i64 k, .string t, .int .i64 a, .int .u64 f, .string s, .int .i64 r0, .int .i64 r1, .int .i64 r2, .int .i64 r3, .slice pp path.length pc, .slice ip items.length ic] : Array Value)[j]?) ∧ ∀ j, W.cell? ⟨w.heap.size + 1, j, none⟩ = (#[.int .i64 k, .string t, .int .i64 a, .int .u64 f, .string s, .int .i64 r0, .int .i64 r1, .int .i64 r2, .int .i64 r3, .slice pp' path.length pc', .slice ip' items.length ic'] : Array Value)[j]?) := fun W hW => by rw [hW2] at hW; exact kept2 hW
    have hz2 : W2.heap.size = w.heap.size + 2 := by rw [hW2]; simp
    go_enter Tryz.func19, Tryz.ntmps19
    go_wp2_with fail
    rw [← hW2]
    clear hW2
    go_loopw [5] (fun i wr => PathRel path path' W2 i wr) (fun i _ => path.length - (intOf i).toNat)
    case atStart => exact ⟨0, Nat.zero_le _, rfl, rfl, Below.refl _ _⟩
    case round =>
      obtain ⟨j, hj, rfl, hta', hb'⟩ := hrel
      have HT : Hid (path.take j = path'.take j ∧ Below W2.heap.size W2 wr) := ⟨hta', hb'⟩
      have hz := hb'.size
      have hcA := (HK.out _ hb').2.1
      have hcB := (HK.out _ hb').2.2
      clear hta' hb'
      by_cases hlt : j < path.length
      · have i1 : (j : Int) < path.length := by omega
        have hlt' : j < path'.length := HL.out.1 ▸ hlt
        obtain ⟨b, o, rfl, hbw, hc⟩ : ∃ b o, pp = some ⟨b, o, none⟩ ∧ b < w.heap.size ∧ wr.cell? ⟨b, o + j, none⟩ = some (.int .i64 path[j]) := by
          rcases HXP.out.2 with e | ⟨b, o, e1, e2, e3⟩
          · have e' : path = [] := e
            rw [e'] at hlt; simp at hlt
          · exact ⟨b, o, e1, e2, ((HK.out _ HT.out.2).1.cell (p := ⟨b, o + j, none⟩) e2).trans (e3 j hlt)⟩
        obtain ⟨b', o', rfl, hbw', hc'⟩ : ∃ b o, pp' = some ⟨b, o, none⟩ ∧ b < w.heap.size ∧ wr.cell? ⟨b, o + j, none⟩ = some (.int .i64 path'[j]) := by
          rcases HYP.out.2 with e | ⟨b, o, e1, e2, e3⟩
          · have e' : path' = [] := e
            rw [e'] at hlt'; simp at hlt'
          · exact ⟨b, o, e1, e2, ((HK.out _ HT.out.2).1.cell (p := ⟨b, o + j, none⟩) e2).trans (e3 j hlt')⟩
        have HS : Hid (path[j] = path'[j] → path.take (j + 1) = path'.take (j + 1)) := fun h => by
          rw [List.take_succ_eq_append_getElem hlt, List.take_succ_eq_append_getElem hlt', HT.out.1, h]
        have HN : Hid (path[j] ≠ path'[j] → path ≠ path') := fun h e => h (by simp [e])
        generalize path[j] = x at hc HS HN
        generalize path'[j] = y at hc' HS HN
        have hbz : b < wr.heap.size := by omega
        have hbz' : b' < wr.heap.size := by omega
        have hbz2 : w.heap.size < wr.heap.size := by omega
        have hbz3 : w.heap.size + 1 < wr.heap.size := by omega
        have HW : Hid (Below W2.heap.size W2 wr.drew) := HT.out.2.drew
        have hcA9 : wr.cell? ⟨w.heap.size, 9, none⟩ = some (.slice (some ⟨b, o, none⟩) path.length pc) := hcA 9
        have hcB9 : wr.cell? ⟨w.heap.size + 1, 9, none⟩ = some (.slice (some ⟨b', o', none⟩) path.length pc') := hcB 9
        by_cases hxy : x = y
        · subst hxy
          have HS2 : Hid (path.take (j + 1) = path'.take (j + 1)) := HS.out rfl
          clear HS HN
          go_wp2_with fail
          go_region
          all_goals go_wp2_with fail
          all_goals exact ⟨⟨j + 1, hlt, by go_num, HS2.out, HW.out⟩, by simp [intOf]; omega⟩
        · go_wp2_with fail
          go_region
          all_goals go_wp2_with fail
          all_goals (go_ret; exact ⟨by rw [HF.out, decide_eq_false (HN.out hxy)]; rfl, (HK.out _ HW.out).1⟩)
      · have i1 : ¬ (j : Int) < path.length := by omega
        have HX : Hid (path = path' ∧ Below W2.heap.size W2 wr) := by
          have h := HT.out.1
          rw [List.take_of_length_le (by omega), List.take_of_length_le (by have := HL.out.1; omega)] at h
          exact ⟨h, HT.out.2⟩
        clear HT hlt
        go_wp2_with fail
        go_loopw [6, 7] (fun i _ wr => SameRel n items items' W2 i wr) (fun i _ _ => items.length - (intOf i).toNat)
        case atStart => exact ⟨0, Nat.zero_le _, rfl, rfl, HX.out.2⟩
        case round =>
          obtain ⟨j, hj, rfl, hta', hb'⟩ := hrel
          have HT : Hid (all2 (MD.same n) (items.take j) (items'.take j) = true ∧ Below W2.heap.size W2 wr) := ⟨hta', hb'⟩
          have hz := hb'.size
          have hcA := (HK.out _ hb').2.1
          have hcB := (HK.out _ hb').2.2
          clear hta' hb'
          by_cases hlt : j < items.length
          · have i1 : (j : Int) < items.length := by omega
            have hlt' : j < items'.length := HL.out.2 ▸ hlt
            obtain ⟨bb, o, rfl, hbB, hC, hIn⟩ : ∃ bb o, ip = some ⟨bb, o, none⟩ ∧ bb < w.heap.size ∧ MD.CellsAt wr bb (o + j * 11) items[j] ∧ MD.In w.heap.size wr n items[j] := by
              rcases MD.ItemsIn.below HXI.out (HK.out _ HT.out.2).1 with e | ⟨bb, o, e1, e2, e3⟩
              · have e' : items = [] := e
                rw [e'] at hlt; simp at hlt
              · exact ⟨bb, o, e1, e2, e3 j hlt⟩
            obtain ⟨bc, p, rfl, hbB', hC', hIn'⟩ : ∃ bb o, ip' = some ⟨bb, o, none⟩ ∧ bb < w.heap.size ∧ MD.CellsAt wr bb (o + j * 11) items'[j] ∧ MD.In w.heap.size wr n items'[j] := by
              rcases MD.ItemsIn.below HYI.out (HK.out _ HT.out.2).1 with e | ⟨bb, o, e1, e2, e3⟩
              · have e' : items' = [] := e
                rw [e'] at hlt'; simp at hlt'
              · exact ⟨bb, o, e1, e2, e3 j hlt'⟩
            have HS : Hid (all2 (MD.same n) (items.take (j + 1)) (items'.take (j + 1)) = MD.same n items[j] items'[j]) := by
              show _ = _
              rw [all2_snoc _ _ _ _ hlt hlt', HT.out.1, Bool.true_and]
            generalize items[j] = kid at hC hIn HS
            generalize items'[j] = lid at hC' hIn' HS
            obtain ⟨⟨k0, k1, k2, k3, k4, k5, k6, k7, k8, kp, kpath, kpc⟩, kip, kic, kit⟩ := kid
            obtain ⟨⟨l0, l1, l2, l3, l4, l5, l6, l7, l8, lp, lpath, lpc⟩, lip, lic, lit⟩ := lid
            have HC : Hid (∀ W, Below wr.heap.size wr W → Calls Tryz.prog 19 #[.agg #[.int .i64 k0, .string k1, .int .i64 k2, .int .u64 k3, .string k4, .int .i64 k5, .int .i64 k6, .int .i64 k7, .int .i64 k8, .slice kp kpath.length kpc, .slice kip kit.length kic], .agg #[.int .i64 l0, .string l1, .int .i64 l2, .int .u64 l3, .string l4, .int .i64 l5, .int .i64 l6, .int .i64 l7, .int .i64 l8, .slice lp lpath.length lpc, .slice lip lit.length lic]] W fun r w' => r = .returned (.bool (MD.same n ⟨⟨k0, k1, k2, k3, k4, k5, k6, k7, k8, kp, kpath, kpc⟩, kip, kic, kit⟩ ⟨⟨l0, l1, l2, l3, l4, l5, l6, l7, l8, lp, lpath, lpc⟩, lip, lic, lit⟩)) ∧ Below wr.heap.size wr w') := fun W hW =>
              (HI.out ⟨⟨k0, k1, k2, k3, k4, k5, k6, k7, k8, kp, kpath, kpc⟩, kip, kic, kit⟩ ⟨⟨l0, l1, l2, l3, l4, l5, l6, l7, l8, lp, lpath, lpc⟩, lip, lic, lit⟩ W (hIn.later (by omega) hW) (hIn'.later (by omega) hW)).mono fun _ _ h => ⟨h.1, hW.trans (h.2.mono hW.size)⟩
            have HK2 : Hid (∀ W, Below wr.heap.size wr W → (∀ i, W.cell? ⟨w.heap.size, i, none⟩ = (#[.int .i64 k, .string t, .int .i64 a, .int .u64 f, .string s, .int .i64 r0, .int .i64 r1, .int .i64 r2, .int .i64 r3, .slice pp path.length pc, .slice (some ⟨bb, o, none⟩) items.length ic] : Array Value)[i]?) ∧ (∀ i, W.cell? ⟨w.heap.size + 1, i, none⟩ = (#[.int .i64 k, .string t, .int .i64 a, .int .u64 f, .string s, .int .i64 r0, .int .i64 r1, .int .i64 r2, .int .i64 r3, .slice pp' path.length pc', .slice (some ⟨bc, p, none⟩) items.length ic'] : Array Value)[i]?) ∧ (∀ i, i < 11 → W.cell? ⟨bb, o + j * 11 + i, none⟩ = (#[.int .i64 k0, .string k1, .int .i64 k2, .int .u64 k3, .string k4, .int .i64 k5, .int .i64 k6, .int .i64 k7, .int .i64 k8, .slice kp kpath.length kpc, .slice kip kit.length kic] : Array Value)[i]?) ∧ (∀ i, i < 11 → W.cell? ⟨bc, p + j * 11 + i, none⟩ = (#[.int .i64 l0, .string l1, .int .i64 l2, .int .u64 l3, .string l4, .int .i64 l5, .int .i64 l6, .int .i64 l7, .int .i64 l8, .slice lp lpath.length lpc, .slice lip lit.length lic] : Array Value)[i]?)) := fun W hW =>
              ⟨fun i => (hW.cell (p := ⟨w.heap.size, i, none⟩) (by show w.heap.size < _; omega)).trans (hcA i), fun i => (hW.cell (p := ⟨w.heap.size + 1, i, none⟩) (by show w.heap.size + 1 < _; omega)).trans (hcB i),
               fun i hi => (hW.cell (p := ⟨bb, o + j * 11 + i, none⟩) (by show bb < _; omega)).trans (hC i hi), fun i hi => (hW.cell (p := ⟨bc, p + j * 11 + i, none⟩) (by show bc < _; omega)).trans (hC' i hi)⟩
            clear hC hC' hIn hIn' HI
            generalize MD.same n ⟨⟨k0, k1, k2, k3, k4, k5, k6, k7, k8, kp, kpath, kpc⟩, kip, kic, kit⟩ ⟨⟨l0, l1, l2, l3, l4, l5, l6, l7, l8, lp, lpath, lpc⟩, lip, lic, lit⟩ = fk at HC HS
            go_wp2_with fail
            refine wp_region_noPanic ?_
            refine wp_region_held (S := fun W => (∀ i, W.cell? ⟨w.heap.size, i, none⟩ = (#[.int .i64 k, .string t, .int .i64 a, .int .u64 f, .string s, .int .i64 r0, .int .i64 r1, .int .i64 r2, .int .i64 r3, .slice pp path.length pc, .slice (some ⟨bb, o, none⟩) items.length ic] : Array Value)[i]?) ∧ (∀ i, W.cell? ⟨w.heap.size + 1, i, none⟩ = (#[.int .i64 k, .string t, .int .i64 a, .int .u64 f, .string s, .int .i64 r0, .int .i64 r1, .int .i64 r2, .int .i64 r3, .slice pp' path.length pc', .slice (some ⟨bc, p, none⟩) items.length ic'] : Array Value)[i]?) ∧ (∀ i, i < 11 → W.cell? ⟨bb, o + j * 11 + i, none⟩ = (#[.int .i64 k0, .string k1, .int .i64 k2, .int .u64 k3, .string k4, .int .i64 k5, .int .i64 k6, .int .i64 k7, .int .i64 k8, .slice kp kpath.length kpc, .slice kip kit.length kic] : Array Value)[i]?) ∧ (∀ i, i < 11 → W.cell? ⟨bc, p + j * 11 + i, none⟩ = (#[.int .i64 l0, .string l1, .int .i64 l2, .int .u64 l3, .string l4, .int .i64 l5, .int .i64 l6, .int .i64 l7, .int .i64 l8, .slice lp lpath.length lpc, .slice lip lit.length lic] : Array Value)[i]?)) (by kernel_rfl) ?_
            obtain ⟨W4, hW4⟩ : ∃ W4, W4 = wr.drew := ⟨_, rfl⟩
            have e4 : ({ wr with drawn := wr.drawn + 1 } : World) = W4 := hW4.symm
            rw [e4]
            have hB4 : Below wr.heap.size wr W4 := by rw [hW4]; exact (Below.refl _ _).drew
            have hS := HK2.out W4 hB4
            clear e4 hW4
            refine tq 0 (.pointer (some ⟨w.heap.size, 10, none⟩)) rfl hS ?_
            simp only [sa, sb, Act.put, sd, se, sf]
            refine tk 1 (.slice (some ⟨bb, o, none⟩) items.length ic) rfl (.inl ⟨by rfl, ?r⟩) hS ?_
            case r => intro W hW; simp [go_sem, execOp, Act.eval, hW.1]
            simp only [sa, sb, sc, Act.put, sd, se, sf]
            refine tq 2 (.int .i64 j) rfl hS ?_
            simp only [sa, sb, sc, Act.put, sd, se, sf]
            refine tk 3 (.pointer (some ⟨bb, o + j * 11, none⟩)) rfl (.inl ⟨by rfl, ?r⟩) hS ?_
            case r => intro W hW; simp [go_sem, execOp, Act.eval, i1]
            simp only [sa, sb, sc, Act.put, sd, se, sf]
            refine tk 4 (.agg #[.int .i64 k0, .string k1, .int .i64 k2, .int .u64 k3, .string k4, .int .i64 k5, .int .i64 k6, .int .i64 k7, .int .i64 k8, .slice kp kpath.length kpc, .slice kip kit.length kic]) rfl (.inl ⟨by rfl, ?r⟩) hS ?_
            case r => intro W hW; have e0 : W.cell? ⟨bb, o + j * 11, none⟩ = some (.int .i64 k0) := hW.2.2.1 0 (by omega); have e1 : W.cell? ⟨bb, o + j * 11 + 1, none⟩ = some (.string k1) := hW.2.2.1 1 (by omega); have e2 : W.cell? ⟨bb, o + j * 11 + 2, none⟩ = some (.int .i64 k2) := hW.2.2.1 2 (by omega); have e3 : W.cell? ⟨bb, o + j * 11 + 3, none⟩ = some (.int .u64 k3) := hW.2.2.1 3 (by omega); have e4 : W.cell? ⟨bb, o + j * 11 + 4, none⟩ = some (.string k4) := hW.2.2.1 4 (by omega); have e5 : W.cell? ⟨bb, o + j * 11 + 5, none⟩ = some (.int .i64 k5) := hW.2.2.1 5 (by omega); have e6 : W.cell? ⟨bb, o + j * 11 + 6, none⟩ = some (.int .i64 k6) := hW.2.2.1 6 (by omega); have e7 : W.cell? ⟨bb, o + j * 11 + 7, none⟩ = some (.int .i64 k7) := hW.2.2.1 7 (by omega); have e8 : W.cell? ⟨bb, o + j * 11 + 8, none⟩ = some (.int .i64 k8) := hW.2.2.1 8 (by omega); have e9 : W.cell? ⟨bb, o + j * 11 + 9, none⟩ = some (.slice kp kpath.length kpc) := hW.2.2.1 9 (by omega); have e10 : W.cell? ⟨bb, o + j * 11 + 10, none⟩ = some (.slice kip kit.length kic) := hW.2.2.1 10 (by omega); simp [go_sem, execOp, Act.eval, e0, e1, e2, e3, e4, e5, e6, e7, e8, e9, e10]
            simp only [sa, sb, sc, Act.put, sd, se, sf]
            refine tq 5 (.pointer (some ⟨w.heap.size + 1, 10, none⟩)) rfl hS ?_
            simp only [sa, sb, sc, Act.put, sd, se, sf]
            refine tk 6 (.slice (some ⟨bc, p, none⟩) items.length ic') rfl (.inl ⟨by rfl, ?r⟩) hS ?_
            case r => intro W hW; simp [go_sem, execOp, Act.eval, hW.2.1]
            simp only [sa, sb, sc, Act.put, sd, se, sf]
            refine tq 7 (.int .i64 j) rfl hS ?_
            simp only [sa, sb, sc, Act.put, sd, se, sf]
            refine tk 8 (.pointer (some ⟨bc, p + j * 11, none⟩)) rfl (.inl ⟨by rfl, ?r⟩) hS ?_
            case r => intro W hW; simp [go_sem, execOp, Act.eval, i1]
            simp only [sa, sb, sc, Act.put, sd, se, sf]
            refine tk 9 (.agg #[.int .i64 l0, .string l1, .int .i64 l2, .int .u64 l3, .string l4, .int .i64 l5, .int .i64 l6, .int .i64 l7, .int .i64 l8, .slice lp lpath.length lpc, .slice lip lit.length lic]) rfl (.inl ⟨by rfl, ?r⟩) hS ?_
            case r => intro W hW; have e0 : W.cell? ⟨bc, p + j * 11, none⟩ = some (.int .i64 l0) := hW.2.2.2 0 (by omega); have e1 : W.cell? ⟨bc, p + j * 11 + 1, none⟩ = some (.string l1) := hW.2.2.2 1 (by omega); have e2 : W.cell? ⟨bc, p + j * 11 + 2, none⟩ = some (.int .i64 l2) := hW.2.2.2 2 (by omega); have e3 : W.cell? ⟨bc, p + j * 11 + 3, none⟩ = some (.int .u64 l3) := hW.2.2.2 3 (by omega); have e4 : W.cell? ⟨bc, p + j * 11 + 4, none⟩ = some (.string l4) := hW.2.2.2 4 (by omega); have e5 : W.cell? ⟨bc, p + j * 11 + 5, none⟩ = some (.int .i64 l5) := hW.2.2.2 5 (by omega); have e6 : W.cell? ⟨bc, p + j * 11 + 6, none⟩ = some (.int .i64 l6) := hW.2.2.2 6 (by omega); have e7 : W.cell? ⟨bc, p + j * 11 + 7, none⟩ = some (.int .i64 l7) := hW.2.2.2 7 (by omega); have e8 : W.cell? ⟨bc, p + j * 11 + 8, none⟩ = some (.int .i64 l8) := hW.2.2.2 8 (by omega); have e9 : W.cell? ⟨bc, p + j * 11 + 9, none⟩ = some (.slice lp lpath.length lpc) := hW.2.2.2 9 (by omega); have e10 : W.cell? ⟨bc, p + j * 11 + 10, none⟩ = some (.slice lip lit.length lic) := hW.2.2.2 10 (by omega); simp [go_sem, execOp, Act.eval, e0, e1, e2, e3, e4, e5, e6, e7, e8, e9, e10]
            simp only [sa, sb, sc, Act.put, sd, se, sf]
            refine one 10 rfl (fun K hK => ?_)
            simp only [sa, sb, sc]
            go_simp
            refine (HC.out _ hB4).mono ?_
            rintro e w9 ⟨rfl, b9⟩
            go_simp
            refine hK _ _ ⟨HK2.out _ b9, ?_⟩
            clear hK K hS
            have hS := HK2.out _ b9
            refine tq 11 (.bool fk) rfl hS ?_
            simp only [sa, sb, sc, Act.put, sd, se, sf]
            refine dn ?_
            try simp only [Act.put]
            have HW : Hid (Below W2.heap.size W2 w9) := HT.out.2.trans (b9.mono (by omega))
            clear hS HK2 b9 hB4 HC
            cases fk with
            | false =>
              have HFF : Hid (fin = false) := by
                show _ = _
                rw [HF.out, all2_take _ _ _ (j + 1) HS.out, Bool.and_false]
              go_wp2_with fail
              go_ret
              exact ⟨by rw [HFF.out]; rfl, (HK.out _ HW.out).1⟩
            | true =>
              go_wp2_with fail
              exact ⟨⟨j + 1, hlt, by go_num, HS.out, HW.out⟩, by simp [intOf]; omega⟩
          · have i1 : ¬ (j : Int) < items.length := by omega
            have HFF : Hid (fin = true) := by
              show _ = _
              have h := HT.out.1
              rw [List.take_of_length_le (by omega), List.take_of_length_le (by have := HL.out.2; omega)] at h
              rw [HF.out, h, decide_eq_true HX.out.1]; rfl
            go_wp2_with fail
            go_ret
            exact ⟨by rw [HFF.out]; rfl, (HK.out _ HT.out.2).1⟩
  · have hh' : sameH x.h y.h x.items.length y.items.length = false := by simpa using hh
    have e : MD.same (n + 1) x y = false := by
      show (sameH _ _ _ _ && _ && _) = _
      rw [hh']; rfl
    rw [e]
    exact refSame_no x y w hh' hx.len.1 hy.len.1
theorem refSame_any : ∀ n, RefSameC n
  | 0 => fun _ _ _ h _ => h.elim
  | n + 1 => refSame_step n (refSame_any n)
end Go.Proofs.YtdbijkgnddcneaaGreatDoor
