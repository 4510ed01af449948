/-
  The law's own back: what was lent is as it was.
-/
import Derived.Test.YtoplmbboaobahaaDoorLe
import Derived.BigQuiet
namespace Go.Proofs.YtoplmbboaobahaaDoor
open Go.RowKit
attribute [local go_sem] refold2 cell3_0 cell3_1 b28_0 b28_01 b28_012 b28_013 b28_014 b35_01 b35_0 b35 mkI69

set_option maxRecDepth 100000 in
set_option maxHeartbeats 4000000 in
theorem back_some {B : Nat} (k : Int) (t : ByteArray) (n f : Int) (s : ByteArray) (r0 r1 r2 r3 : Int) (i : Value) (ad : Addr) (m c g cap : Nat) (zs : List Int) (w : World)
    (hl : zs.length = m) (hcs : ∀ (j : Nat) (u : Value), (zs.map (Value.int .i64))[j]? = some u → w.cell? (ad.add j) = some u) (hadb : ∀ j, (ad.add j).block < B) (hB : B ≤ w.heap.size) (hm : m ≤ 1048576)
    (hp : w.ownsRow B 3 1 (.slice (some ⟨g, 0, none⟩) (m + 2) cap) (m + 2) (zs.map (Value.int .i64) ++ [.int .i64 (-71), .int .i64 (-72)])) :
    Calls Tryd.prog 20 #[.slice (some ⟨g, 0, none⟩) (m + 2) cap, D k t n f s r0 r1 r2 r3 (.slice (some ad) m c) i] w fun r w' => r = .returned (.bool true) ∧ Below B w w' := by
  simp only [D]
  obtain ⟨hgB, hgw⟩ := hp.lt g rfl
  obtain ⟨xs, hxs⟩ : ∃ xs, xs = zs.map (Value.int .i64) ++ [.int .i64 (-71), .int .i64 (-72)] := ⟨_, rfl⟩
  have hxm : xs[m]? = some (.int .i64 (-71)) := by rw [hxs, List.getElem?_append_right (by simp; omega)]; simp [hl]
  have hxm1 : xs[m + 1]? = some (.int .i64 (-72)) := by rw [hxs, List.getElem?_append_right (by simp; omega)]; simp [hl]
  have hxj : ∀ j, j < m → ∃ z, xs[j]? = some (.int .i64 z) ∧ w.cell? (ad.add j) = some (.int .i64 z) := fun j hj => by
    have hz : (zs.map (Value.int .i64))[j]? = some (.int .i64 (zs[j]'(by omega))) := by rw [List.getElem?_map, List.getElem?_eq_getElem (by omega)]; rfl
    exact ⟨zs[j]'(by omega), by rw [hxs, List.getElem?_append_left (by simp; omega)]; exact hz, hcs j _ hz⟩
  rw [← hxs] at hp
  have HXJ : Hid _ := hxj
  have HP : Hid (w.ownsRow B 3 1 (.slice (some ⟨g, 0, none⟩) (m + 2) cap) (m + 2) xs) := hp
  clear hxj hcs hxs
  have c1 := ((hp.alloc (.cells #[.int .i64 k, .string t, .int .i64 n, .int .u64 f, .string s, .int .i64 r0, .int .i64 r1, .int .i64 r2, .int .i64 r3, .slice (some ad) m c, i] 28)).cellAt m (by omega)).trans hxm
  have c2 := ((hp.alloc (.cells #[.int .i64 k, .string t, .int .i64 n, .int .u64 f, .string s, .int .i64 r0, .int .i64 r1, .int .i64 r2, .int .i64 r3, .slice (some ad) m c, i] 28)).cellAt (m + 1) (by omega)).trans hxm1
  clear hp hxm hxm1
  go_enter Tryd.func20, Tryd.ntmps20
  go_wp2_with fail
  go_loopw [6, 7] (fun okv iv wi => ∃ j : Nat, j ≤ m + 2 ∧ okv = .bool true ∧ iv = .int .i64 j ∧ Hid (∃ ys, wi.ownsRow B 3 1 (.slice (some ⟨g, 0, none⟩) (m + 2) cap) (m + 2) ys ∧ ∀ l, j ≤ l → ys[l]? = xs[l]?) ∧ Hid (∀ o, wi.cell? ⟨w.heap.size, o, none⟩ = (#[.int .i64 k, .string t, .int .i64 n, .int .u64 f, .string s, .int .i64 r0, .int .i64 r1, .int .i64 r2, .int .i64 r3, .slice (some ad) m c, i] : Array Value)[o]?) ∧ Below B w wi) (fun _ iv _ => m + 2 - (intOf iv).toNat)
  case atStart => exact ⟨0, by omega, rfl, rfl, ⟨xs, by first | exact HP.out.alloc _ | exact (HP.out.alloc _), fun l _ => rfl⟩, fun o => by first | exact World.cell?_alloc_new _ _ _ | simp, by first | exact (Below.refl _ _).alloc hB _ | exact ((Below.refl _ _).alloc hB _).drew⟩
  case round =>
    obtain ⟨j, hj, rfl, rfl, HY, HC, hbl⟩ := hrel
    by_cases hlt : j < m + 2
    · have i1 : (j : Int) < (m : Int) + 2 := by omega
      obtain ⟨ys, hy1, hy2⟩ := HY.out
      have hyl : ys.length = (m + 2) * 1 := hy1.1
      obtain ⟨v0, e0⟩ : ∃ v0, ys[j]? = some v0 := ⟨_, List.getElem?_eq_getElem (by omega)⟩
      have cj := (hy1.cellAt j (by omega)).trans e0
      have fj := hy1.frozenAt j
      have ca := HC.out
      have HY1 : Hid (wr.ownsRow B 3 1 (.slice (some ⟨g, 0, none⟩) (m + 2) cap) (m + 2) ys) := hy1
      have HY2 : Hid _ := hy2
      by_cases hjm : j < m
      · have i2 : (j : Int) < m := by omega
        obtain ⟨z, hz1, hz2⟩ := HXJ.out j hjm
        have hz3 : wr.cell? (ad.add j) = some (.int .i64 z) := (hbl.cell (p := ad.add j) (hadb j)).trans hz2
        obtain rfl : v0 = .int .i64 z := by rw [hy2 j (Nat.le_refl _), hz1] at e0; exact (Option.some.inj e0).symm
        clear e0 hz1 hz2 hy1 hy2 HY HC
        go_wp2_with fail
        go_quiet (fail)
        go_wp2_with fail
        have hs : (wr.setCell ⟨g, j, none⟩ (.int .i64 (-5))).ownsRow B 3 1 (.slice (some ⟨g, 0, none⟩) (m + 2) cap) (m + 2) (ys.set j (.int .i64 (-5))) := own_set HY1.out j _
        have hc : ∀ o, (wr.setCell ⟨g, j, none⟩ (.int .i64 (-5))).cell? ⟨w.heap.size, o, none⟩ = (#[.int .i64 k, .string t, .int .i64 n, .int .u64 f, .string s, .int .i64 r0, .int .i64 r1, .int .i64 r2, .int .i64 r3, .slice (some ad) m c, i] : Array Value)[o]? := fun o => by
          rw [World.cell?_setCell_other _ _ _ _ (fun e => by cases e; omega)]; exact ca o
        have hbn : Below B w (wr.setCell ⟨g, j, none⟩ (.int .i64 (-5))) := hbl.setCell (p := ⟨g, j, none⟩) hgB _
        exact ⟨⟨j + 1, by omega, rfl, by go_num, ⟨_, hs, fun l hl2 => by rw [List.getElem?_set_ne (by omega)]; exact HY2.out l (by omega)⟩, hc, hbn.trans ⟨rfl, rfl, rfl, Nat.le_refl _, fun _ _ => rfl⟩⟩, by simp [intOf]; omega⟩
      · have i2 : ¬ (j : Int) < m := by omega
        clear e0 hy1 hy2 HY HC
        go_wp2_with fail
        go_quiet (fail)
        go_wp2_with fail
        have hs : (wr.setCell ⟨g, j, none⟩ (.int .i64 (-5))).ownsRow B 3 1 (.slice (some ⟨g, 0, none⟩) (m + 2) cap) (m + 2) (ys.set j (.int .i64 (-5))) := own_set HY1.out j _
        have hc : ∀ o, (wr.setCell ⟨g, j, none⟩ (.int .i64 (-5))).cell? ⟨w.heap.size, o, none⟩ = (#[.int .i64 k, .string t, .int .i64 n, .int .u64 f, .string s, .int .i64 r0, .int .i64 r1, .int .i64 r2, .int .i64 r3, .slice (some ad) m c, i] : Array Value)[o]? := fun o => by
          rw [World.cell?_setCell_other _ _ _ _ (fun e => by cases e; omega)]; exact ca o
        have hbn : Below B w (wr.setCell ⟨g, j, none⟩ (.int .i64 (-5))) := hbl.setCell (p := ⟨g, j, none⟩) hgB _
        exact ⟨⟨j + 1, by omega, rfl, by go_num, ⟨_, hs, fun l hl2 => by rw [List.getElem?_set_ne (by omega)]; exact HY2.out l (by omega)⟩, hc, hbn.trans ⟨rfl, rfl, rfl, Nat.le_refl _, fun _ _ => rfl⟩⟩, by simp [intOf]; omega⟩
    · have i1 : ¬ (j : Int) < (m : Int) + 2 := by omega
      go_wp2_with fail
      go_ret
      exact ⟨rfl, hbl⟩
end Go.Proofs.YtoplmbboaobahaaDoor
