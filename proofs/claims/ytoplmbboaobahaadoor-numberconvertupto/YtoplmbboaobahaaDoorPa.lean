/-
  Paths: lent and back of any path; two data with like paths.
-/
import Derived.Test.YtoplmbboaobahaaDoorLn
import Derived.Test.YtoplmbboaobahaaDoorOw
import Derived.Test.YtoplmbboaobahaaDoorPt
namespace Go.Proofs.YtoplmbboaobahaaDoor
open Go.RowKit
attribute [local go_sem] refold2 cell3_0 cell3_1 cell4_0 cell4_1 cell4_2 frozen4_1 frozen4_2 b28_0 b28_01 b28_012 b28_013 b28_014 b35_01 b35_0 b35 mkI69

theorem lent_any (k : Int) (t : ByteArray) (n f : Int) (s : ByteArray) (r0 r1 r2 r3 : Int) (ip : Option Addr) (il ic : Nat) (pp : Option Addr) (m c : Nat) (zs : List Int) (w : World) (hP : PathAt w w.heap.size pp m zs) (hm : m ≤ 1048576) :
    Calls Tryd.prog 17 #[D k t n f s r0 r1 r2 r3 (.slice pp m c) (.slice ip il ic)] w fun r w' => ∃ g, r = .returned (.tuple #[D k t n f s r0 r1 r2 r3 (.slice (some ⟨g, 0, none⟩) m (m + 2)) (.slice ip il ic), .slice (some ⟨g, 0, none⟩) (m + 2) (m + 2)]) ∧ w'.ownsRow w.heap.size 3 1 (.slice (some ⟨g, 0, none⟩) (m + 2) (m + 2)) (m + 2) (nums zs ++ [.int .i64 (-71), .int .i64 (-72)]) ∧ Below w.heap.size w w' := by
  by_cases hpos : 0 < m
  · obtain ⟨ad, rfl, h1, h2⟩ := hP.at_ hpos
    exact lent_some k t n f s r0 r1 r2 r3 ip il ic ad m c (nums zs) w (by rw [nums_len, hP.len]) h1 (nums_one zs) h2 hm hpos
  · obtain rfl : m = 0 := by omega
    obtain rfl : zs = [] := List.eq_nil_of_length_eq_zero hP.len
    exact lent_nil k t n f s r0 r1 r2 r3 ip il ic pp c w

theorem grown_alloc (w : World) (o : Obj) (row : Option Nat) : w.grownBy (w.alloc o) row := ⟨rfl, rfl, rfl, by simp, fun k hk _ => Below.heap_alloc _ _ _ hk⟩
theorem grown_set {w W : World} {g : Nat} (h : w.grownBy W (some g)) (j : Nat) (v : Value) : w.grownBy (W.setCell ⟨g, j, none⟩ v) (some g) :=
  ⟨h.os, h.tape, h.output, by simpa using h.size, fun k hk hne => (Below.heap_setCell _ _ _ _ (fun e => hne (congrArg some e))).trans (h.block k hk hne)⟩

set_option maxRecDepth 100000 in
set_option maxHeartbeats 4000000 in
theorem back_any {B : Nat} (k : Int) (t : ByteArray) (n f : Int) (s : ByteArray) (r0 r1 r2 r3 : Int) (i : Value) (pp : Option Addr) (m c g cap : Nat) (zs : List Int) (w : World)
    (hP : PathAt w B pp m zs) (hB : B ≤ w.heap.size) (hm : m ≤ 1048576)
    (hp : w.ownsRow B 3 1 (.slice (some ⟨g, 0, none⟩) (m + 2) cap) (m + 2) (nums zs ++ [.int .i64 (-71), .int .i64 (-72)])) :
    Calls Tryd.prog 20 #[.slice (some ⟨g, 0, none⟩) (m + 2) cap, D k t n f s r0 r1 r2 r3 (.slice pp m c) i] w fun r w' => r = .returned (.bool true) ∧ w.grownBy w' (some g) := by
  simp only [D]
  obtain ⟨hgB, hgw⟩ := hp.lt g rfl
  have hl := hP.len
  obtain ⟨xs, hxs⟩ : ∃ xs, xs = nums zs ++ [.int .i64 (-71), .int .i64 (-72)] := ⟨_, rfl⟩
  have hxm : xs[m]? = some (.int .i64 (-71)) := by rw [hxs, List.getElem?_append_right (by rw [nums_len]; omega), nums_len]; simp [hl]
  have hxm1 : xs[m + 1]? = some (.int .i64 (-72)) := by rw [hxs, List.getElem?_append_right (by rw [nums_len]; omega), nums_len]; simp [hl]
  have hxj : ∀ j, j < m → ∃ ad z, pp = some ad ∧ xs[j]? = some (.int .i64 z) ∧ w.cell? (ad.add j) = some (.int .i64 z) ∧ (ad.add j).block < B := fun j hj => by
    obtain ⟨ad, hpp, hcs, hadb⟩ := hP.at_ (by omega)
    have hz : (nums zs)[j]? = some (.int .i64 (zs[j]'(by omega))) := by unfold nums; rw [List.getElem?_map, List.getElem?_eq_getElem (by omega)]; rfl
    exact ⟨ad, zs[j]'(by omega), hpp, by rw [hxs, List.getElem?_append_left (by rw [nums_len]; omega)]; exact hz, hcs j _ hz, hadb j⟩
  rw [← hxs] at hp
  have HXJ : Hid _ := hxj
  have HP : Hid (w.ownsRow B 3 1 (.slice (some ⟨g, 0, none⟩) (m + 2) cap) (m + 2) xs) := hp
  clear hxj hP hxs
  have c1 := ((hp.alloc (.cells #[.int .i64 k, .string t, .int .i64 n, .int .u64 f, .string s, .int .i64 r0, .int .i64 r1, .int .i64 r2, .int .i64 r3, .slice pp m c, i] 28)).cellAt m (by omega)).trans hxm
  have c2 := ((hp.alloc (.cells #[.int .i64 k, .string t, .int .i64 n, .int .u64 f, .string s, .int .i64 r0, .int .i64 r1, .int .i64 r2, .int .i64 r3, .slice pp m c, i] 28)).cellAt (m + 1) (by omega)).trans hxm1
  clear hp hxm hxm1
  go_enter Tryd.func20, Tryd.ntmps20
  go_wp2_with fail
  go_loopw [6, 7] (fun okv iv wi => ∃ j : Nat, j ≤ m + 2 ∧ okv = .bool true ∧ iv = .int .i64 j ∧ Hid (∃ ys, wi.ownsRow B 3 1 (.slice (some ⟨g, 0, none⟩) (m + 2) cap) (m + 2) ys ∧ ∀ l, j ≤ l → ys[l]? = xs[l]?) ∧ Hid (∀ o, wi.cell? ⟨w.heap.size, o, none⟩ = (#[.int .i64 k, .string t, .int .i64 n, .int .u64 f, .string s, .int .i64 r0, .int .i64 r1, .int .i64 r2, .int .i64 r3, .slice pp m c, i] : Array Value)[o]?) ∧ w.grownBy wi (some g)) (fun _ iv _ => m + 2 - (intOf iv).toNat)
  case atStart => exact ⟨0, by omega, rfl, rfl, ⟨xs, by first | exact HP.out.alloc _ | exact (HP.out.alloc _), fun l _ => rfl⟩, fun o => by first | exact World.cell?_alloc_new _ _ _ | simp, by first | exact grown_alloc _ _ _ | exact (grown_alloc _ _ _).drew⟩
  case round =>
    obtain ⟨j, hj, rfl, rfl, HY, HC, hbl⟩ := hrel
    by_cases hlt : j < m + 2
    · have i1 : (j : Int) < (m : Int) + 2 := by omega
      obtain ⟨ys, hy1, hy2⟩ := HY.out
      have hyl : ys.length = (m + 2) * 1 := hy1.1
      obtain ⟨v0, e0⟩ : ∃ v0, ys[j]? = some v0 := ⟨_, List.getElem?_eq_getElem (by omega)⟩
      have cj := (hy1.cellAt j (by omega)).trans e0
      have fj := hy1.frozenAt j
      have ca := HC.out
      have HY1 : Hid (wr.ownsRow B 3 1 (.slice (some ⟨g, 0, none⟩) (m + 2) cap) (m + 2) ys) := hy1
      have HY2 : Hid _ := hy2
      by_cases hjm : j < m
      · have i2 : (j : Int) < m := by omega
        obtain ⟨ad, z, rfl, hz1, hz2, hadb⟩ := HXJ.out j hjm
        have hz3 : wr.cell? (ad.add j) = some (.int .i64 z) := (World.cell?_of_block (hbl.block _ (by omega) (fun e => by have := Option.some.inj e; omega))).trans hz2
        obtain rfl : v0 = .int .i64 z := by rw [hy2 j (Nat.le_refl _), hz1] at e0; exact (Option.some.inj e0).symm
        clear e0 hz1 hz2 hy1 hy2 HY HC
        go_wp2_with fail
        go_quiet (fail)
        go_wp2_with fail
        have hs : (wr.setCell ⟨g, j, none⟩ (.int .i64 (-5))).ownsRow B 3 1 (.slice (some ⟨g, 0, none⟩) (m + 2) cap) (m + 2) (ys.set j (.int .i64 (-5))) := own_set HY1.out j _
        have hc : ∀ o, (wr.setCell ⟨g, j, none⟩ (.int .i64 (-5))).cell? ⟨w.heap.size, o, none⟩ = (#[.int .i64 k, .string t, .int .i64 n, .int .u64 f, .string s, .int .i64 r0, .int .i64 r1, .int .i64 r2, .int .i64 r3, .slice (some ad) m c, i] : Array Value)[o]? := fun o => by
          rw [World.cell?_setCell_other _ _ _ _ (fun e => by cases e; omega)]; exact ca o
        have hbn : w.grownBy (wr.setCell ⟨g, j, none⟩ (.int .i64 (-5))) (some g) := grown_set hbl j _
        exact ⟨⟨j + 1, by omega, rfl, by go_num, ⟨_, hs, fun l hl2 => by rw [List.getElem?_set_ne (by omega)]; exact HY2.out l (by omega)⟩, hc, hbn.trans ⟨rfl, rfl, rfl, Nat.le_refl _, fun _ _ _ => rfl⟩⟩, by simp [intOf]; omega⟩
      · have i2 : ¬ (j : Int) < m := by omega
        clear e0 hy1 hy2 HY HC
        go_wp2_with fail
        go_quiet (fail)
        go_wp2_with fail
        have hs : (wr.setCell ⟨g, j, none⟩ (.int .i64 (-5))).ownsRow B 3 1 (.slice (some ⟨g, 0, none⟩) (m + 2) cap) (m + 2) (ys.set j (.int .i64 (-5))) := own_set HY1.out j _
        have hc : ∀ o, (wr.setCell ⟨g, j, none⟩ (.int .i64 (-5))).cell? ⟨w.heap.size, o, none⟩ = (#[.int .i64 k, .string t, .int .i64 n, .int .u64 f, .string s, .int .i64 r0, .int .i64 r1, .int .i64 r2, .int .i64 r3, .slice pp m c, i] : Array Value)[o]? := fun o => by
          rw [World.cell?_setCell_other _ _ _ _ (fun e => by cases e; omega)]; exact ca o
        have hbn : w.grownBy (wr.setCell ⟨g, j, none⟩ (.int .i64 (-5))) (some g) := grown_set hbl j _
        exact ⟨⟨j + 1, by omega, rfl, by go_num, ⟨_, hs, fun l hl2 => by rw [List.getElem?_set_ne (by omega)]; exact HY2.out l (by omega)⟩, hc, hbn.trans ⟨rfl, rfl, rfl, Nat.le_refl _, fun _ _ _ => rfl⟩⟩, by simp [intOf]; omega⟩
    · have i1 : ¬ (j : Int) < (m : Int) + 2 := by omega
      go_wp2_with fail
      go_ret
      exact ⟨rfl, hbl⟩
end Go.Proofs.YtoplmbboaobahaaDoor
