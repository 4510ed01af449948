/-
  The walk of TreeSames.
-/
import Derived.Test.YthbnegggohegkaaGreatDoorEx
namespace Go.Proofs.YthbnegggohegkaaGreatDoor
open Go.RowKit

set_option maxRecDepth 100000 in
set_option maxHeartbeats 2000000 in
theorem samesLaw_any {gw ow gs os : Nat} (a b : MT) (w : World) (ht : TabsAt gw ow gs os w) (hg : w.cell? ⟨0, 0, none⟩ = some (.iface 129 (.agg #[hnd 33]))) (ha : a.In w.heap.size w) (hb : b.In w.heap.size w) (hsym : MT.same b a = MT.same a b) :
    Calls Tryz.prog 4 #[nodeV a, nodeV b] w fun e w' => e = .returned (.bool true) ∧ Below w.heap.size w w' := by
  have h6 := ht.two
  have hB2 := below2 w (nodeO a) (nodeO b)
  have HNA : Hid (BoxAt ((w.alloc (nodeO a)).alloc (nodeO b)) w.heap.size a) := (BoxAt.new w a).below (Nat.lt_succ_self _) ((Below.refl _ _).alloc (by simp) (nodeO b))
  have HNB : Hid (BoxAt ((w.alloc (nodeO a)).alloc (nodeO b)) (w.heap.size + 1) b) := by
    have := BoxAt.new (w.alloc (nodeO a)) b
    rwa [World.size_alloc] at this
  have hz2 : ((w.alloc (nodeO a)).alloc (nodeO b)).heap.size = w.heap.size + 2 := by simp
  go_enter Tryz.func4, Tryz.ntmps4
  go_wp2_with fail
  refine (examples_any _ (ht.below (Nat.le_refl _) hB2) ((hB2.cell (p := ⟨0, 0, none⟩) (by show 0 < _; omega)).trans hg)).mono ?_
  have HW : ∃ W2, W2 = ((w.alloc (nodeO a)).alloc (nodeO b)) := ⟨_, rfl⟩
  obtain ⟨W2, hW2⟩ := HW
  rw [← hW2] at hB2 HNA HNB hz2
  rintro e w3 ⟨rfl, hb3'⟩
  have hb3 : Below W2.heap.size W2 w3 := by rw [hW2]; exact hb3'
  clear hb3' hW2
  have HK : Hid (∀ W, Below W2.heap.size W2 W → (W.cell? ⟨w.heap.size, 0, none⟩ = some (.int .i64 a.kind) ∧ W.cell? ⟨w.heap.size, 1, none⟩ = some (.string a.text) ∧ W.cell? ⟨w.heap.size, 2, none⟩ = some (.int .i64 a.num) ∧ W.cell? ⟨w.heap.size, 3, none⟩ = some (.int .i64 a.at_) ∧ W.cell? ⟨w.heap.size, 4, none⟩ = some (.slice a.ptr a.kids.length a.cap) ∧ W.cell? ⟨w.heap.size + 1, 0, none⟩ = some (.int .i64 b.kind) ∧ W.cell? ⟨w.heap.size + 1, 1, none⟩ = some (.string b.text) ∧ W.cell? ⟨w.heap.size + 1, 2, none⟩ = some (.int .i64 b.num) ∧ W.cell? ⟨w.heap.size + 1, 3, none⟩ = some (.int .i64 b.at_) ∧ W.cell? ⟨w.heap.size + 1, 4, none⟩ = some (.slice b.ptr b.kids.length b.cap))) := fun W hW => by
    obtain ⟨k0, k1, k2, k3, k4⟩ := HNA.out.below (by omega) hW
    obtain ⟨m0, m1, m2, m3, m4⟩ := HNB.out.below (by omega) hW
    exact ⟨k0, k1, k2, k3, k4, m0, m1, m2, m3, m4⟩
  have HIA : Hid (∀ W, Below W2.heap.size W2 W → a.In W.heap.size W) := fun W hW => MT.In.mono (by have := hW.size; omega) _ (MT.In.below (hB2.trans (hW.mono (by omega))) _ ha)
  have HIB : Hid (∀ W, Below W2.heap.size W2 W → b.In W.heap.size W) := fun W hW => MT.In.mono (by have := hW.size; omega) _ (MT.In.below (hB2.trans (hW.mono (by omega))) _ hb)
  have HRS : Hid (∀ W, Below W2.heap.size W2 W → Calls Tryz.prog 16 #[nodeV a, nodeV b] W fun e w' => e = .returned (.bool (MT.same a b)) ∧ Below W2.heap.size W2 w') := fun W hW =>
    (refSame_any a b W (HIA.out W hW) (HIB.out W hW)).mono fun _ _ ⟨r, h1, h2, h3⟩ => ⟨by rw [h1, h2.out], hW.trans (h3.mono hW.size)⟩
  have HS1 : Hid (∀ W, Below W2.heap.size W2 W → Calls Tryz.prog 17 #[nodeV a, nodeV b] W fun e w' => e = .returned (.bool (MT.same a b)) ∧ Below W2.heap.size W2 w') := fun W hW =>
    (same_any a b W (HIA.out W hW) (HIB.out W hW)).mono fun _ _ ⟨r, h1, h2, h3⟩ => ⟨by rw [h1, h2.out], hW.trans (h3.mono hW.size)⟩
  have HS2 : Hid (∀ W, Below W2.heap.size W2 W → Calls Tryz.prog 17 #[nodeV b, nodeV a] W fun e w' => e = .returned (.bool (MT.same a b)) ∧ Below W2.heap.size W2 w') := fun W hW =>
    (same_any b a W (HIB.out W hW) (HIA.out W hW)).mono fun _ _ ⟨r, h1, h2, h3⟩ => ⟨by rw [h1, h2.out, hsym], hW.trans (h3.mono hW.size)⟩
  have HCA : Hid (∀ W, Below W2.heap.size W2 W → Calls Tryz.prog 18 #[nodeV a] W fun e w' => e = .returned (.int .i64 (min (a.size : Int) 1000001)) ∧ Below W2.heap.size W2 w') := fun W hW =>
    (count_any a W (HIA.out W hW)).mono fun _ _ ⟨r, h1, _, _, h2, h3⟩ => ⟨by rw [h1, h2.out], hW.trans (h3.mono hW.size)⟩
  have HCB : Hid (∀ W, Below W2.heap.size W2 W → Calls Tryz.prog 18 #[nodeV b] W fun e w' => e = .returned (.int .i64 (min (b.size : Int) 1000001)) ∧ Below W2.heap.size W2 w') := fun W hW =>
    (count_any b W (HIB.out W hW)).mono fun _ _ ⟨r, h1, _, _, h2, h3⟩ => ⟨by rw [h1, h2.out], hW.trans (h3.mono hW.size)⟩
  have HRA : Hid (∀ W, Below W2.heap.size W2 W → Calls Tryz.prog 11 #[nodeV a] W fun e w' => e = .returned (.int .i64 (min (a.size : Int) 1000001)) ∧ Below W2.heap.size W2 w') := fun W hW =>
    (refCount_any a W (HIA.out W hW)).mono fun _ _ ⟨r, h1, _, _, h2, h3⟩ => ⟨by rw [h1, h2.out], hW.trans (h3.mono hW.size)⟩
  have HRB : Hid (∀ W, Below W2.heap.size W2 W → Calls Tryz.prog 11 #[nodeV b] W fun e w' => e = .returned (.int .i64 (min (b.size : Int) 1000001)) ∧ Below W2.heap.size W2 w') := fun W hW =>
    (refCount_any b W (HIB.out W hW)).mono fun _ _ ⟨r, h1, _, _, h2, h3⟩ => ⟨by rw [h1, h2.out], hW.trans (h3.mono hW.size)⟩
  generalize MT.same a b = r at HRS HS1 HS2
  generalize min (a.size : Int) 1000001 = ra at HCA HRA
  generalize min (b.size : Int) 1000001 = rb at HCB HRB
  clear HNA HNB HIA HIB hsym
  obtain ⟨k0, k1, k2, k3, k4, m0, m1, m2, m3, m4⟩ := HK.out w3 hb3
  go_wp2_with fail
  refine (HRS.out _ hb3).mono ?_
  rintro e w4 ⟨rfl, hb4⟩
  clear k0 k1 k2 k3 k4 m0 m1 m2 m3 m4 hb3
  obtain ⟨k0, k1, k2, k3, k4, m0, m1, m2, m3, m4⟩ := HK.out w4 hb4
  go_wp2_with fail
  have HE : Hid (Below w.heap.size w W2) := hB2
  clear hB2
  cases r <;>
  (go_region_held3 (fun W => W.cell? ⟨w.heap.size, 0, none⟩ = some (.int .i64 a.kind) ∧ W.cell? ⟨w.heap.size, 1, none⟩ = some (.string a.text) ∧ W.cell? ⟨w.heap.size, 2, none⟩ = some (.int .i64 a.num) ∧ W.cell? ⟨w.heap.size, 3, none⟩ = some (.int .i64 a.at_) ∧ W.cell? ⟨w.heap.size, 4, none⟩ = some (.slice a.ptr a.kids.length a.cap) ∧ W.cell? ⟨w.heap.size + 1, 0, none⟩ = some (.int .i64 b.kind) ∧ W.cell? ⟨w.heap.size + 1, 1, none⟩ = some (.string b.text) ∧ W.cell? ⟨w.heap.size + 1, 2, none⟩ = some (.int .i64 b.num) ∧ W.cell? ⟨w.heap.size + 1, 3, none⟩ = some (.int .i64 b.at_) ∧ W.cell? ⟨w.heap.size + 1, 4, none⟩ = some (.slice b.ptr b.kids.length b.cap))
    (first | exact HK.out _ hbF | exact HK.out _ hbE | exact HK.out _ hbD | exact HK.out _ hbC | exact HK.out _ hbB | exact HK.out _ hbA | exact HK.out _ hb4.drew)
    (first
      | (go_at_call 11; refine (HRB.out _ hbE).mono ?_; rintro e w10 ⟨rfl, hbF⟩)
      | (go_at_call 18; refine (HCB.out _ hbD).mono ?_; rintro e w9 ⟨rfl, hbE⟩)
      | (go_at_call 11; refine (HRA.out _ hbC).mono ?_; rintro e w8 ⟨rfl, hbD⟩)
      | (go_at_call 18; refine (HCA.out _ hbB).mono ?_; rintro e w7 ⟨rfl, hbC⟩)
      | (go_at_call 17; refine (HS2.out _ hbA).mono ?_; rintro e w6 ⟨rfl, hbB⟩)
      | (go_at_call 17; refine (HS1.out _ hb4.drew).mono ?_; rintro e w5 ⟨rfl, hbA⟩)))
  all_goals
    have HZ : Hid (Below w.heap.size w w10) := HE.out.trans (hbF.mono (by omega))
    clear k0 k1 k2 k3 k4 m0 m1 m2 m3 m4
    go_wp2_with fail
    go_ret
    exact ⟨rfl, HZ.out⟩
end Go.Proofs.YthbnegggohegkaaGreatDoor
