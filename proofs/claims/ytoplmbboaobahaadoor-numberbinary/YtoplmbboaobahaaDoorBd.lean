/-
  What is told of two data that have no such operation, by number and by the document.
-/
import Derived.Test.YtoplmbboaobahaaDoorY
namespace Go.Proofs.YtoplmbboaobahaaDoor
open Go.RowKit
attribute [local go_sem] refold2 cell3_0 cell3_1 b28_0 b28_01 b28_012 b28_013 b28_014 b35_01 b35_0 b35 mkI69
/-- What is told of two that have no such operation. -/
def opd2 (u : ByteArray) (k : Int) (t : ByteArray) (k2 : Int) (t2 : ByteArray) : ByteArray := u ++ ⟨#[32]⟩ ++ nm k t ++ ⟨#[32]⟩ ++ nm k2 t2

theorem two28 (w : World) (c d : Array Value) (W : World) (h : Below ((w.alloc (.cells c 28)).alloc (.cells d 28)).heap.size ((w.alloc (.cells c 28)).alloc (.cells d 28)) W) :
    (∀ j, W.cell? ⟨w.heap.size, j, none⟩ = c[j]?) ∧ (∀ j, W.cell? ⟨w.heap.size + 1, j, none⟩ = d[j]?) := by
  refine ⟨fun j => ?_, fun j => ?_⟩
  · rw [h.cell (p := ⟨w.heap.size, j, none⟩) (by simp; omega), World.cell?_alloc_lt _ _ _ (by simp), World.cell?_alloc_new]
  · rw [h.cell (p := ⟨w.heap.size + 1, j, none⟩) (by simp), show w.heap.size + 1 = (w.alloc (.cells c 28)).heap.size by simp, World.cell?_alloc_new]

set_option maxRecDepth 100000 in
set_option maxHeartbeats 4000000 in
theorem unlike_any (u : ByteArray) (k : Int) (t : ByteArray) (a f : Int) (s : ByteArray) (r0 r1 r2 r3 : Int) (p i : Value) (k2 : Int) (t2 : ByteArray) (b f2 : Int) (s2 : ByteArray) (q0 q1 q2 q3 : Int) (p2 i2 : Value) (w : World) (ht : t.size ≤ 140737488351232) (ht2 : t2.size ≤ 140737488351232) (hu : u.size ≤ 140737488351232) :
    Calls Tryd.prog 41 #[.string u, D k t a f s r0 r1 r2 r3 p i, D k2 t2 b f2 s2 q0 q1 q2 q3 p2 i2] w fun r w' => ∃ n, r = .returned (.iface 69 (.pointer (some ⟨n, 0, none⟩))) ∧ w.heap.size ≤ n ∧ w'.heap[n]? = some (.cells #[.string ⟨#[111, 112, 101, 114, 97, 110, 100]⟩, .string (opd2 u k t k2 t2)] 35 (0, 0)) ∧ Below w.heap.size w w' := by
  have HN : Hid (∀ W, Calls Tryd.prog 28 #[D k t a f s r0 r1 r2 r3 p i] W fun r w' => r = .returned (.string (nm k t)) ∧ Below W.heap.size W w') := fun W => name_any k t a f s r0 r1 r2 r3 p i W ht
  have HM : Hid (∀ W, Calls Tryd.prog 28 #[D k2 t2 b f2 s2 q0 q1 q2 q3 p2 i2] W fun r w' => r = .returned (.string (nm k2 t2)) ∧ Below W.heap.size W w') := fun W => name_any k2 t2 b f2 s2 q0 q1 q2 q3 p2 i2 W ht2
  have hns := nm_size k t ht
  have hms := nm_size k2 t2 ht2
  unfold opd2
  generalize nm k t = v at HN hns ⊢
  generalize nm k2 t2 = v2 at HM hms ⊢
  simp only [D] at HN HM ⊢
  obtain ⟨W2, hW2⟩ : ∃ W2, W2 = (w.alloc (.cells #[.int .i64 k, .string t, .int .i64 a, .int .u64 f, .string s, .int .i64 r0, .int .i64 r1, .int .i64 r2, .int .i64 r3, p, i] 28)).alloc (.cells #[.int .i64 k2, .string t2, .int .i64 b, .int .u64 f2, .string s2, .int .i64 q0, .int .i64 q1, .int .i64 q2, .int .i64 q3, p2, i2] 28) := ⟨_, rfl⟩
  have HK : Hid (∀ W, Below (w.heap.size + 1 + 1) W2 W → ((∀ j, W.cell? ⟨w.heap.size, j, none⟩ = (#[.int .i64 k, .string t, .int .i64 a, .int .u64 f, .string s, .int .i64 r0, .int .i64 r1, .int .i64 r2, .int .i64 r3, p, i] : Array Value)[j]?) ∧ (∀ j, W.cell? ⟨w.heap.size + 1, j, none⟩ = (#[.int .i64 k2, .string t2, .int .i64 b, .int .u64 f2, .string s2, .int .i64 q0, .int .i64 q1, .int .i64 q2, .int .i64 q3, p2, i2] : Array Value)[j]?))) := fun W hW => by
    rw [hW2] at hW
    exact two28 w _ _ W (hW.mono (by simp))
  have hB2 : Below w.heap.size w W2 := by rw [hW2]; exact below2 _ _ _
  have hz2 : W2.heap.size = w.heap.size + 2 := by rw [hW2]; simp
  have h8 : (u ++ ⟨#[32]⟩ : ByteArray).size ≤ 140737488351234 := by rw [ByteArray.size_append]; show u.size + 1 ≤ _; omega
  have h11 : (u ++ ⟨#[32]⟩ ++ v : ByteArray).size ≤ 281474976702468 := by rw [ByteArray.size_append]; omega
  have h12 : (u ++ ⟨#[32]⟩ ++ v ++ ⟨#[32]⟩ : ByteArray).size ≤ 281474976702469 := by rw [ByteArray.size_append]; show _ + 1 ≤ _; omega
  go_enter Tryd.func41, Tryd.ntmps41
  go_wp2_with fail
  rw [← hW2]
  clear hW2
  refine wp_region_noPanic ?_
  refine wp_region_held (S := fun W => (∀ j, W.cell? ⟨w.heap.size, j, none⟩ = (#[.int .i64 k, .string t, .int .i64 a, .int .u64 f, .string s, .int .i64 r0, .int .i64 r1, .int .i64 r2, .int .i64 r3, p, i] : Array Value)[j]?) ∧ (∀ j, W.cell? ⟨w.heap.size + 1, j, none⟩ = (#[.int .i64 k2, .string t2, .int .i64 b, .int .u64 f2, .string s2, .int .i64 q0, .int .i64 q1, .int .i64 q2, .int .i64 q3, p2, i2] : Array Value)[j]?)) (by kernel_rfl) ?_
  obtain ⟨W4, hW4⟩ : ∃ W4, W4 = W2.drew := ⟨_, rfl⟩
  have e4 : ({ W2 with drawn := W2.drawn + 1 } : World) = W4 := hW4.symm
  rw [e4]
  have hB4 : Below (w.heap.size + 1 + 1) W2 W4 := by rw [hW4]; exact (Below.refl _ _).drew
  have hz4 : W4.heap.size = w.heap.size + 1 + 1 := by rw [hW4]; exact hz2
  have hS := HK.out W4 hB4
  clear e4 hW4
  refine wpAnyH_take (i := 0) (v := .string u) rfl (by kernel_rfl) (by kernel_rfl) (by kernel_rfl) (fun _ _ _ h => h) (Or.inl ⟨by rfl, ?r⟩) hS ?_
  case r => intro W hW; simp [go_sem, execOp, Act.eval]
  simp only [List.getElem_toArray, List.getElem_cons_zero, Act.put, List.setIfInBounds_toArray, List.set_cons_succ, List.set_cons_zero]
  refine wpAnyH_take (i := 1) (v := .string (u ++ ⟨#[32]⟩)) rfl (by kernel_rfl) (by kernel_rfl) (by kernel_rfl) (fun _ _ _ h => h) (Or.inl ⟨by rfl, ?r⟩) hS ?_
  case r => intro W hW; simp [go_sem, execOp, Act.eval]; omega
  simp only [List.getElem_toArray, List.getElem_cons_zero, List.getElem_cons_succ, Act.put, List.setIfInBounds_toArray, List.set_cons_succ, List.set_cons_zero]
  refine wpAnyH_take (i := 2) (v := .agg #[.int .i64 k, .string t, .int .i64 a, .int .u64 f, .string s, .int .i64 r0, .int .i64 r1, .int .i64 r2, .int .i64 r3, p, i]) rfl (by kernel_rfl) (by kernel_rfl) (by kernel_rfl) (fun _ _ _ h => h) (Or.inl ⟨by rfl, ?r⟩) hS ?_
  case r => intro W hW; obtain ⟨h1, _⟩ := hW; simp [go_sem, execOp, Act.eval, h1]
  simp only [List.getElem_toArray, List.getElem_cons_zero, List.getElem_cons_succ, Act.put, List.setIfInBounds_toArray, List.set_cons_succ, List.set_cons_zero]
  refine wpAnyH_take (i := 6) (v := .agg #[.int .i64 k2, .string t2, .int .i64 b, .int .u64 f2, .string s2, .int .i64 q0, .int .i64 q1, .int .i64 q2, .int .i64 q3, p2, i2]) rfl (by kernel_rfl) (by kernel_rfl) (by kernel_rfl) (fun _ _ _ h => h) (Or.inl ⟨by rfl, ?r⟩) hS ?_
  case r => intro W hW; obtain ⟨_, h2⟩ := hW; simp [go_sem, execOp, Act.eval, h2]
  simp only [List.getElem_toArray, List.getElem_cons_zero, List.getElem_cons_succ, Act.put, List.setIfInBounds_toArray, List.set_cons_succ, List.set_cons_zero]
  refine wpAnyH_all (rs := [3]) (by kernel_rfl) (by simp) (fun i0 hi0 => ?_)
  obtain rfl : i0 = 3 := by simpa using hi0
  clear hi0
  refine wpOp_step rfl (fun K hK => ite_yes rfl ?_)
  simp only [List.getElem_toArray, List.getElem_cons_zero, List.getElem_cons_succ]
  go_simp
  refine (HN.out _).mono ?_
  rintro e w1 ⟨rfl, hb1⟩
  go_simp
  have hS1 := HK.out _ (hB4.trans (hb1.mono (by omega)))
  refine hK _ _ ⟨hS1, ?_⟩
  clear hK K
  try simp only [List.getElem_toArray, List.getElem_cons_zero, List.getElem_cons_succ, Act.put, List.setIfInBounds_toArray, List.set_cons_succ, List.set_cons_zero]
  refine wpAnyH_take (i := 4) (v := .string (u ++ ⟨#[32]⟩ ++ v)) rfl (by kernel_rfl) (by kernel_rfl) (by kernel_rfl) (fun _ _ _ h => h) (Or.inl ⟨by rfl, ?r⟩) hS1 ?_
  case r => intro W hW; simp [go_sem, execOp, Act.eval]; omega
  simp only [List.getElem_toArray, List.getElem_cons_zero, List.getElem_cons_succ, Act.put, List.setIfInBounds_toArray, List.set_cons_succ, List.set_cons_zero]
  refine wpAnyH_take (i := 5) (v := .string (u ++ ⟨#[32]⟩ ++ v ++ ⟨#[32]⟩)) rfl (by kernel_rfl) (by kernel_rfl) (by kernel_rfl) (fun _ _ _ h => h) (Or.inl ⟨by rfl, ?r⟩) hS1 ?_
  case r => intro W hW; simp [go_sem, execOp, Act.eval]; omega
  simp only [List.getElem_toArray, List.getElem_cons_zero, List.getElem_cons_succ, Act.put, List.setIfInBounds_toArray, List.set_cons_succ, List.set_cons_zero]
  refine wpAnyH_all (rs := [7]) (by kernel_rfl) (by simp) (fun i0 hi0 => ?_)
  obtain rfl : i0 = 7 := by simpa using hi0
  clear hi0
  refine wpOp_step rfl (fun K hK => ite_yes rfl ?_)
  simp only [List.getElem_toArray, List.getElem_cons_zero, List.getElem_cons_succ]
  go_simp
  refine (HM.out _).mono ?_
  rintro e w2 ⟨rfl, hb2⟩
  have hb := hb1.trans (hb2.mono hb1.size)
  go_simp
  have hS2 := HK.out _ (hB4.trans (hb.mono (by omega)))
  refine hK _ _ ⟨hS2, ?_⟩
  clear hK K
  refine wpAnyH_take (i := 8) (v := .string (u ++ ⟨#[32]⟩ ++ v ++ ⟨#[32]⟩ ++ v2)) rfl (by kernel_rfl) (by kernel_rfl) (by kernel_rfl) (fun _ _ _ h => h) (Or.inl ⟨by rfl, ?r⟩) hS2 ?_
  case r => intro W hW; simp [go_sem, execOp, Act.eval]; omega
  simp only [List.getElem_toArray, List.getElem_cons_zero, List.getElem_cons_succ, Act.put, List.setIfInBounds_toArray, List.set_cons_succ, List.set_cons_zero]
  refine wpAnyH_all (rs := [9]) (by kernel_rfl) (by simp) (fun i0 hi0 => ?_)
  obtain rfl : i0 = 9 := by simpa using hi0
  clear hi0
  refine wpOp_step rfl (fun K hK => ite_yes rfl ?_)
  simp only [List.getElem_toArray, List.getElem_cons_zero, List.getElem_cons_succ]
  go_simp
  refine (fault_any _ _ _).mono ?_
  rintro e w3 ⟨rfl, hw3⟩
  have b3 : Below w2.heap.size w2 w3 := by rw [hw3]; exact below1 _ _
  have hnew : w3.heap[w2.heap.size]? = some (.cells #[.string ⟨#[111, 112, 101, 114, 97, 110, 100]⟩, .string (u ++ ⟨#[32]⟩ ++ v ++ ⟨#[32]⟩ ++ v2)] 35 (0, 0)) := by rw [hw3]; exact heap_alloc_new _ _
  clear hw3
  have hbb := hb.trans (b3.mono hb.size)
  have hS3 := HK.out _ (hB4.trans (hbb.mono (by omega)))
  go_simp
  refine hK _ _ ⟨hS3, ?_⟩
  clear hK K
  refine wpAnyH_all (rs := [10]) (by kernel_rfl) (by simp) (fun i0 hi0 => ?_)
  obtain rfl : i0 = 10 := by simpa using hi0
  clear hi0
  refine wpOp_step rfl (fun K hK => ite_yes rfl ?_)
  simp only [List.getElem_toArray, List.getElem_cons_zero, List.getElem_cons_succ]
  go_simp
  refine hK _ _ ⟨hS3, ?_⟩
  clear hK K
  refine wpAnyH_done (by kernel_rfl) ?_ _
  refine NoPanic.normal ?_
  try simp only [List.getElem_toArray, List.getElem_cons_zero, List.getElem_cons_succ, Act.put, List.setIfInBounds_toArray, List.set_cons_succ, List.set_cons_zero]
  go_wp2_with fail
  refine bodyPost_ret (v := .iface 69 (.pointer (some ⟨w2.heap.size, 0, none⟩))) (by simp [results, Tryd.results41, go_sem]) rfl ⟨_, rfl, ?_, hnew, ?_⟩
  · have := (hB2.trans (hB4.mono (by omega))).size; have := hb.size; omega
  · exact (hB2.trans (hB4.mono (by omega))).trans (hbb.mono (by omega))

theorem info35 : (Tryd.prog.info? 35).map (·.size) = some 2 := by kernel_rfl
theorem row_cell35 {w : World} {g : Nat} {cs old : Array Value} (hg : w.heap[g]? = some (.cells old 35 (0, 0))) (j : Nat) : (w.setRow g cs).cell? ⟨g, j, none⟩ = cs[j]? := by
  simp [World.cell?, setRow_heap w g old cs 35 (0, 0) hg]

set_option maxRecDepth 100000 in
set_option maxHeartbeats 4000000 in
theorem refWrong_any (u : ByteArray) (k : Int) (t : ByteArray) (a f : Int) (s : ByteArray) (r0 r1 r2 r3 : Int) (p i : Value) (k2 : Int) (t2 : ByteArray) (b f2 : Int) (s2 : ByteArray) (q0 q1 q2 q3 : Int) (p2 i2 : Value) (w : World) (ht : t.size ≤ 140737488351232) (ht2 : t2.size ≤ 140737488351232) (hu : u.size ≤ 140737488351232) :
    Calls Tryd.prog 46 #[.string u, D k t a f s r0 r1 r2 r3 p i, D k2 t2 b f2 s2 q0 q1 q2 q3 p2 i2] w fun r w' => r = .returned (.agg #[.string ⟨#[111, 112, 101, 114, 97, 110, 100]⟩, .string (opd2 u k t k2 t2)]) ∧ Below w.heap.size w w' := by
  have HN : Hid (∀ W, Calls Tryd.prog 29 #[D k t a f s r0 r1 r2 r3 p i] W fun r w' => r = .returned (.string (nm k t)) ∧ Below W.heap.size W w') := fun W => refName_any k t a f s r0 r1 r2 r3 p i W ht
  have HM : Hid (∀ W, Calls Tryd.prog 29 #[D k2 t2 b f2 s2 q0 q1 q2 q3 p2 i2] W fun r w' => r = .returned (.string (nm k2 t2)) ∧ Below W.heap.size W w') := fun W => refName_any k2 t2 b f2 s2 q0 q1 q2 q3 p2 i2 W ht2
  have hns := nm_size k t ht
  have hms := nm_size k2 t2 ht2
  unfold opd2
  generalize nm k t = v at HN hns ⊢
  generalize nm k2 t2 = v2 at HM hms ⊢
  simp only [D] at HN HM ⊢
  obtain ⟨W2, hW2⟩ : ∃ W2, W2 = ((w.alloc (.cells #[.int .i64 k, .string t, .int .i64 a, .int .u64 f, .string s, .int .i64 r0, .int .i64 r1, .int .i64 r2, .int .i64 r3, p, i] 28)).alloc (.cells #[.int .i64 k2, .string t2, .int .i64 b, .int .u64 f2, .string s2, .int .i64 q0, .int .i64 q1, .int .i64 q2, .int .i64 q3, p2, i2] 28)).alloc (.cells #[.string ⟨#[]⟩, .string ⟨#[]⟩] 35) := ⟨_, rfl⟩
  have HK : Hid (∀ W, Below (w.heap.size + 1 + 1) W2 W → ((∀ j, W.cell? ⟨w.heap.size, j, none⟩ = (#[.int .i64 k, .string t, .int .i64 a, .int .u64 f, .string s, .int .i64 r0, .int .i64 r1, .int .i64 r2, .int .i64 r3, p, i] : Array Value)[j]?) ∧ (∀ j, W.cell? ⟨w.heap.size + 1, j, none⟩ = (#[.int .i64 k2, .string t2, .int .i64 b, .int .u64 f2, .string s2, .int .i64 q0, .int .i64 q1, .int .i64 q2, .int .i64 q3, p2, i2] : Array Value)[j]?))) := fun W hW => by
    rw [hW2] at hW
    exact two28 w _ _ W ((below1 _ _).trans (hW.mono (by simp)) |>.mono (by simp))
  have hB2 : Below w.heap.size w W2 := by rw [hW2]; exact below3 _ _ _ _
  have hrow : Hid (W2.heap[w.heap.size + 1 + 1]? = some (.cells #[.string ⟨#[]⟩, .string ⟨#[]⟩] 35 (0, 0))) := by rw [hW2]; exact heap3_2 _ _ _ _
  have hz2 : W2.heap.size = w.heap.size + 3 := by rw [hW2]; simp
  have h8 : (u ++ ⟨#[32]⟩ : ByteArray).size ≤ 140737488351234 := by rw [ByteArray.size_append]; show u.size + 1 ≤ _; omega
  have h11 : (u ++ ⟨#[32]⟩ ++ v : ByteArray).size ≤ 281474976702468 := by rw [ByteArray.size_append]; omega
  have h12 : (u ++ ⟨#[32]⟩ ++ v ++ ⟨#[32]⟩ : ByteArray).size ≤ 281474976702469 := by rw [ByteArray.size_append]; show _ + 1 ≤ _; omega
  go_enter Tryd.func46, Tryd.ntmps46
  go_wp2_with fail
  rw [← hW2]
  clear hW2
  refine wp_region_noPanic ?_
  refine wp_region_held (S := fun W => (∀ j, W.cell? ⟨w.heap.size, j, none⟩ = (#[.int .i64 k, .string t, .int .i64 a, .int .u64 f, .string s, .int .i64 r0, .int .i64 r1, .int .i64 r2, .int .i64 r3, p, i] : Array Value)[j]?) ∧ (∀ j, W.cell? ⟨w.heap.size + 1, j, none⟩ = (#[.int .i64 k2, .string t2, .int .i64 b, .int .u64 f2, .string s2, .int .i64 q0, .int .i64 q1, .int .i64 q2, .int .i64 q3, p2, i2] : Array Value)[j]?)) (by kernel_rfl) ?_
  obtain ⟨W4, hW4⟩ : ∃ W4, W4 = W2.drew := ⟨_, rfl⟩
  have e4 : ({ W2 with drawn := W2.drawn + 1 } : World) = W4 := hW4.symm
  rw [e4]
  have hB4 : Below (w.heap.size + 1 + 1 + 1) W2 W4 := by rw [hW4]; exact (Below.refl _ _).drew
  have hz4 : W4.heap.size = w.heap.size + 1 + 1 + 1 := by rw [hW4]; exact hz2
  have hS := HK.out W4 (hB4.mono (by omega))
  clear e4 hW4
  refine wpAnyH_take (i := 0) (v := .string u) rfl (by kernel_rfl) (by kernel_rfl) (by kernel_rfl) (fun _ _ _ h => h) (Or.inl ⟨by rfl, ?r⟩) hS ?_
  case r => intro W hW; simp [go_sem, execOp, Act.eval]
  simp only [List.getElem_toArray, List.getElem_cons_zero, Act.put, List.setIfInBounds_toArray, List.set_cons_succ, List.set_cons_zero]
  refine wpAnyH_take (i := 1) (v := .string (u ++ ⟨#[32]⟩)) rfl (by kernel_rfl) (by kernel_rfl) (by kernel_rfl) (fun _ _ _ h => h) (Or.inl ⟨by rfl, ?r⟩) hS ?_
  case r => intro W hW; simp [go_sem, execOp, Act.eval]; omega
  simp only [List.getElem_toArray, List.getElem_cons_zero, List.getElem_cons_succ, Act.put, List.setIfInBounds_toArray, List.set_cons_succ, List.set_cons_zero]
  refine wpAnyH_take (i := 2) (v := .agg #[.int .i64 k, .string t, .int .i64 a, .int .u64 f, .string s, .int .i64 r0, .int .i64 r1, .int .i64 r2, .int .i64 r3, p, i]) rfl (by kernel_rfl) (by kernel_rfl) (by kernel_rfl) (fun _ _ _ h => h) (Or.inl ⟨by rfl, ?r⟩) hS ?_
  case r => intro W hW; obtain ⟨h1, _⟩ := hW; simp [go_sem, execOp, Act.eval, h1]
  simp only [List.getElem_toArray, List.getElem_cons_zero, List.getElem_cons_succ, Act.put, List.setIfInBounds_toArray, List.set_cons_succ, List.set_cons_zero]
  refine wpAnyH_take (i := 6) (v := .agg #[.int .i64 k2, .string t2, .int .i64 b, .int .u64 f2, .string s2, .int .i64 q0, .int .i64 q1, .int .i64 q2, .int .i64 q3, p2, i2]) rfl (by kernel_rfl) (by kernel_rfl) (by kernel_rfl) (fun _ _ _ h => h) (Or.inl ⟨by rfl, ?r⟩) hS ?_
  case r => intro W hW; obtain ⟨_, h2⟩ := hW; simp [go_sem, execOp, Act.eval, h2]
  simp only [List.getElem_toArray, List.getElem_cons_zero, List.getElem_cons_succ, Act.put, List.setIfInBounds_toArray, List.set_cons_succ, List.set_cons_zero]
  refine wpAnyH_all (rs := [3]) (by kernel_rfl) (by simp) (fun i0 hi0 => ?_)
  obtain rfl : i0 = 3 := by simpa using hi0
  clear hi0
  refine wpOp_step rfl (fun K hK => ite_yes rfl ?_)
  simp only [List.getElem_toArray, List.getElem_cons_zero, List.getElem_cons_succ]
  go_simp
  refine (HN.out _).mono ?_
  rintro e w1 ⟨rfl, hb1⟩
  go_simp
  have hS1 := HK.out _ ((hB4.trans (hb1.mono (by omega))).mono (by omega))
  refine hK _ _ ⟨hS1, ?_⟩
  clear hK K
  try simp only [List.getElem_toArray, List.getElem_cons_zero, List.getElem_cons_succ, Act.put, List.setIfInBounds_toArray, List.set_cons_succ, List.set_cons_zero]
  refine wpAnyH_take (i := 4) (v := .string (u ++ ⟨#[32]⟩ ++ v)) rfl (by kernel_rfl) (by kernel_rfl) (by kernel_rfl) (fun _ _ _ h => h) (Or.inl ⟨by rfl, ?r⟩) hS1 ?_
  case r => intro W hW; simp [go_sem, execOp, Act.eval]; omega
  simp only [List.getElem_toArray, List.getElem_cons_zero, List.getElem_cons_succ, Act.put, List.setIfInBounds_toArray, List.set_cons_succ, List.set_cons_zero]
  refine wpAnyH_take (i := 5) (v := .string (u ++ ⟨#[32]⟩ ++ v ++ ⟨#[32]⟩)) rfl (by kernel_rfl) (by kernel_rfl) (by kernel_rfl) (fun _ _ _ h => h) (Or.inl ⟨by rfl, ?r⟩) hS1 ?_
  case r => intro W hW; simp [go_sem, execOp, Act.eval]; omega
  simp only [List.getElem_toArray, List.getElem_cons_zero, List.getElem_cons_succ, Act.put, List.setIfInBounds_toArray, List.set_cons_succ, List.set_cons_zero]
  refine wpAnyH_all (rs := [7]) (by kernel_rfl) (by simp) (fun i0 hi0 => ?_)
  obtain rfl : i0 = 7 := by simpa using hi0
  clear hi0
  refine wpOp_step rfl (fun K hK => ite_yes rfl ?_)
  simp only [List.getElem_toArray, List.getElem_cons_zero, List.getElem_cons_succ]
  go_simp
  refine (HM.out _).mono ?_
  rintro e w2 ⟨rfl, hb2⟩
  have hb := hb1.trans (hb2.mono hb1.size)
  go_simp
  have hS2 := HK.out _ ((hB4.trans (hb.mono (by omega))).mono (by omega))
  refine hK _ _ ⟨hS2, ?_⟩
  clear hK K
  refine wpAnyH_take (i := 8) (v := .string (u ++ ⟨#[32]⟩ ++ v ++ ⟨#[32]⟩ ++ v2)) rfl (by kernel_rfl) (by kernel_rfl) (by kernel_rfl) (fun _ _ _ h => h) (Or.inl ⟨by rfl, ?r⟩) hS2 ?_
  case r => intro W hW; simp [go_sem, execOp, Act.eval]; omega
  simp only [List.getElem_toArray, List.getElem_cons_zero, List.getElem_cons_succ, Act.put, List.setIfInBounds_toArray, List.set_cons_succ, List.set_cons_zero]
  refine wpAnyH_all (rs := [9]) (by kernel_rfl) (by simp) (fun i0 hi0 => ?_)
  obtain rfl : i0 = 9 := by simpa using hi0
  clear hi0
  refine wpOp_step rfl (fun K hK => ite_yes rfl ?_)
  simp only [List.getElem_toArray, List.getElem_cons_zero, List.getElem_cons_succ]
  go_simp
  refine (refFault_any _ _ _).mono ?_
  rintro e w3 ⟨rfl, b3⟩
  have hbb := hb.trans (b3.mono hb.size)
  have hS3 := HK.out _ ((hB4.trans (hbb.mono (by omega))).mono (by omega))
  go_simp
  refine hK _ _ ⟨hS3, ?_⟩
  clear hK K
  refine wpAnyH_all (rs := [10]) (by kernel_rfl) (by simp) (fun i0 hi0 => ?_)
  obtain rfl : i0 = 10 := by simpa using hi0
  clear hi0
  refine wpOp_step rfl (fun K hK => ite_yes rfl ?_)
  simp only [List.getElem_toArray, List.getElem_cons_zero, List.getElem_cons_succ]
  have hr3 := (hbb.block (w.heap.size + 1 + 1) (by omega)).trans ((hB4.block (w.heap.size + 1 + 1) (by omega)).trans hrow.out)
  refine wp_store_row 35 _ _ rfl (w.heap.size + 1 + 1) _ rfl rfl 35 _ hr3 info35 rfl (by simp [Value.oneCell']) ?_
  refine hK _ _ ⟨HK.out _ (brow ((hB4.trans (hbb.mono (by omega))).mono (by omega)) (Nat.le_refl _) _), ?_⟩
  clear hK K
  refine wpAnyH_done (by kernel_rfl) ?_ _
  refine NoPanic.normal ?_
  try simp only [Act.put]
  go_wp2_with fail
  refine bodyPost_ret (v := .agg #[.string ⟨#[111, 112, 101, 114, 97, 110, 100]⟩, .string (u ++ ⟨#[32]⟩ ++ v ++ ⟨#[32]⟩ ++ v2)]) (by simp [results, Tryd.results46, go_sem, row_cell35 hr3]) rfl ⟨rfl, ?_⟩
  exact brow ((hB2.trans (hB4.mono (by omega))).trans (hbb.mono (by omega))) (by omega) _
end Go.Proofs.YtoplmbboaobahaaDoor
