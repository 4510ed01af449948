/-
  The rest of Convert without paths: bools, ints made floats, and where there is no such conversion.
-/
import Derived.Test.YtoplmbboaobahaaDoorCw
import Derived.Test.YtoplmbboaobahaaDoorRc
namespace Go.Proofs.YtoplmbboaobahaaDoor
open Go.RowKit
attribute [local go_sem] refold2 cell3_0 cell3_1 cell4_0 cell4_1 cell4_2 frozen4_1 frozen4_2 b28_0 b28_01 b28_012 b28_013 b28_014 b35_01 b35_0 b35 mkI69 x56 x57

theorem canon_int (n : Int) : canon (floatOfInt .f64 n) = floatOfInt .f64 n := by
  unfold canon
  rw [Int.toNat_natCast, show isNan (floatOfInt .f64 n) = false from nearest_nan _ _ _]
  rfl

set_option maxRecDepth 100000 in
set_option maxHeartbeats 4000000 in
theorem refConvert_if (u t : ByteArray) (a f : Int) (s : ByteArray) (r0 r1 r2 r3 : Int) (p i : Value) (w : World) :
    Calls Tryd.prog 19 #[.int .i64 3, .string u, D 2 t a f s r0 r1 r2 r3 p i] w fun r w' => r = .returned (.tuple #[.agg #[.int .i64 3, .string u, .int .i64 0, .int .u64 (canon (floatOfInt .f64 a)), .string ⟨#[]⟩, .int .i64 0, .int .i64 0, .int .i64 0, .int .i64 0, .slice none 0 0, .slice none 0 0], .agg #[.string ⟨#[]⟩, .string ⟨#[]⟩]]) ∧ Below w.heap.size w w' := by
  rw [canon_int]
  simp only [D]
  go_enter Tryd.func19, Tryd.ntmps19
  go_wp2_with (go_at_call 53; refine (toBits_any _ _).mono ?_; rintro r w' ⟨rfl, rfl⟩)
  refine bodyPost_ret (v := .tuple #[.agg #[.int .i64 3, .string u, .int .i64 0, .int .u64 (floatOfInt .f64 a), .string ⟨#[]⟩, .int .i64 0, .int .i64 0, .int .i64 0, .int .i64 0, .slice none 0 0, .slice none 0 0], .agg #[.string ⟨#[]⟩, .string ⟨#[]⟩]]) (by simp [results, Tryd.results19, go_sem]) rfl ⟨rfl, below4 _ _ _ _ _⟩

set_option maxRecDepth 100000 in
set_option maxHeartbeats 1000000 in
theorem renamed_bool (u t : ByteArray) (a f : Int) (s : ByteArray) (r0 r1 r2 r3 : Int) (p i : Value) (w : World) (hu : u.size ≤ 140737488351232) :
    Calls Tryd.prog 54 #[.string u, D 1 t a f s r0 r1 r2 r3 p i] w fun r w' => r = .returned (dat 1 u a 0 ⟨#[]⟩) ∧ Below w.heap.size w w' := by
  simp only [dat, D]
  obtain ⟨W2, hW2⟩ : ∃ W2, W2 = (w.alloc (.cells #[.int .i64 1, .string t, .int .i64 a, .int .u64 f, .string s, .int .i64 r0, .int .i64 r1, .int .i64 r2, .int .i64 r3, p, i] 28)).alloc (.cells #[.int .i64 0, .string ⟨#[]⟩, .int .i64 0, .int .u64 0, .string ⟨#[]⟩, .int .i64 0, .int .i64 0, .int .i64 0, .int .i64 0, .slice none 0 0, .slice none 0 0] 28) := ⟨_, rfl⟩
  have HK : Hid (∀ W, Below (w.heap.size + 1) W2 W → W.cell? ⟨w.heap.size, 2, none⟩ = some (.int .i64 a)) := fun W hW => by
    rw [hW.cell (p := ⟨w.heap.size, 2, none⟩) (by simp), hW2, World.cell?_alloc_lt _ _ _ (by simp), World.cell?_alloc_new]; rfl
  have hrow : Hid (W2.heap[w.heap.size + 1]? = some (.cells zeros 28 (0, 0))) := by rw [hW2]; exact heap2_1 _ _ _
  have hB2 : Below w.heap.size w W2 := by rw [hW2]; exact below2 _ _ _
  have hz2 : W2.heap.size = w.heap.size + 2 := by rw [hW2]; simp
  go_enter Tryd.func54, Tryd.ntmps54
  go_wp2_with fail
  rw [← hW2]
  clear hW2
  refine wp_region_noPanic ?_
  refine wp_region_held (S := fun W => W.cell? ⟨w.heap.size, 2, none⟩ = some (.int .i64 a)) (by kernel_rfl) ?_
  obtain ⟨W4, hW4⟩ : ∃ W4, W4 = W2.drew := ⟨_, rfl⟩
  have e4 : ({ W2 with drawn := W2.drawn + 1 } : World) = W4 := hW4.symm
  rw [e4]
  have hB4 : Below (w.heap.size + 1 + 1) W2 W4 := by rw [hW4]; exact (Below.refl _ _).drew
  have hz4 : W4.heap.size = w.heap.size + 1 + 1 := by rw [hW4]; exact hz2
  have hS := HK.out W4 (hB4.mono (by omega))
  clear e4 hW4
  refine wpAnyH_take (i := 2) (v := .pointer (some ⟨w.heap.size, 2, none⟩)) rfl (by kernel_rfl) (by kernel_rfl) (by kernel_rfl) (fun _ _ _ h => h) (Or.inl ⟨by rfl, ?r⟩) hS ?_
  case r => intro W hW; simp [go_sem, execOp, Act.eval]
  simp only [List.getElem_toArray, List.getElem_cons_zero, List.getElem_cons_succ, Act.put, List.setIfInBounds_toArray, List.set_cons_succ, List.set_cons_zero]
  refine wpAnyH_take (i := 3) (v := .int .i64 a) rfl (by kernel_rfl) (by kernel_rfl) (by kernel_rfl) (fun _ _ _ h => h) (Or.inl ⟨by rfl, ?r⟩) hS ?_
  case r => intro W hW; simp [go_sem, execOp, Act.eval, hW]
  simp only [List.getElem_toArray, List.getElem_cons_zero, List.getElem_cons_succ, Act.put, List.setIfInBounds_toArray, List.set_cons_succ, List.set_cons_zero]
  refine wpAnyH_take (i := 0) (v := .string u) rfl (by kernel_rfl) (by kernel_rfl) (by kernel_rfl) (fun _ _ _ h => h) (Or.inl ⟨by rfl, ?r⟩) hS ?_
  case r => intro W hW; simp [go_sem, execOp, Act.eval]
  simp only [List.getElem_toArray, List.getElem_cons_zero, Act.put, List.setIfInBounds_toArray, List.set_cons_succ, List.set_cons_zero]
  refine wpAnyH_all (rs := [1]) (by kernel_rfl) (by simp) (fun i0 hi0 => ?_)
  obtain rfl : i0 = 1 := by simpa using hi0
  clear hi0
  refine wpOp_step rfl (fun K hK => ite_yes rfl ?_)
  simp only [List.getElem_toArray, List.getElem_cons_zero, List.getElem_cons_succ]
  go_simp
  refine (clone_any _ _ hu).mono ?_
  rintro e w1 ⟨rfl, hb⟩
  go_simp
  refine hK _ _ ⟨HK.out _ ((hB4.trans (hb.mono (by omega))).mono (by omega)), ?_⟩
  clear hK K
  refine wpAnyH_all (rs := [4]) (by kernel_rfl) (by simp) (fun i0 hi0 => ?_)
  obtain rfl : i0 = 4 := by simpa using hi0
  clear hi0
  refine wpOp_step rfl (fun K hK => ite_yes rfl ?_)
  simp only [List.getElem_toArray, List.getElem_cons_zero, List.getElem_cons_succ]
  go_simp
  refine hK _ _ ⟨HK.out _ ((hB4.trans (hb.mono (by omega))).mono (by omega)), ?_⟩
  clear hK K
  refine wpAnyH_all (rs := [5]) (by kernel_rfl) (by simp) (fun i0 hi0 => ?_)
  obtain rfl : i0 = 5 := by simpa using hi0
  clear hi0
  refine wpOp_step rfl (fun K hK => ite_yes rfl ?_)
  simp only [List.getElem_toArray, List.getElem_cons_zero, List.getElem_cons_succ]
  have hr3 := (hb.block (w.heap.size + 1) (by omega)).trans ((hB4.block (w.heap.size + 1) (by omega)).trans hrow.out)
  refine wp_store_row 28 _ _ rfl (w.heap.size + 1) _ rfl rfl 28 zeros hr3 info28 rfl (by simp [Value.oneCell']) ?_
  refine hK _ _ ⟨HK.out _ (brow ((hB4.trans (hb.mono (by omega))).mono (by omega)) (Nat.le_refl _) _), ?_⟩
  clear hK K
  refine wpAnyH_done (by kernel_rfl) ?_ _
  refine NoPanic.normal ?_
  try simp only [Act.put]
  go_wp2_with fail
  refine bodyPost_ret (v := .agg #[.int .i64 1, .string u, .int .i64 a, .int .u64 0, .string ⟨#[]⟩, .int .i64 0, .int .i64 0, .int .i64 0, .int .i64 0, .slice none 0 0, .slice none 0 0]) (by simp [results, Tryd.results54, go_sem, row_cell hr3]) rfl ⟨rfl, ?_⟩
  exact brow ((hB2.trans (hB4.mono (by omega))).trans (hb.mono (by omega))) (by omega) _

set_option maxRecDepth 100000 in
set_option maxHeartbeats 2000000 in
theorem convert_bool (u t : ByteArray) (a f : Int) (s : ByteArray) (r0 r1 r2 r3 : Int) (p i : Value) (w : World) (hu : u.size ≤ 140737488351232) :
    Calls Tryd.prog 18 #[.int .i64 1, .string u, D 1 t a f s r0 r1 r2 r3 p i] w fun r w' => r = .returned (.tuple #[dat 1 u a 0 ⟨#[]⟩, .nilIface]) ∧ Below w.heap.size w w' := by
  have HR : Hid (∀ W, Calls Tryd.prog 54 #[.string u, D 1 t a f s r0 r1 r2 r3 p i] W fun r w' => r = .returned (dat 1 u a 0 ⟨#[]⟩) ∧ Below W.heap.size W w') := fun W => renamed_bool u t a f s r0 r1 r2 r3 p i W hu
  clear hu
  simp only [dat, D] at HR ⊢
  go_enter Tryd.func18, Tryd.ntmps18
  go_wp2_with (go_at_call 54; refine (HR.out _).mono ?_; rintro r w' ⟨rfl, hb⟩; obtain ⟨⟨c0, c1, c2, c3, c4, c5, c6, c7, c8, c9, c10⟩, hf2⟩ := box_kept ((hb.block (w.heap.size + 1) (by simp)).trans (heap2_1 _ _ _)))
  refine bodyPost_ret (v := .tuple #[.agg #[.int .i64 1, .string u, .int .i64 a, .int .u64 0, .string ⟨#[]⟩, .int .i64 0, .int .i64 0, .int .i64 0, .int .i64 0, .slice none 0 0, .slice none 0 0], .nilIface]) (by simp [results, Tryd.results18, go_sem, c0, c1, c2, c3, c4, c5, c6, c7, c8, c9, c10]) rfl ⟨rfl, ?_⟩
  exact bset ((below2 w _ _).trans (hb.mono (by simp; omega))) (by omega) _ _ _ _ _ _ _ _ _ _ _

set_option maxRecDepth 100000 in
set_option maxHeartbeats 8000000 in
theorem refConvert_bad (k : Int) (u : ByteArray) (k' : Int) (t : ByteArray) (a f : Int) (s : ByteArray) (r0 r1 r2 r3 : Int) (p i : Value) (w : World) (hu : u.size ≤ 140737488351232) (ht : t.size ≤ 140737488351232) (h : noCv k k') :
    Calls Tryd.prog 19 #[.int .i64 k, .string u, D k' t a f s r0 r1 r2 r3 p i] w fun r w' => r = .returned (.tuple #[.agg #[.int .i64 0, .string ⟨#[]⟩, .int .i64 0, .int .u64 0, .string ⟨#[]⟩, .int .i64 0, .int .i64 0, .int .i64 0, .int .i64 0, .slice none 0 0, .slice none 0 0], .agg #[.string ⟨#[111, 112, 101, 114, 97, 110, 100]⟩, .string (opd u k' t)]]) ∧ Below w.heap.size w w' := by
  have HN : Hid (∀ W, Calls Tryd.prog 29 #[D k' t a f s r0 r1 r2 r3 p i] W fun r w' => r = .returned (.string (nm k' t)) ∧ Below W.heap.size W w') := fun W => refName_any k' t a f s r0 r1 r2 r3 p i W ht
  have hns := nm_size k' t ht
  unfold opd
  generalize nm k' t = v at HN hns ⊢
  have hus : (u ++ ⟨#[32]⟩ : ByteArray).size = u.size + 1 := by rw [ByteArray.size_append]; rfl
  obtain ⟨h1, h2, h3⟩ := h
  simp only [D] at HN ⊢
  by_cases hl : k < 1
  · clear h1 h2 h3
    go_enter Tryd.func19, Tryd.ntmps19
    go_wp2_with fail
    refine (HN.out _).mono ?_
    rintro r w1 ⟨rfl, b1⟩
    go_wp2_with fail
    refine (refFault_any _ _ _).mono ?_
    rintro r w2 ⟨rfl, b2⟩
    have hb := b1.trans (b2.mono b1.size)
    have R1 := (hb.block (w.heap.size + 1) (by simp)).trans (heap4_1 _ _ _ _ _)
    have R2 := (hb.block (w.heap.size + 1 + 1) (by simp)).trans (heap4_2 _ _ _ _ _)
    obtain ⟨⟨c0, c1, c2, c3, c4, c5, c6, c7, c8, c9, c10⟩, hf2⟩ := box_kept R1
    have g0 : w2.cell? ⟨w.heap.size + 1 + 1, 0, none⟩ = some (.string ⟨#[]⟩) := by unfold World.cell?; rw [R2]; rfl
    have g1 : w2.cell? ⟨w.heap.size + 1 + 1, 1, none⟩ = some (.string ⟨#[]⟩) := by unfold World.cell?; rw [R2]; rfl
    have gf : ∀ j, w2.frozen? ⟨w.heap.size + 1 + 1, j, none⟩ = false := fun j => fz _ _ _ _ j R2
    clear R1 R2
    go_wp2_with fail
    refine bodyPost_ret (v := .tuple #[.agg #[.int .i64 0, .string ⟨#[]⟩, .int .i64 0, .int .u64 0, .string ⟨#[]⟩, .int .i64 0, .int .i64 0, .int .i64 0, .int .i64 0, .slice none 0 0, .slice none 0 0], .agg #[.string ⟨#[111, 112, 101, 114, 97, 110, 100]⟩, .string (u ++ ⟨#[32]⟩ ++ v)]]) (by simp [results, Tryd.results19, go_sem, c0, c1, c2, c3, c4, c5, c6, c7, c8, c9, c10, g0, g1]) rfl ⟨rfl, ?_⟩
    have hq := bset ((below4 w _ _ _ _).trans (hb.mono (by simp; omega))) (by omega : w.heap.size ≤ w.heap.size + 1) (.int .i64 0) (.string ⟨#[]⟩) (.int .i64 0) (.int .u64 0) (.string ⟨#[]⟩) (.int .i64 0) (.int .i64 0) (.int .i64 0) (.int .i64 0) (.slice none 0 0) (.slice none 0 0)
    exact (hq.setCell (by show _ ≤ _; simp; omega) _).setCell (by show _ ≤ _; simp; omega) _
  · by_cases hg : 7 < k
    · clear h1 h2 h3
      go_enter Tryd.func19, Tryd.ntmps19
      go_wp2_with fail
      refine (HN.out _).mono ?_
      rintro r w1 ⟨rfl, b1⟩
      go_wp2_with fail
      refine (refFault_any _ _ _).mono ?_
      rintro r w2 ⟨rfl, b2⟩
      have hb := b1.trans (b2.mono b1.size)
      have R1 := (hb.block (w.heap.size + 1) (by simp)).trans (heap4_1 _ _ _ _ _)
      have R2 := (hb.block (w.heap.size + 1 + 1) (by simp)).trans (heap4_2 _ _ _ _ _)
      obtain ⟨⟨c0, c1, c2, c3, c4, c5, c6, c7, c8, c9, c10⟩, hf2⟩ := box_kept R1
      have g0 : w2.cell? ⟨w.heap.size + 1 + 1, 0, none⟩ = some (.string ⟨#[]⟩) := by unfold World.cell?; rw [R2]; rfl
      have g1 : w2.cell? ⟨w.heap.size + 1 + 1, 1, none⟩ = some (.string ⟨#[]⟩) := by unfold World.cell?; rw [R2]; rfl
      have gf : ∀ j, w2.frozen? ⟨w.heap.size + 1 + 1, j, none⟩ = false := fun j => fz _ _ _ _ j R2
      clear R1 R2
      go_wp2_with fail
      refine bodyPost_ret (v := .tuple #[.agg #[.int .i64 0, .string ⟨#[]⟩, .int .i64 0, .int .u64 0, .string ⟨#[]⟩, .int .i64 0, .int .i64 0, .int .i64 0, .int .i64 0, .slice none 0 0, .slice none 0 0], .agg #[.string ⟨#[111, 112, 101, 114, 97, 110, 100]⟩, .string (u ++ ⟨#[32]⟩ ++ v)]]) (by simp [results, Tryd.results19, go_sem, c0, c1, c2, c3, c4, c5, c6, c7, c8, c9, c10, g0, g1]) rfl ⟨rfl, ?_⟩
      have hq := bset ((below4 w _ _ _ _).trans (hb.mono (by simp; omega))) (by omega : w.heap.size ≤ w.heap.size + 1) (.int .i64 0) (.string ⟨#[]⟩) (.int .i64 0) (.int .u64 0) (.string ⟨#[]⟩) (.int .i64 0) (.int .i64 0) (.int .i64 0) (.int .i64 0) (.slice none 0 0) (.slice none 0 0)
      exact (hq.setCell (by show _ ≤ _; simp; omega) _).setCell (by show _ ≤ _; simp; omega) _
    · have q1 : (k == k') = false := by simp; intro hk; have := h1 hk; omega
      clear h1
      by_cases k2 : k = 2
      · have k3 : (k' == 3) = false := by simpa using fun e => h2 ⟨k2, e⟩
        clear h2 h3
        subst k2
        go_enter Tryd.func19, Tryd.ntmps19
        go_wp2_with fail
        refine (HN.out _).mono ?_
        rintro r w1 ⟨rfl, b1⟩
        go_wp2_with fail
        refine (refFault_any _ _ _).mono ?_
        rintro r w2 ⟨rfl, b2⟩
        have hb := b1.trans (b2.mono b1.size)
        have R1 := (hb.block (w.heap.size + 1) (by simp)).trans (heap4_1 _ _ _ _ _)
        have R2 := (hb.block (w.heap.size + 1 + 1) (by simp)).trans (heap4_2 _ _ _ _ _)
        obtain ⟨⟨c0, c1, c2, c3, c4, c5, c6, c7, c8, c9, c10⟩, hf2⟩ := box_kept R1
        have g0 : w2.cell? ⟨w.heap.size + 1 + 1, 0, none⟩ = some (.string ⟨#[]⟩) := by unfold World.cell?; rw [R2]; rfl
        have g1 : w2.cell? ⟨w.heap.size + 1 + 1, 1, none⟩ = some (.string ⟨#[]⟩) := by unfold World.cell?; rw [R2]; rfl
        have gf : ∀ j, w2.frozen? ⟨w.heap.size + 1 + 1, j, none⟩ = false := fun j => fz _ _ _ _ j R2
        clear R1 R2
        go_wp2_with fail
        refine bodyPost_ret (v := .tuple #[.agg #[.int .i64 0, .string ⟨#[]⟩, .int .i64 0, .int .u64 0, .string ⟨#[]⟩, .int .i64 0, .int .i64 0, .int .i64 0, .int .i64 0, .slice none 0 0, .slice none 0 0], .agg #[.string ⟨#[111, 112, 101, 114, 97, 110, 100]⟩, .string (u ++ ⟨#[32]⟩ ++ v)]]) (by simp [results, Tryd.results19, go_sem, c0, c1, c2, c3, c4, c5, c6, c7, c8, c9, c10, g0, g1]) rfl ⟨rfl, ?_⟩
        have hq := bset ((below4 w _ _ _ _).trans (hb.mono (by simp; omega))) (by omega : w.heap.size ≤ w.heap.size + 1) (.int .i64 0) (.string ⟨#[]⟩) (.int .i64 0) (.int .u64 0) (.string ⟨#[]⟩) (.int .i64 0) (.int .i64 0) (.int .i64 0) (.int .i64 0) (.slice none 0 0) (.slice none 0 0)
        exact (hq.setCell (by show _ ≤ _; simp; omega) _).setCell (by show _ ≤ _; simp; omega) _
      · have q2 : (k == 2) = false := by simpa using k2
        by_cases k3 : k = 3
        · have k4 : (k' == 2) = false := by simpa using fun e => h3 ⟨k3, e⟩
          clear h2 h3
          subst k3
          go_enter Tryd.func19, Tryd.ntmps19
          go_wp2_with fail
          refine (HN.out _).mono ?_
          rintro r w1 ⟨rfl, b1⟩
          go_wp2_with fail
          refine (refFault_any _ _ _).mono ?_
          rintro r w2 ⟨rfl, b2⟩
          have hb := b1.trans (b2.mono b1.size)
          have R1 := (hb.block (w.heap.size + 1) (by simp)).trans (heap4_1 _ _ _ _ _)
          have R2 := (hb.block (w.heap.size + 1 + 1) (by simp)).trans (heap4_2 _ _ _ _ _)
          obtain ⟨⟨c0, c1, c2, c3, c4, c5, c6, c7, c8, c9, c10⟩, hf2⟩ := box_kept R1
          have g0 : w2.cell? ⟨w.heap.size + 1 + 1, 0, none⟩ = some (.string ⟨#[]⟩) := by unfold World.cell?; rw [R2]; rfl
          have g1 : w2.cell? ⟨w.heap.size + 1 + 1, 1, none⟩ = some (.string ⟨#[]⟩) := by unfold World.cell?; rw [R2]; rfl
          have gf : ∀ j, w2.frozen? ⟨w.heap.size + 1 + 1, j, none⟩ = false := fun j => fz _ _ _ _ j R2
          clear R1 R2
          go_wp2_with fail
          refine bodyPost_ret (v := .tuple #[.agg #[.int .i64 0, .string ⟨#[]⟩, .int .i64 0, .int .u64 0, .string ⟨#[]⟩, .int .i64 0, .int .i64 0, .int .i64 0, .int .i64 0, .slice none 0 0, .slice none 0 0], .agg #[.string ⟨#[111, 112, 101, 114, 97, 110, 100]⟩, .string (u ++ ⟨#[32]⟩ ++ v)]]) (by simp [results, Tryd.results19, go_sem, c0, c1, c2, c3, c4, c5, c6, c7, c8, c9, c10, g0, g1]) rfl ⟨rfl, ?_⟩
          have hq := bset ((below4 w _ _ _ _).trans (hb.mono (by simp; omega))) (by omega : w.heap.size ≤ w.heap.size + 1) (.int .i64 0) (.string ⟨#[]⟩) (.int .i64 0) (.int .u64 0) (.string ⟨#[]⟩) (.int .i64 0) (.int .i64 0) (.int .i64 0) (.int .i64 0) (.slice none 0 0) (.slice none 0 0)
          exact (hq.setCell (by show _ ≤ _; simp; omega) _).setCell (by show _ ≤ _; simp; omega) _
        · have q3 : (k == 3) = false := by simpa using k3
          clear h2 h3
          go_enter Tryd.func19, Tryd.ntmps19
          go_wp2_with fail
          refine (HN.out _).mono ?_
          rintro r w1 ⟨rfl, b1⟩
          go_wp2_with fail
          refine (refFault_any _ _ _).mono ?_
          rintro r w2 ⟨rfl, b2⟩
          have hb := b1.trans (b2.mono b1.size)
          have R1 := (hb.block (w.heap.size + 1) (by simp)).trans (heap4_1 _ _ _ _ _)
          have R2 := (hb.block (w.heap.size + 1 + 1) (by simp)).trans (heap4_2 _ _ _ _ _)
          obtain ⟨⟨c0, c1, c2, c3, c4, c5, c6, c7, c8, c9, c10⟩, hf2⟩ := box_kept R1
          have g0 : w2.cell? ⟨w.heap.size + 1 + 1, 0, none⟩ = some (.string ⟨#[]⟩) := by unfold World.cell?; rw [R2]; rfl
          have g1 : w2.cell? ⟨w.heap.size + 1 + 1, 1, none⟩ = some (.string ⟨#[]⟩) := by unfold World.cell?; rw [R2]; rfl
          have gf : ∀ j, w2.frozen? ⟨w.heap.size + 1 + 1, j, none⟩ = false := fun j => fz _ _ _ _ j R2
          clear R1 R2
          go_wp2_with fail
          refine bodyPost_ret (v := .tuple #[.agg #[.int .i64 0, .string ⟨#[]⟩, .int .i64 0, .int .u64 0, .string ⟨#[]⟩, .int .i64 0, .int .i64 0, .int .i64 0, .int .i64 0, .slice none 0 0, .slice none 0 0], .agg #[.string ⟨#[111, 112, 101, 114, 97, 110, 100]⟩, .string (u ++ ⟨#[32]⟩ ++ v)]]) (by simp [results, Tryd.results19, go_sem, c0, c1, c2, c3, c4, c5, c6, c7, c8, c9, c10, g0, g1]) rfl ⟨rfl, ?_⟩
          have hq := bset ((below4 w _ _ _ _).trans (hb.mono (by simp; omega))) (by omega : w.heap.size ≤ w.heap.size + 1) (.int .i64 0) (.string ⟨#[]⟩) (.int .i64 0) (.int .u64 0) (.string ⟨#[]⟩) (.int .i64 0) (.int .i64 0) (.int .i64 0) (.int .i64 0) (.slice none 0 0) (.slice none 0 0)
          exact (hq.setCell (by show _ ≤ _; simp; omega) _).setCell (by show _ ≤ _; simp; omega) _
end Go.Proofs.YtoplmbboaobahaaDoor
