/-
  What key answers.
  key, case 0.
  key, case 1.
  key, case 2.
  key, case 3.
  key, case 4.
  key, case 5.
  key, case 6.
  key, case 7.
  key, case 8.
  key at any number.
-/
import Derived.Test.YtflonmlnedkmjaaDoorNdJ
import Derived.Test.YtflonmlnedkmjaaDoorPh2J
import Derived.Test.YtflonmlnedkmjaaDoorMiJ
import Derived.Lib.UnsafeStr
import Derived.Lib.BufferRead
namespace Go.Proofs.YtflonmlnedkmjaaDoor
open Go.RowKit
/-- What key answers. -/
def KeyP (n : Nat) (w : World) (r : Ending) (w' : World) : Prop := ∃ d : MD, r = .returned d.val ∧ MD.same 4 (keyR n) d = true ∧ MD.In w'.heap.size w' 4 d ∧ Below w.heap.size w w'
theorem keyP_of {n : Nat} {w w' : World} {d : MD} (h : MD.same 4 (keyR n) d = true) (hi : MD.In w'.heap.size w' 4 d) (hb : Below w.heap.size w w') : KeyP n w (.returned d.val) w' := ⟨d, rfl, h, hi, hb⟩
theorem keyP_flat {n : Nat} {w w' : World} {d : MD} (h : keyR n = d) (hi : MD.In w'.heap.size w' 4 d) (hb : Below w.heap.size w w') : KeyP n w (.returned d.val) w' := keyP_of (by rw [h]; exact same_self 4 _) hi hb
theorem flt_in (B : Nat) (w : World) {t : ByteArray} (ht : t.size ≤ 5) {n : Nat} (hn : n < 900) : MD.In B w 4 (fltD t n) := by
  have ht' : t.size ≤ maxLen := Nat.le_trans ht (by decide)
  refine flat_in B w _ ⟨?_, ?_, ?_, ?_, ?_, ?_, ?_, ?_, ?_, ?_, ?_, ?_, ?_, ?_, ?_, ?_, ?_, ?_⟩ rfl <;> first | exact ht' | decide | exact Nat.le_of_ble_eq_true rfl | (simp; done) | (simp; omega) | (simp only []; omega)
theorem nil_in (B : Nat) (w : World) : MD.In B w 4 nilD := by
  refine flat_in B w _ ⟨?_, ?_, ?_, ?_, ?_, ?_, ?_, ?_, ?_, ?_, ?_, ?_, ?_, ?_, ?_, ?_, ?_, ?_⟩ rfl <;> first | decide | exact Nat.le_of_ble_eq_true rfl | (simp; done) | (simp; omega) | omega
theorem intD_in (B : Nat) (w : World) {z : Int} (h0 : -9223372036854775808 ≤ z) (h1 : z ≤ 9223372036854775807) : MD.In B w 4 (intD z) := by
  refine flat_in B w _ ⟨?_, ?_, h0, h1, ?_, ?_, ?_, ?_, ?_, ?_, ?_, ?_, ?_, ?_, ?_, ?_, ?_, ?_⟩ rfl <;> first | decide | exact Nat.le_of_ble_eq_true rfl | (simp; done) | (simp; omega) | omega
theorem txt_in (B : Nat) (w : World) (s : ByteArray) (h : s.size ≤ maxLen) : MD.In B w 4 (txtD s) := by
  refine flat_in B w _ ⟨?_, ?_, ?_, ?_, ?_, ?_, ?_, ?_, ?_, ?_, ?_, ?_, ?_, ?_, ?_, h, ?_, ?_⟩ rfl <;> first | decide | exact Nat.le_of_ble_eq_true rfl | (simp; done) | (simp; omega) | omega
theorem ptr_in {w : World} {g n : Nat} (hn : n < 900) (hg : w.heap[g]? = some (.cells #[.int .i64 ((n % 30 : Nat) : Int)] 3 (0, 0))) : MD.In w.heap.size w 4 (ptrD (some ⟨g, 0, none⟩) n) := by
  refine ⟨⟨?_, ?_, ?_, ?_, ?_, ?_, ?_, ?_, ?_, ?_, ?_, ?_, ?_, ?_, ?_, ?_, ?_, ?_⟩, ⟨fun x hx => ?_, .inr ⟨g, 0, rfl, row_ltT hg, fun i hi => ?_⟩⟩, Nat.le_refl _, Nat.zero_le _, .inl rfl⟩
  case refine_19 =>
    rw [List.mem_singleton.1 hx]; omega
  case refine_20 =>
    obtain rfl : i = 0 := by simp [ptrD] at hi; exact hi
    exact row_at hg 0
  all_goals (simp only [ptrD]; first | decide | exact Nat.le_of_ble_eq_true rfl | (simp; done) | (simp; omega) | omega)
theorem items_in {w : World} {g : Nat} {t : ByteArray} (ht : t.size ≤ 5) {ds : List MD} {cs : Array Value} (hl : ds.length ≤ 2) (hg : w.heap[g]? = some (.cells cs 39 (0, 0))) (hc : ∀ (i : Nat) (hi : i < ds.length) (j : Nat), j < 11 → cs[0 + i * 11 + j]? = ds[i].cells[j]?) (hi : ∀ d ∈ ds, MD.In w.heap.size w 3 d) :
    MD.In w.heap.size w 4 ⟨⟨8, t, 0, 0, ⟨#[]⟩, 0, 0, 0, 0, none, [], 0⟩, some ⟨g, 0, none⟩, ds.length, ds⟩ := by
  have ht' : t.size ≤ maxLen := Nat.le_trans ht (by decide)
  have hl' : ds.length ≤ maxLen := Nat.le_trans hl (by decide)
  refine ⟨⟨?_, ?_, ?_, ?_, ?_, ?_, ?_, ?_, ?_, ?_, ?_, ?_, ?_, ?_, ?_, ?_, ?_, ?_⟩, ⟨by simp, .inl rfl⟩, Nat.le_refl _, hl', .inr ⟨g, 0, rfl, row_ltT hg, fun i hi' => ⟨fun j hj => (row_at hg _).trans (hc i hi' j hj), hi _ (List.getElem_mem hi')⟩⟩⟩ <;> first | exact ht' | decide | exact Nat.le_of_ble_eq_true rfl | (simp; done)
theorem whole_in3 (w : World) {n : Nat} (hn : n < 900) : MD.In w.heap.size w 3 (wholeD n) := by
  have h := whole_in w.heap.size w (n : Int) (by omega) (by omega)
  exact ⟨h.1, h.2.1, h.2.2.1, h.2.2.2.1, .inl rfl⟩
theorem nil_in3 (w : World) : MD.In w.heap.size w 3 nilD := by
  have h := nil_in w.heap.size w
  exact ⟨h.1, h.2.1, h.2.2.1, h.2.2.2.1, .inl rfl⟩
theorem key_ret {Q : Ending → World → Prop} {tmps : Array Value} {Y : World} {b : Nat} (d : MD) (h2 : tmps[2]? = some (.pointer (some ⟨b, 0, none⟩))) (hr : Y.heap[b]? = some (.cells d.cells 39 (0, 0))) (hq : Q (.returned d.val) Y) : bodyPost Tryd.prog Tryd.f9 Q Exit.ret ⟨tmps, []⟩ Y := by
  obtain ⟨⟨a0, a1, a2, a3, a4, a5, a6, a7, a8, ap, apath, apc⟩, aip, aic, ait⟩ := d
  simp only [MD.val, MD.cells, D] at hr hq
  have hc := fun j => row_at hr j
  refine bodyPost_ret (v := .agg #[.int .i64 a0, .string a1, .int .i64 a2, .int .u64 a3, .string a4, .int .i64 a5, .int .i64 a6, .int .i64 a7, .int .i64 a8, .slice ap apath.length apc, .slice aip ait.length aic]) ?_ rfl hq
  simp only [results, Tryd.results9]
  simp [go_sem, h2, hc]
theorem conv76 {W : World} {g : Nat} (t : List UInt8) (hh : W.heap[g]? = some (.cells (Lib.byteCells t).toArray 5 (0, 0))) : (convert 76 9 (.slice (some ⟨g, 0, none⟩) t.length t.length)).run Tryd.prog W = .ok (.string ⟨t.toArray⟩) W :=
  run_convert_bytes_back W 76 9 5 ⟨g, 0, none⟩ t.length t Tryd.underlying76 Tryd.underlying5 Tryd.underlying9 (Lib.bytes_of_row hh (by rw [← Lib.byteCells_length t]; exact List.take_length))
theorem kB_conv {W : World} {g n : Nat} (hn : n < 900) (hh : W.heap[g]? = some (.cells #[.int .u8 ((n : Int) % 256), .int .u8 ((n : Int) / 256)] 5 (0, 0))) : (convert 76 9 (.slice (some ⟨g, 0, none⟩) 2 2)).run Tryd.prog W = .ok (.string (kB n)) W := by
  refine conv76 [UInt8.ofNat n, UInt8.ofNat (n / 256)] ?_
  rw [hh]
  have e1 : ((UInt8.ofNat n).toNat : Int) = (n : Int) % 256 := by simp only [UInt8.toNat_ofNat']; omega
  have e2 : ((UInt8.ofNat (n / 256)).toNat : Int) = (n : Int) / 256 := by simp only [UInt8.toNat_ofNat']; omega
  simp only [Lib.byteCells, List.map_cons, List.map_nil, e1, e2]
end Go.Proofs.YtflonmlnedkmjaaDoor
namespace Go.Proofs.YtflonmlnedkmjaaDoor
open Go.RowKit
set_option maxRecDepth 100000 in
set_option maxHeartbeats 4000000 in
theorem key_0 {n : Nat} (hn : n < 900) (h : n % 9 = 0) (w : World) : Calls Tryd.prog 9 #[.int .i64 (n : Nat)] w (KeyP n w) := by
  have HP : Hid (∀ W, Calls Tryd.prog 7 #[.int .i64 (n : Nat), .int .i64 900] W fun r w' => r = .returned (.int .i64 (n : Nat)) ∧ w' = W) := fun W => pick_key hn W
  have HN : Hid (n < 900 ∧ n % 9 = 0) := ⟨hn, h⟩
  have hz0 : (0 : Int) ≤ (n : Int) := by omega
  have hz1 : (n : Int) < 900 := by omega
  have hz2 : (n : Int) % 9 = 0 := by omega
  have hz3 : (n : Int).tmod 9 = 0 := by rw [Int.tmod_eq_emod_of_nonneg (by omega)]; omega
  generalize hQ : KeyP n w = Q
  have HQ : Hid (KeyP n w = Q) := hQ
  clear hQ hn h
  obtain ⟨z, hz⟩ : ∃ z : Int, z = (n : Nat) := ⟨_, rfl⟩
  have HZ : Hid (z = (n : Nat)) := hz
  rw [← hz] at HP hz0 hz1 hz2 hz3 ⊢
  clear hz
  go_enter Tryd.func9, Tryd.ntmps9
  go_wp2_with fail
  refine (HP.out _).mono ?_
  rintro r w1 ⟨rfl, rfl⟩
  go_wp2_with fail
  refine (whole_val z _).mono ?_
  rintro r w2 ⟨rfl, b2⟩
  simp only [wholeD, MD.val, D]
  have hx2 : w2.heap[w.heap.size]? = some (.cells #[.int .i64 0, .string ⟨#[]⟩, .int .i64 0, .int .u64 0, .string ⟨#[]⟩, .int .i64 0, .int .i64 0, .int .i64 0, .int .i64 0, .slice none 0 0, .slice none 0 0] 39 (0, 0)) := (b2.block w.heap.size (by simp)).trans (heap_alloc_new _ _)
  have hq2 : Below w.heap.size w w2 := (below1 _ _).trans (b2.mono (by simp))
  have hc2 : ∀ j, w2.cell? ⟨w.heap.size, j, none⟩ = (#[.int .i64 0, .string ⟨#[]⟩, .int .i64 0, .int .u64 0, .string ⟨#[]⟩, .int .i64 0, .int .i64 0, .int .i64 0, .int .i64 0, .slice none 0 0, .slice none 0 0] : Array Value)[j]? := fun j => row_at hx2 j
  have hf2 := fun j => fz _ _ _ _ j hx2
  have hzz : w.heap.size < w2.heap.size := row_ltT hx2
  have HX : Hid (w2.heap[w.heap.size]? = some (.cells #[.int .i64 0, .string ⟨#[]⟩, .int .i64 0, .int .u64 0, .string ⟨#[]⟩, .int .i64 0, .int .i64 0, .int .i64 0, .int .i64 0, .slice none 0 0, .slice none 0 0] 39 (0, 0)) ∧ Below w.heap.size w w2) := ⟨hx2, hq2⟩
  clear b2 hx2 hq2
  go_wp2_with fail
  have hz := HZ.out
  subst hz
  refine key_ret (wholeD n) rfl (eleven_row HX.out.1 _ _ _ _ _ _ _ _ _ _ _) ?_
  rw [← HQ.out]
  exact keyP_flat (by simp [keyR, HN.out.2]) (whole_in _ _ _ (by omega) (by omega)) (bset HX.out.2 (Nat.le_refl _) _ _ _ _ _ _ _ _ _ _ _)
end Go.Proofs.YtflonmlnedkmjaaDoor
namespace Go.Proofs.YtflonmlnedkmjaaDoor
open Go.RowKit
set_option maxRecDepth 100000 in
set_option maxHeartbeats 4000000 in
theorem key_1 {n : Nat} (hn : n < 900) (h : n % 9 = 1) (w : World) : Calls Tryd.prog 9 #[.int .i64 (n : Nat)] w (KeyP n w) := by
  have HP : Hid (∀ W, Calls Tryd.prog 7 #[.int .i64 (n : Nat), .int .i64 900] W fun r w' => r = .returned (.int .i64 (n : Nat)) ∧ w' = W) := fun W => pick_key hn W
  have HN : Hid (n < 900 ∧ n % 9 = 1) := ⟨hn, h⟩
  have hz0 : (0 : Int) ≤ (n : Int) := by omega
  have hz1 : (n : Int) < 900 := by omega
  have hz2 : (n : Int) % 9 = 1 := by omega
  have hz3 : (n : Int).tmod 9 = 1 := by rw [Int.tmod_eq_emod_of_nonneg (by omega)]; omega
  generalize hQ : KeyP n w = Q
  have HQ : Hid (KeyP n w = Q) := hQ
  clear hQ hn h
  obtain ⟨z, hz⟩ : ∃ z : Int, z = (n : Nat) := ⟨_, rfl⟩
  have HZ : Hid (z = (n : Nat)) := hz
  rw [← hz] at HP hz0 hz1 hz2 hz3 ⊢
  clear hz
  go_enter Tryd.func9, Tryd.ntmps9
  go_wp2_with fail
  refine (HP.out _).mono ?_
  rintro r w1 ⟨rfl, rfl⟩
  go_wp2_with fail
  have hcv : (convert 76 9 (.slice (some ⟨w.heap.size + 1, 0, none⟩) 2 2)).run Tryd.prog ((w.alloc (.cells #[.int .i64 0, .string ⟨#[]⟩, .int .i64 0, .int .u64 0, .string ⟨#[]⟩, .int .i64 0, .int .i64 0, .int .i64 0, .int .i64 0, .slice none 0 0, .slice none 0 0] 39)).alloc (.cells #[.int .u8 (z % 256), .int .u8 (z / 256)] 5)) = .ok (.string (kB n)) ((w.alloc (.cells #[.int .i64 0, .string ⟨#[]⟩, .int .i64 0, .int .u64 0, .string ⟨#[]⟩, .int .i64 0, .int .i64 0, .int .i64 0, .int .i64 0, .slice none 0 0, .slice none 0 0] 39)).alloc (.cells #[.int .u8 (z % 256), .int .u8 (z / 256)] 5)) := by
    refine kB_conv HN.out.1 ?_
    have := heap_alloc_new (w.alloc (.cells #[.int .i64 0, .string ⟨#[]⟩, .int .i64 0, .int .u64 0, .string ⟨#[]⟩, .int .i64 0, .int .i64 0, .int .i64 0, .int .i64 0, .slice none 0 0, .slice none 0 0] 39)) (.cells #[.int .u8 (z % 256), .int .u8 (z / 256)] 5)
    rw [World.size_alloc] at this
    rw [this, HZ.out]
  rw [hcv]
  clear hcv
  go_wp2_with fail
  refine (text_val (kB n) _).mono ?_
  rintro r w2 ⟨rfl, b2⟩
  simp only [textD, MD.val, D]
  have hx2 : w2.heap[w.heap.size]? = some (.cells #[.int .i64 0, .string ⟨#[]⟩, .int .i64 0, .int .u64 0, .string ⟨#[]⟩, .int .i64 0, .int .i64 0, .int .i64 0, .int .i64 0, .slice none 0 0, .slice none 0 0] 39 (0, 0)) := (b2.block w.heap.size (by simp; omega)).trans ((Below.heap_alloc _ _ _ (by simp)).trans (heap_alloc_new _ _))
  have hq2 : Below w.heap.size w w2 := (below2 _ _ _).trans (b2.mono (by simp; omega))
  have hc2 : ∀ j, w2.cell? ⟨w.heap.size, j, none⟩ = (#[.int .i64 0, .string ⟨#[]⟩, .int .i64 0, .int .u64 0, .string ⟨#[]⟩, .int .i64 0, .int .i64 0, .int .i64 0, .int .i64 0, .slice none 0 0, .slice none 0 0] : Array Value)[j]? := fun j => row_at hx2 j
  have hf2 := fun j => fz _ _ _ _ j hx2
  have hzz : w.heap.size < w2.heap.size := row_ltT hx2
  have HX : Hid (w2.heap[w.heap.size]? = some (.cells #[.int .i64 0, .string ⟨#[]⟩, .int .i64 0, .int .u64 0, .string ⟨#[]⟩, .int .i64 0, .int .i64 0, .int .i64 0, .int .i64 0, .slice none 0 0, .slice none 0 0] 39 (0, 0)) ∧ Below w.heap.size w w2) := ⟨hx2, hq2⟩
  clear b2 hx2 hq2
  go_wp2_with fail
  have hz := HZ.out
  subst hz
  refine key_ret (textD (kB n)) rfl (eleven_row HX.out.1 _ _ _ _ _ _ _ _ _ _ _) ?_
  rw [← HQ.out]
  exact keyP_flat (by simp [keyR, HN.out.2]) (text_in _ _ _ (by unfold kB maxLen; simp [ByteArray.size])) (bset HX.out.2 (Nat.le_refl _) _ _ _ _ _ _ _ _ _ _ _)
end Go.Proofs.YtflonmlnedkmjaaDoor
namespace Go.Proofs.YtflonmlnedkmjaaDoor
open Go.RowKit
set_option maxRecDepth 100000 in
set_option maxHeartbeats 4000000 in
theorem key_2 {n : Nat} (hn : n < 900) (h : n % 9 = 2) (w : World) : Calls Tryd.prog 9 #[.int .i64 (n : Nat)] w (KeyP n w) := by
  have HP : Hid (∀ W, Calls Tryd.prog 7 #[.int .i64 (n : Nat), .int .i64 900] W fun r w' => r = .returned (.int .i64 (n : Nat)) ∧ w' = W) := fun W => pick_key hn W
  have HN : Hid (n < 900 ∧ n % 9 = 2) := ⟨hn, h⟩
  have hz0 : (0 : Int) ≤ (n : Int) := by omega
  have hz1 : (n : Int) < 900 := by omega
  have hz2 : (n : Int) % 9 = 2 := by omega
  have hz3 : (n : Int).tmod 9 = 2 := by rw [Int.tmod_eq_emod_of_nonneg (by omega)]; omega
  generalize hQ : KeyP n w = Q
  have HQ : Hid (KeyP n w = Q) := hQ
  clear hQ hn h
  obtain ⟨z, hz⟩ : ∃ z : Int, z = (n : Nat) := ⟨_, rfl⟩
  have HZ : Hid (z = (n : Nat)) := hz
  rw [← hz] at HP hz0 hz1 hz2 hz3 ⊢
  clear hz
  go_enter Tryd.func9, Tryd.ntmps9
  go_wp2_with fail
  refine (HP.out _).mono ?_
  rintro r w1 ⟨rfl, rfl⟩
  go_wp2_with fail
  have hz := HZ.out
  subst hz
  refine key_ret (fltD ⟨#[102, 108, 111, 97, 116]⟩ n) rfl (heap_alloc_new _ _) ?_
  rw [← HQ.out]
  exact keyP_flat (by simp [keyR, HN.out.2]) (flt_in _ _ (by decide) HN.out.1) (below1 _ _)
end Go.Proofs.YtflonmlnedkmjaaDoor
namespace Go.Proofs.YtflonmlnedkmjaaDoor
open Go.RowKit
set_option maxRecDepth 100000 in
set_option maxHeartbeats 4000000 in
theorem key_3 {n : Nat} (hn : n < 900) (h : n % 9 = 3) (w : World) : Calls Tryd.prog 9 #[.int .i64 (n : Nat)] w (KeyP n w) := by
  have HP : Hid (∀ W, Calls Tryd.prog 7 #[.int .i64 (n : Nat), .int .i64 900] W fun r w' => r = .returned (.int .i64 (n : Nat)) ∧ w' = W) := fun W => pick_key hn W
  have HN : Hid (n < 900 ∧ n % 9 = 3) := ⟨hn, h⟩
  have hz0 : (0 : Int) ≤ (n : Int) := by omega
  have hz1 : (n : Int) < 900 := by omega
  have hz2 : (n : Int) % 9 = 3 := by omega
  have hz3 : (n : Int).tmod 9 = 3 := by rw [Int.tmod_eq_emod_of_nonneg (by omega)]; omega
  generalize hQ : KeyP n w = Q
  have HQ : Hid (KeyP n w = Q) := hQ
  clear hQ hn h
  obtain ⟨z, hz⟩ : ∃ z : Int, z = (n : Nat) := ⟨_, rfl⟩
  have HZ : Hid (z = (n : Nat)) := hz
  rw [← hz] at HP hz0 hz1 hz2 hz3 ⊢
  clear hz
  go_enter Tryd.func9, Tryd.ntmps9
  go_wp2_with fail
  refine (HP.out _).mono ?_
  rintro r w1 ⟨rfl, rfl⟩
  by_cases h9 : z < 9
  · go_wp2_with fail
    have hz := HZ.out
    subst hz
    refine key_ret nilD rfl (heap_alloc_new _ _) ?_
    rw [← HQ.out]
    exact keyP_flat (by have : n < 9 := by omega
                        simp [keyR, HN.out.2, this]) (nil_in _ _) (below1 _ _)
  · go_wp2_with fail
    have hz := HZ.out
    subst hz
    refine key_ret (intD ((n : Int) - 3)) rfl (heap_alloc_new _ _) ?_
    rw [← HQ.out]
    exact keyP_flat (by have : ¬ n < 9 := by omega
                        simp [keyR, HN.out.2, this]) (intD_in _ _ (by omega) (by omega)) (below1 _ _)
end Go.Proofs.YtflonmlnedkmjaaDoor
namespace Go.Proofs.YtflonmlnedkmjaaDoor
open Go.RowKit
set_option maxRecDepth 100000 in
set_option maxHeartbeats 4000000 in
theorem key_4 {n : Nat} (hn : n < 900) (h : n % 9 = 4) (w : World) : Calls Tryd.prog 9 #[.int .i64 (n : Nat)] w (KeyP n w) := by
  have HP : Hid (∀ W, Calls Tryd.prog 7 #[.int .i64 (n : Nat), .int .i64 900] W fun r w' => r = .returned (.int .i64 (n : Nat)) ∧ w' = W) := fun W => pick_key hn W
  have HN : Hid (n < 900 ∧ n % 9 = 4) := ⟨hn, h⟩
  have hz0 : (0 : Int) ≤ (n : Int) := by omega
  have hz1 : (n : Int) < 900 := by omega
  have hz2 : (n : Int) % 9 = 4 := by omega
  have hz3 : (n : Int).tmod 9 = 4 := by rw [Int.tmod_eq_emod_of_nonneg (by omega)]; omega
  generalize hQ : KeyP n w = Q
  have HQ : Hid (KeyP n w = Q) := hQ
  clear hQ hn h
  obtain ⟨z, hz⟩ : ∃ z : Int, z = (n : Nat) := ⟨_, rfl⟩
  have HZ : Hid (z = (n : Nat)) := hz
  rw [← hz] at HP hz0 hz1 hz2 hz3 ⊢
  clear hz
  go_enter Tryd.func9, Tryd.ntmps9
  go_wp2_with fail
  refine (HP.out _).mono ?_
  rintro r w1 ⟨rfl, rfl⟩
  go_wp2_with fail
  have hz := HZ.out
  subst hz
  have e30 : (n : Int) % 30 = ((n % 30 : Nat) : Int) := by omega
  rw [e30]
  refine key_ret (ptrD (some ⟨w.heap.size + 1, 0, none⟩) n) rfl ((Below.heap_alloc _ _ _ (by simp)).trans (heap_alloc_new _ _)) ?_
  rw [← HQ.out]
  refine keyP_of (by simp [keyR, HN.out.2]; simp [MD.same, sameH, ptrD, all2]) (ptr_in HN.out.1 ?_) (below2 _ _ _)
  have := heap_alloc_new (w.alloc (.cells (ptrD (some ⟨w.heap.size + 1, 0, none⟩) n).cells 39)) (.cells #[.int .i64 ((n % 30 : Nat) : Int)] 3)
  rw [World.size_alloc] at this
  exact this
end Go.Proofs.YtflonmlnedkmjaaDoor
namespace Go.Proofs.YtflonmlnedkmjaaDoor
open Go.RowKit
set_option maxRecDepth 100000 in
set_option maxHeartbeats 4000000 in
theorem key_5 {n : Nat} (hn : n < 900) (h : n % 9 = 5) (w : World) : Calls Tryd.prog 9 #[.int .i64 (n : Nat)] w (KeyP n w) := by
  have HP : Hid (∀ W, Calls Tryd.prog 7 #[.int .i64 (n : Nat), .int .i64 900] W fun r w' => r = .returned (.int .i64 (n : Nat)) ∧ w' = W) := fun W => pick_key hn W
  have HN : Hid (n < 900 ∧ n % 9 = 5) := ⟨hn, h⟩
  have hz0 : (0 : Int) ≤ (n : Int) := by omega
  have hz1 : (n : Int) < 900 := by omega
  have hz2 : (n : Int) % 9 = 5 := by omega
  have hz3 : (n : Int).tmod 9 = 5 := by rw [Int.tmod_eq_emod_of_nonneg (by omega)]; omega
  generalize hQ : KeyP n w = Q
  have HQ : Hid (KeyP n w = Q) := hQ
  clear hQ hn h
  obtain ⟨z, hz⟩ : ∃ z : Int, z = (n : Nat) := ⟨_, rfl⟩
  have HZ : Hid (z = (n : Nat)) := hz
  rw [← hz] at HP hz0 hz1 hz2 hz3 ⊢
  clear hz
  go_enter Tryd.func9, Tryd.ntmps9
  go_wp2_with fail
  refine (HP.out _).mono ?_
  rintro r w1 ⟨rfl, rfl⟩
  go_wp2_with fail
  refine (whole_val z _).mono ?_
  rintro r w2 ⟨rfl, b2⟩
  simp only [wholeD, MD.val, D]
  have hx2 : w2.heap[w.heap.size]? = some (.cells #[.int .i64 0, .string ⟨#[]⟩, .int .i64 0, .int .u64 0, .string ⟨#[]⟩, .int .i64 0, .int .i64 0, .int .i64 0, .int .i64 0, .slice none 0 0, .slice none 0 0] 39 (0, 0)) := (b2.block w.heap.size (by simp)).trans (heap_alloc_new _ _)
  have hq2 : Below w.heap.size w w2 := (below1 _ _).trans (b2.mono (by simp))
  have hc2 : ∀ j, w2.cell? ⟨w.heap.size, j, none⟩ = (#[.int .i64 0, .string ⟨#[]⟩, .int .i64 0, .int .u64 0, .string ⟨#[]⟩, .int .i64 0, .int .i64 0, .int .i64 0, .int .i64 0, .slice none 0 0, .slice none 0 0] : Array Value)[j]? := fun j => row_at hx2 j
  have hf2 := fun j => fz _ _ _ _ j hx2
  have hzz : w.heap.size < w2.heap.size := row_ltT hx2
  have HX : Hid (w2.heap[w.heap.size]? = some (.cells #[.int .i64 0, .string ⟨#[]⟩, .int .i64 0, .int .u64 0, .string ⟨#[]⟩, .int .i64 0, .int .i64 0, .int .i64 0, .int .i64 0, .slice none 0 0, .slice none 0 0] 39 (0, 0)) ∧ Below w.heap.size w w2) := ⟨hx2, hq2⟩
  clear b2 hx2 hq2
  have hc3 : ∀ j, (w2.alloc (.cells #[.int .i64 2, .string ⟨#[105, 110, 116]⟩, .int .i64 z, .int .u64 0, .string ⟨#[]⟩, .int .i64 0, .int .i64 0, .int .i64 0, .int .i64 0, .slice none 0 0, .slice none 0 0, .int .i64 0, .string ⟨#[]⟩, .int .i64 0, .int .u64 0, .string ⟨#[]⟩, .int .i64 0, .int .i64 0, .int .i64 0, .int .i64 0, .slice none 0 0, .slice none 0 0] 39)).cell? ⟨w.heap.size, j, none⟩ = (#[.int .i64 0, .string ⟨#[]⟩, .int .i64 0, .int .u64 0, .string ⟨#[]⟩, .int .i64 0, .int .i64 0, .int .i64 0, .int .i64 0, .slice none 0 0, .slice none 0 0] : Array Value)[j]? := fun j => ((below1 w2 _).cell (p := ⟨w.heap.size, j, none⟩) hzz).trans (hc2 j)
  have hf3 : ∀ j, (w2.alloc (.cells #[.int .i64 2, .string ⟨#[105, 110, 116]⟩, .int .i64 z, .int .u64 0, .string ⟨#[]⟩, .int .i64 0, .int .i64 0, .int .i64 0, .int .i64 0, .slice none 0 0, .slice none 0 0, .int .i64 0, .string ⟨#[]⟩, .int .i64 0, .int .u64 0, .string ⟨#[]⟩, .int .i64 0, .int .i64 0, .int .i64 0, .int .i64 0, .slice none 0 0, .slice none 0 0] 39)).frozen? ⟨w.heap.size, j, none⟩ = false := fun j => (World.frozen?_of_block (a := ⟨w.heap.size, j, none⟩) ((below1 w2 _).block w.heap.size hzz)).trans (hf2 j)
  clear hc2 hf2
  have HZZ : Hid (w.heap.size < w2.heap.size) := hzz
  clear hzz
  go_wp2_with fail
  have hz := HZ.out
  subst hz
  have hzz := HZZ.out
  refine key_ret (twoD (some ⟨w2.heap.size, 0, none⟩) n) rfl (eleven_row (((below1 w2 _).block w.heap.size hzz).trans HX.out.1) _ _ _ _ _ _ _ _ _ _ _) ?_
  rw [← HQ.out]
  refine keyP_of (by simp [keyR, HN.out.2]; simp [MD.same, sameH, twoD, all2, wholeD, nilD]) (items_in (t := ⟨#[83]⟩) (by decide) (ds := [wholeD n, nilD]) (by simp) ((eleven_only _ _ _ (by omega) _ _ _ _ _ _ _ _ _ _ _).trans (heap_alloc_new _ _)) ?_ ?_) (bset (HX.out.2.trans ((below1 _ _).mono HX.out.2.size)) (Nat.le_refl _) _ _ _ _ _ _ _ _ _ _ _)
  · intro i hi j hj
    match i, hi with
    | 0, _ => rcases (by omega : j = 0 ∨ j = 1 ∨ j = 2 ∨ j = 3 ∨ j = 4 ∨ j = 5 ∨ j = 6 ∨ j = 7 ∨ j = 8 ∨ j = 9 ∨ j = 10) with rfl | rfl | rfl | rfl | rfl | rfl | rfl | rfl | rfl | rfl | rfl <;> rfl
    | 1, _ => rcases (by omega : j = 0 ∨ j = 1 ∨ j = 2 ∨ j = 3 ∨ j = 4 ∨ j = 5 ∨ j = 6 ∨ j = 7 ∨ j = 8 ∨ j = 9 ∨ j = 10) with rfl | rfl | rfl | rfl | rfl | rfl | rfl | rfl | rfl | rfl | rfl <;> rfl
    | i + 2, h => exact absurd h (by simp)
  · intro d hd
    simp only [List.mem_cons, List.not_mem_nil, or_false] at hd
    rcases hd with rfl | rfl
    · exact whole_in3 _ HN.out.1
    · exact nil_in3 _
end Go.Proofs.YtflonmlnedkmjaaDoor
namespace Go.Proofs.YtflonmlnedkmjaaDoor
open Go.RowKit
set_option maxRecDepth 100000 in
set_option maxHeartbeats 4000000 in
theorem key_6 {n : Nat} (hn : n < 900) (h : n % 9 = 6) (w : World) : Calls Tryd.prog 9 #[.int .i64 (n : Nat)] w (KeyP n w) := by
  have HP : Hid (∀ W, Calls Tryd.prog 7 #[.int .i64 (n : Nat), .int .i64 900] W fun r w' => r = .returned (.int .i64 (n : Nat)) ∧ w' = W) := fun W => pick_key hn W
  have HN : Hid (n < 900 ∧ n % 9 = 6) := ⟨hn, h⟩
  have hz0 : (0 : Int) ≤ (n : Int) := by omega
  have hz1 : (n : Int) < 900 := by omega
  have hz2 : (n : Int) % 9 = 6 := by omega
  have hz3 : (n : Int).tmod 9 = 6 := by rw [Int.tmod_eq_emod_of_nonneg (by omega)]; omega
  generalize hQ : KeyP n w = Q
  have HQ : Hid (KeyP n w = Q) := hQ
  clear hQ hn h
  obtain ⟨z, hz⟩ : ∃ z : Int, z = (n : Nat) := ⟨_, rfl⟩
  have HZ : Hid (z = (n : Nat)) := hz
  rw [← hz] at HP hz0 hz1 hz2 hz3 ⊢
  clear hz
  go_enter Tryd.func9, Tryd.ntmps9
  go_wp2_with fail
  refine (HP.out _).mono ?_
  rintro r w1 ⟨rfl, rfl⟩
  go_wp2_with fail
  refine (whole_val z _).mono ?_
  rintro r w2 ⟨rfl, b2⟩
  simp only [wholeD, MD.val, D]
  have hx2 : w2.heap[w.heap.size]? = some (.cells #[.int .i64 0, .string ⟨#[]⟩, .int .i64 0, .int .u64 0, .string ⟨#[]⟩, .int .i64 0, .int .i64 0, .int .i64 0, .int .i64 0, .slice none 0 0, .slice none 0 0] 39 (0, 0)) := (b2.block w.heap.size (by simp)).trans (heap_alloc_new _ _)
  have hq2 : Below w.heap.size w w2 := (below1 _ _).trans (b2.mono (by simp))
  have hc2 : ∀ j, w2.cell? ⟨w.heap.size, j, none⟩ = (#[.int .i64 0, .string ⟨#[]⟩, .int .i64 0, .int .u64 0, .string ⟨#[]⟩, .int .i64 0, .int .i64 0, .int .i64 0, .int .i64 0, .slice none 0 0, .slice none 0 0] : Array Value)[j]? := fun j => row_at hx2 j
  have hf2 := fun j => fz _ _ _ _ j hx2
  have hzz : w.heap.size < w2.heap.size := row_ltT hx2
  have HX : Hid (w2.heap[w.heap.size]? = some (.cells #[.int .i64 0, .string ⟨#[]⟩, .int .i64 0, .int .u64 0, .string ⟨#[]⟩, .int .i64 0, .int .i64 0, .int .i64 0, .int .i64 0, .slice none 0 0, .slice none 0 0] 39 (0, 0)) ∧ Below w.heap.size w w2) := ⟨hx2, hq2⟩
  clear b2 hx2 hq2
  have hc3 : ∀ j, (w2.alloc (.cells #[.int .i64 2, .string ⟨#[105, 110, 116]⟩, .int .i64 z, .int .u64 0, .string ⟨#[]⟩, .int .i64 0, .int .i64 0, .int .i64 0, .int .i64 0, .slice none 0 0, .slice none 0 0] 39)).cell? ⟨w.heap.size, j, none⟩ = (#[.int .i64 0, .string ⟨#[]⟩, .int .i64 0, .int .u64 0, .string ⟨#[]⟩, .int .i64 0, .int .i64 0, .int .i64 0, .int .i64 0, .slice none 0 0, .slice none 0 0] : Array Value)[j]? := fun j => ((below1 w2 _).cell (p := ⟨w.heap.size, j, none⟩) hzz).trans (hc2 j)
  have hf3 : ∀ j, (w2.alloc (.cells #[.int .i64 2, .string ⟨#[105, 110, 116]⟩, .int .i64 z, .int .u64 0, .string ⟨#[]⟩, .int .i64 0, .int .i64 0, .int .i64 0, .int .i64 0, .slice none 0 0, .slice none 0 0] 39)).frozen? ⟨w.heap.size, j, none⟩ = false := fun j => (World.frozen?_of_block (a := ⟨w.heap.size, j, none⟩) ((below1 w2 _).block w.heap.size hzz)).trans (hf2 j)
  clear hc2 hf2
  have HZZ : Hid (w.heap.size < w2.heap.size) := hzz
  clear hzz
  go_wp2_with fail
  have hz := HZ.out
  subst hz
  have hzz := HZZ.out
  refine key_ret (oneD (some ⟨w2.heap.size, 0, none⟩) n) rfl (eleven_row (((below1 w2 _).block w.heap.size hzz).trans HX.out.1) _ _ _ _ _ _ _ _ _ _ _) ?_
  rw [← HQ.out]
  refine keyP_of (by simp [keyR, HN.out.2]; simp [MD.same, sameH, oneD, all2, wholeD]) (items_in (t := ⟨#[83]⟩) (by decide) (ds := [wholeD n]) (by simp) ((eleven_only _ _ _ (by omega) _ _ _ _ _ _ _ _ _ _ _).trans (heap_alloc_new _ _)) ?_ ?_) (bset (HX.out.2.trans ((below1 _ _).mono HX.out.2.size)) (Nat.le_refl _) _ _ _ _ _ _ _ _ _ _ _)
  · intro i hi j hj
    match i, hi with
    | 0, _ => rcases (by omega : j = 0 ∨ j = 1 ∨ j = 2 ∨ j = 3 ∨ j = 4 ∨ j = 5 ∨ j = 6 ∨ j = 7 ∨ j = 8 ∨ j = 9 ∨ j = 10) with rfl | rfl | rfl | rfl | rfl | rfl | rfl | rfl | rfl | rfl | rfl <;> rfl
    | i + 1, h => exact absurd h (by simp)
  · intro d hd
    simp only [List.mem_cons, List.not_mem_nil, or_false] at hd
    subst hd
    exact whole_in3 _ HN.out.1
end Go.Proofs.YtflonmlnedkmjaaDoor
namespace Go.Proofs.YtflonmlnedkmjaaDoor
open Go.RowKit
set_option maxRecDepth 100000 in
set_option maxHeartbeats 4000000 in
theorem key_7 {n : Nat} (hn : n < 900) (h : n % 9 = 7) (w : World) : Calls Tryd.prog 9 #[.int .i64 (n : Nat)] w (KeyP n w) := by
  have HP : Hid (∀ W, Calls Tryd.prog 7 #[.int .i64 (n : Nat), .int .i64 900] W fun r w' => r = .returned (.int .i64 (n : Nat)) ∧ w' = W) := fun W => pick_key hn W
  have HN : Hid (n < 900 ∧ n % 9 = 7) := ⟨hn, h⟩
  have hz0 : (0 : Int) ≤ (n : Int) := by omega
  have hz1 : (n : Int) < 900 := by omega
  have hz2 : (n : Int) % 9 = 7 := by omega
  have hz3 : (n : Int).tmod 9 = 7 := by rw [Int.tmod_eq_emod_of_nonneg (by omega)]; omega
  generalize hQ : KeyP n w = Q
  have HQ : Hid (KeyP n w = Q) := hQ
  clear hQ hn h
  obtain ⟨z, hz⟩ : ∃ z : Int, z = (n : Nat) := ⟨_, rfl⟩
  have HZ : Hid (z = (n : Nat)) := hz
  rw [← hz] at HP hz0 hz1 hz2 hz3 ⊢
  clear hz
  go_enter Tryd.func9, Tryd.ntmps9
  go_wp2_with fail
  refine (HP.out _).mono ?_
  rintro r w1 ⟨rfl, rfl⟩
  go_wp2_with fail
  have hcv : (convert 76 9 (.slice (some ⟨w.heap.size + 1, 0, none⟩) 2 2)).run Tryd.prog ((w.alloc (.cells #[.int .i64 0, .string ⟨#[]⟩, .int .i64 0, .int .u64 0, .string ⟨#[]⟩, .int .i64 0, .int .i64 0, .int .i64 0, .int .i64 0, .slice none 0 0, .slice none 0 0] 39)).alloc (.cells #[.int .u8 (z % 256), .int .u8 (z / 256)] 5)) = .ok (.string (kB n)) ((w.alloc (.cells #[.int .i64 0, .string ⟨#[]⟩, .int .i64 0, .int .u64 0, .string ⟨#[]⟩, .int .i64 0, .int .i64 0, .int .i64 0, .int .i64 0, .slice none 0 0, .slice none 0 0] 39)).alloc (.cells #[.int .u8 (z % 256), .int .u8 (z / 256)] 5)) := by
    refine kB_conv HN.out.1 ?_
    have := heap_alloc_new (w.alloc (.cells #[.int .i64 0, .string ⟨#[]⟩, .int .i64 0, .int .u64 0, .string ⟨#[]⟩, .int .i64 0, .int .i64 0, .int .i64 0, .int .i64 0, .slice none 0 0, .slice none 0 0] 39)) (.cells #[.int .u8 (z % 256), .int .u8 (z / 256)] 5)
    rw [World.size_alloc] at this
    rw [this, HZ.out]
  rw [hcv]
  clear hcv
  go_wp2_with fail
  have hz := HZ.out
  subst hz
  refine key_ret (txtD (kB n)) rfl ((Below.heap_alloc _ _ _ (by simp)).trans (heap_alloc_new _ _)) ?_
  rw [← HQ.out]
  exact keyP_flat (by simp [keyR, HN.out.2]) (txt_in _ _ _ (by unfold kB maxLen; simp [ByteArray.size])) (below2 _ _ _)
end Go.Proofs.YtflonmlnedkmjaaDoor
namespace Go.Proofs.YtflonmlnedkmjaaDoor
open Go.RowKit
set_option maxRecDepth 100000 in
set_option maxHeartbeats 4000000 in
theorem key_8 {n : Nat} (hn : n < 900) (h : n % 9 = 8) (w : World) : Calls Tryd.prog 9 #[.int .i64 (n : Nat)] w (KeyP n w) := by
  have HP : Hid (∀ W, Calls Tryd.prog 7 #[.int .i64 (n : Nat), .int .i64 900] W fun r w' => r = .returned (.int .i64 (n : Nat)) ∧ w' = W) := fun W => pick_key hn W
  have HN : Hid (n < 900 ∧ n % 9 = 8) := ⟨hn, h⟩
  have hz0 : (0 : Int) ≤ (n : Int) := by omega
  have hz1 : (n : Int) < 900 := by omega
  have hz2 : (n : Int) % 9 = 8 := by omega
  have hz3 : (n : Int).tmod 9 = 8 := by rw [Int.tmod_eq_emod_of_nonneg (by omega)]; omega
  generalize hQ : KeyP n w = Q
  have HQ : Hid (KeyP n w = Q) := hQ
  clear hQ hn h
  obtain ⟨z, hz⟩ : ∃ z : Int, z = (n : Nat) := ⟨_, rfl⟩
  have HZ : Hid (z = (n : Nat)) := hz
  rw [← hz] at HP hz0 hz1 hz2 hz3 ⊢
  clear hz
  go_enter Tryd.func9, Tryd.ntmps9
  go_wp2_with fail
  refine (HP.out _).mono ?_
  rintro r w1 ⟨rfl, rfl⟩
  go_wp2_with fail
  have hz := HZ.out
  subst hz
  refine key_ret (fltD ⟨#[70]⟩ n) rfl (heap_alloc_new _ _) ?_
  rw [← HQ.out]
  exact keyP_flat (by simp [keyR, HN.out.2]) (flt_in _ _ (by decide) HN.out.1) (below1 _ _)
end Go.Proofs.YtflonmlnedkmjaaDoor
namespace Go.Proofs.YtflonmlnedkmjaaDoor
open Go.RowKit
theorem key_any {n : Nat} (hn : n < 900) (w : World) : Calls Tryd.prog 9 #[.int .i64 (n : Nat)] w (KeyP n w) := by
  have hr : n % 9 = 0 ∨ n % 9 = 1 ∨ n % 9 = 2 ∨ n % 9 = 3 ∨ n % 9 = 4 ∨ n % 9 = 5 ∨ n % 9 = 6 ∨ n % 9 = 7 ∨ n % 9 = 8 := by omega
  rcases hr with h | h | h | h | h | h | h | h | h
  · exact key_0 hn h w
  · exact key_1 hn h w
  · exact key_2 hn h w
  · exact key_3 hn h w
  · exact key_4 hn h w
  · exact key_5 hn h w
  · exact key_6 hn h w
  · exact key_7 hn h w
  · exact key_8 hn h w
end Go.Proofs.YtflonmlnedkmjaaDoor
