/-
  Does an error say just that? It is its owner's: written over.
-/
import Derived.Test.YthbnegggohegkaaGreatDoorQoJ
import Derived.Test.YthbnegggohegkaaGreatDoorTtJ
namespace Go.Proofs.YthbnegggohegkaaGreatDoor
open Go.RowKit

set_option maxRecDepth 100000 in
set_option maxHeartbeats 4000000 in
theorem says_err (B : Nat) (code a : Int) (hc : (code == 0) = false) (s : ByteArray) (w : World) (hB0 : 0 < B) (hw : w.heap[B]? = some (.cells #[.int .i64 code, .int .i64 a, .string s] 28 (0, 0))) (hg : w.cell? ⟨0, 0, none⟩ = some (.iface 129 (.agg #[hnd 33]))) :
    Calls Tryz.prog 14 #[.iface 67 (.pointer (some ⟨B, 0, none⟩)), .agg #[.int .i64 code, .int .i64 a, .string s]] w fun e w' => e = .returned (.bool true) ∧ Chk B w w' := by
  have hlt := (Array.getElem?_eq_some_iff.1 hw).1
  have hb0 := below1 w (.cells #[.int .i64 code, .int .i64 a, .string s] 28)
  have HT : Hid _ := told_any B code a hc s (w.alloc (.cells #[.int .i64 code, .int .i64 a, .string s] 28)) ((hb0.block B hlt).trans hw) ((hb0.cell (p := ⟨0, 0, none⟩) (by show 0 < _; omega)).trans hg) (by simp)
  go_enter Tryz.func14, Tryz.ntmps14
  go_wp2_with fail
  refine Calls.mono HT.out ?_
  clear HT
  rintro e w2 ⟨rfl, hb2⟩
  have hz2 := hb2.size
  simp only [World.size_alloc] at hz2
  have hB2 : Below w.heap.size w w2 := hb0.trans (hb2.mono (by simp))
  have hr2 : w2.heap[w.heap.size]? = some (.cells #[.int .i64 code, .int .i64 a, .string s] 28 (0, 0)) := (hb2.block _ (by simp)).trans (heap_alloc_new w _)
  have s0 : w2.cell? ⟨w.heap.size, 0, none⟩ = some (.int .i64 code) := cell_row hr2 0
  have s1 : w2.cell? ⟨w.heap.size, 1, none⟩ = some (.int .i64 a) := cell_row hr2 1
  have s2 : w2.cell? ⟨w.heap.size, 2, none⟩ = some (.string s) := cell_row hr2 2
  have hw2 : w2.heap[B]? = some (.cells #[.int .i64 code, .int .i64 a, .string s] 28 (0, 0)) := (hB2.block B hlt).trans hw
  have hg2 := (hB2.cell (p := ⟨0, 0, none⟩) (by show 0 < _; omega)).trans hg
  have hb3 : Below w2.heap.size w2 (w2.alloc (.cells #[.int .i64 code, .int .i64 a, .string s] 28)) := below1 w2 _
  have hr3 : (w2.alloc (.cells #[.int .i64 code, .int .i64 a, .string s] 28)).heap[w2.heap.size]? = some (.cells #[.int .i64 code, .int .i64 a, .string s] 28 (0, 0)) := heap_alloc_new w2 _
  have hs3 : w2.heap.size < (w2.alloc (.cells #[.int .i64 code, .int .i64 a, .string s] 28)).heap.size := (Array.getElem?_eq_some_iff.1 hr3).1
  have hB3 : Below w.heap.size w (w2.alloc (.cells #[.int .i64 code, .int .i64 a, .string s] 28)) := hB2.trans (hb3.mono (by omega))
  have s0 : (w2.alloc (.cells #[.int .i64 code, .int .i64 a, .string s] 28)).cell? ⟨w.heap.size, 0, none⟩ = some (.int .i64 code) := cell_row ((hb3.block _ (by omega)).trans hr2) 0
  have s1 : (w2.alloc (.cells #[.int .i64 code, .int .i64 a, .string s] 28)).cell? ⟨w.heap.size, 1, none⟩ = some (.int .i64 a) := cell_row ((hb3.block _ (by omega)).trans hr2) 1
  have s2 : (w2.alloc (.cells #[.int .i64 code, .int .i64 a, .string s] 28)).cell? ⟨w.heap.size, 2, none⟩ = some (.string s) := cell_row ((hb3.block _ (by omega)).trans hr2) 2
  have t0 : (w2.alloc (.cells #[.int .i64 code, .int .i64 a, .string s] 28)).cell? ⟨w2.heap.size, 0, none⟩ = some (.int .i64 code) := cell_row hr3 0
  have t1 : (w2.alloc (.cells #[.int .i64 code, .int .i64 a, .string s] 28)).cell? ⟨w2.heap.size, 1, none⟩ = some (.int .i64 a) := cell_row hr3 1
  have t2 : (w2.alloc (.cells #[.int .i64 code, .int .i64 a, .string s] 28)).cell? ⟨w2.heap.size, 2, none⟩ = some (.string s) := cell_row hr3 2
  have hwB := (hB3.block B hlt).trans hw
  have hgB := (hB3.cell (p := ⟨0, 0, none⟩) (by show 0 < _; omega)).trans hg
  clear hb0 hb2 hr2 hw hg hb3 hr3 hB2
  have hn1 : (code != code) = false := by simp
  have hb4 := below1 (w2.alloc (.cells #[.int .i64 code, .int .i64 a, .string s] 28)) (.cells #[.pointer none] 67)
  have HA : Hid _ := as_any ⟨B, 0, none⟩ ⟨w2.heap.size + 1, 0, none⟩ (.pointer none) ((w2.alloc (.cells #[.int .i64 code, .int .i64 a, .string s] 28)).alloc (.cells #[.pointer none] 67)) ((hb4.cell (p := ⟨0, 0, none⟩) (by show 0 < _; omega)).trans hgB) (by simp) (by simp) (by simp) (by simp)
  go_wp2_with fail
  refine Calls.mono HA.out ?_
  clear HA
  rintro e w5 ⟨rfl, hw5⟩
  have hb5 : Below (w2.alloc (.cells #[.int .i64 code, .int .i64 a, .string s] 28)).heap.size ((w2.alloc (.cells #[.int .i64 code, .int .i64 a, .string s] 28)).alloc (.cells #[.pointer none] 67)) w5 := hw5 ▸ asW_below _ _ _ _ (by simp) (by simp)
  have q5 : w5.cell? ⟨w2.heap.size + 1, 0, none⟩ = some (.pointer (some ⟨B, 0, none⟩)) := by rw [hw5]; exact asW_cell _ _ _ (by simp) (by simp)
  have hB5 : Below w.heap.size w w5 := hB3.trans ((hb4.trans hb5).mono hB3.size)
  have hw6 : w5.heap[B]? = some (.cells #[.int .i64 code, .int .i64 a, .string s] 28 (0, 0)) := ((hb4.trans hb5).block B (by have := hB3.size; omega)).trans hwB
  obtain ⟨ocl, ofl⟩ := row_cells hw6
  have p0 := ocl 0
  have p1 := ocl 1
  have p2 := ocl 2
  have f0 := ofl 0
  have f1 := ofl 1
  have f2 := ofl 2
  simp only [List.getElem?_toArray, List.getElem?_cons_zero, List.getElem?_cons_succ] at p0 p1 p2
  have HK : Hid (Chk B w (((w5.setCell ⟨B, 0, none⟩ (.int .i64 99)).setCell ⟨B, 1, none⟩ (.int .i64 (-99))).setCell ⟨B, 2, none⟩ (.string ⟨#[111, 118, 101, 114]⟩))) := (((Chk.of hB5 (by omega)).trans (Chk.setAt B 0 _ _)).trans (Chk.setAt B 1 _ _)).trans (Chk.setAt B 2 _ _)
  clear ocl ofl hw5 hb5 hb4 hB5 hB3 hw6 hwB hgB s0 s1 s2 t0 t1 t2
  go_wp2_with fail
  go_ret
  exact ⟨rfl, HK.out⟩
set_option maxRecDepth 100000 in
set_option maxHeartbeats 4000000 in
theorem as_none (t : Value) (w : World) : Calls Tryz.prog 33 #[.nilIface, t] w fun e w' => e = .returned (.bool false) ∧ Below w.heap.size w w' := by
  go_enter Tryz.func33, Tryz.ntmps33
  go_wp2_with fail
  go_ret
  first | exact ⟨rfl, Below.refl _ _⟩ | exact ⟨rfl, below1 _ _⟩ | exact ⟨rfl, below2 _ _ _⟩ | exact ⟨rfl, below3 _ _ _ _⟩
set_option maxRecDepth 100000 in
set_option maxHeartbeats 4000000 in
theorem told_none (w : World) : Calls Tryz.prog 25 #[.nilIface] w fun e w' => e = .returned (.tuple #[.agg #[.int .i64 0, .int .i64 0, .string ⟨#[]⟩], .bool true]) ∧ Below w.heap.size w w' := by
  go_enter Tryz.func25, Tryz.ntmps25
  go_wp2_with fail
  refine bodyPost_ret (v := .tuple #[.agg #[.int .i64 0, .int .i64 0, .string ⟨#[]⟩], .bool true]) (by simp [results, Tryz.results25, go_sem]) rfl ⟨rfl, ?_⟩
  first | exact below1 _ _ | exact below2 _ _ _ | exact below3 _ _ _ _ | exact Below.refl _ _
set_option maxRecDepth 100000 in
set_option maxHeartbeats 4000000 in
theorem says_none (w : World) : Calls Tryz.prog 14 #[.nilIface, .agg #[.int .i64 0, .int .i64 0, .string ⟨#[]⟩]] w fun e w' => e = .returned (.bool true) ∧ Below w.heap.size w w' := by
  have hb0 := below1 w (.cells #[.int .i64 0, .int .i64 0, .string ⟨#[]⟩] 28)
  go_enter Tryz.func14, Tryz.ntmps14
  go_wp2_with fail
  refine (told_none _).mono ?_
  rintro e w2 ⟨rfl, hb2⟩
  have hz2 := hb2.size
  simp only [World.size_alloc] at hz2
  have hB2 : Below w.heap.size w w2 := hb0.trans (hb2.mono (by simp))
  have hr2 : w2.heap[w.heap.size]? = some (.cells #[.int .i64 0, .int .i64 0, .string ⟨#[]⟩] 28 (0, 0)) := (hb2.block _ (by simp)).trans (heap_alloc_new w _)
  have hb3 := below1 w2 (.cells #[.int .i64 0, .int .i64 0, .string ⟨#[]⟩] 28)
  have s0 : (w2.alloc (.cells #[.int .i64 0, .int .i64 0, .string ⟨#[]⟩] 28)).cell? ⟨w.heap.size, 0, none⟩ = some (.int .i64 0) := cell_row ((hb3.block _ (by omega)).trans hr2) 0
  have s1 : (w2.alloc (.cells #[.int .i64 0, .int .i64 0, .string ⟨#[]⟩] 28)).cell? ⟨w.heap.size, 1, none⟩ = some (.int .i64 0) := cell_row ((hb3.block _ (by omega)).trans hr2) 1
  have s2 : (w2.alloc (.cells #[.int .i64 0, .int .i64 0, .string ⟨#[]⟩] 28)).cell? ⟨w.heap.size, 2, none⟩ = some (.string ⟨#[]⟩) := cell_row ((hb3.block _ (by omega)).trans hr2) 2
  have hB4 : Below w.heap.size w ((w2.alloc (.cells #[.int .i64 0, .int .i64 0, .string ⟨#[]⟩] 28)).alloc (.cells #[.pointer none] 67)) := hB2.trans ((below2 w2 _ _).mono hB2.size)
  have hz4 : w.heap.size ≤ ((w2.alloc (.cells #[.int .i64 0, .int .i64 0, .string ⟨#[]⟩] 28)).alloc (.cells #[.pointer none] 67)).heap.size := hB4.size
  clear hb0 hb2 hr2 hb3 hB2
  go_wp2_with fail
  refine (as_none _ _).mono ?_
  rintro e w5 ⟨rfl, hb5⟩
  have HP : Hid (Below w.heap.size w w5) := hB4.trans (hb5.mono hz4)
  clear hb5 hB4 hz4 s0 s1 s2
  go_wp2_with fail
  go_ret
  exact ⟨rfl, HP.out⟩
end Go.Proofs.YthbnegggohegkaaGreatDoor
