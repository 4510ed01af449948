/-
  The document's way to show a call's text.
-/
import Derived.Test.YtapakbibofnhkaaDoorDg
import Derived.Test.YtapakbibofnhkaaDoorM
import Derived.Lib.ConvBytes
namespace Go.Proofs.YtapakbibofnhkaaDoor
open Go.RowKit Go.ChangeMaps

theorem heap_setF {w : World} {b : Nat} {cs : Array Value} {t : TypeId} {fz : Nat × Nat} (h : w.heap[b]? = some (.cells cs t fz)) (j : Nat) (v : Value) : (w.setCell ⟨b, j, none⟩ v).heap[b]? = some (.cells (cs.setIfInBounds j v) t fz) := by
  have hlt := (Array.getElem?_eq_some_iff.1 h).1
  show (w.heap.modify b _)[b]? = _
  rw [Array.getElem?_eq_getElem (by rw [Array.size_modify]; exact hlt), Array.getElem_modify_self]
  have e := (Array.getElem?_eq_some_iff.1 h).2
  rw [e]
  rfl
/-- A row of bytes that a conversion has made. -/
def RowF (w : World) (g : Nat) (bs : List UInt8) : Prop := ∃ cs n, w.heap[g]? = some (.cells cs 5 (n, n + 1)) ∧ cs.size = n ∧ bs.length ≤ n ∧ cs.toList.take bs.length = Lib.byteCells bs
theorem RowF.get {w : World} {g : Nat} {bs : List UInt8} (h : RowF w g bs) (j : Nat) (x : UInt8) (hj : bs[j]? = some x) : w.cell? ⟨g, j, none⟩ = some (.int .u8 (x.toNat : Int)) ∧ w.frozen? ⟨g, j, none⟩ = false := by
  obtain ⟨cs, n, h1, h2, h3, h4⟩ := h
  have hl := (List.getElem?_eq_some_iff.1 hj).1
  have hc : cs[j]? = some (.int .u8 (x.toNat : Int)) := by
    have := byteCells_get bs j x hj
    rw [← h4, List.getElem?_take_of_lt hl, Array.getElem?_toList] at this
    exact this
  refine ⟨by simp [World.cell?, h1, hc], ?_⟩
  simp only [World.frozen?, h1]
  simp
  omega
theorem RowF.set {w : World} {g : Nat} {bs : List UInt8} (h : RowF w g bs) (j : Nat) (x : UInt8) : RowF (w.setCell ⟨g, j, none⟩ (.int .u8 (x.toNat : Int))) g (bs.set j x) := by
  obtain ⟨cs, n, h1, h2, h3, h4⟩ := h
  refine ⟨cs.setIfInBounds j (.int .u8 (x.toNat : Int)), n, heap_setF h1 j _, by simpa using h2, by simpa using h3, ?_⟩
  rw [List.length_set, Array.toList_setIfInBounds, List.take_set, h4, byteCells_set]
theorem RowF.lt {w : World} {g : Nat} {bs : List UInt8} (h : RowF w g bs) : g < w.heap.size := by obtain ⟨cs, n, h1, _⟩ := h; exact heap_lt h1
theorem conv_rowF {w : World} {g cap : Nat} {bs : List UInt8} (h : RowF w g bs) : (convert 57 9 (.slice (some ⟨g, 0, none⟩) bs.length cap)).run Tryd.prog w = .ok (.string ⟨bs.toArray⟩) w :=
  run_convert_bytes_back w 57 9 5 ⟨g, 0, none⟩ cap bs Tryd.underlying57 Tryd.underlying5 Tryd.underlying9 (fun j hj => by
    rw [add_flat', Nat.zero_add]
    exact (h.get j _ (List.getElem?_eq_getElem hj)).1)
/-- A text's bytes in a row of their own. -/
theorem conv_new (w : World) (s : ByteArray) : ∃ cap U, (convert 9 57 (.string s)).run Tryd.prog w = .ok (.slice (some ⟨w.heap.size, 0, none⟩) s.size cap) U ∧ Below w.heap.size w U ∧ RowF U w.heap.size s.data.toList := by
  refine ⟨_, _, Lib.run_convert_string_bytes (P := Tryd.prog) w 9 57 5 s Tryd.underlying9 Tryd.underlying57 Tryd.underlying5, ⟨rfl, rfl, rfl, by rw [Lib.bytesWorld_size]; omega, fun k hk => Lib.bytesWorld_at_old w 5 s k hk⟩, _, _, Lib.bytesWorld_at_new w 5 s, rfl, ?_, ?_⟩
  · unfold Lib.bytesCells; rw [Array.size_append, Array.size_map, Array.length_toList]; omega
  · unfold Lib.bytesCells
    rw [Array.toList_append, List.take_append_of_le_length (by simp), Array.toList_map]
    rw [List.take_of_length_le (by simp)]
    rfl
def qm (c : UInt8) : UInt8 := if c < 32 then 63 else c
/-- The first ones are shown. -/
def WRel (xs : List UInt8) (g : Nat) (w : World) (i : Value) (wr : World) : Prop := ∃ k : Nat, i = .int .i64 k ∧ k ≤ xs.length ∧ RowF wr g ((xs.take k).map qm ++ xs.drop k) ∧ Below w.heap.size w wr
theorem set_same {xs : List UInt8} {k : Nat} {x : UInt8} (h : xs[k]? = some x) : xs.set k x = xs := by
  apply List.ext_getElem?
  intro j
  rw [List.getElem?_set]
  by_cases hj : k = j
  · subst hj
    rw [if_pos rfl, h, if_pos (List.getElem?_eq_some_iff.1 h).1]
  · rw [if_neg hj]
theorem qm_step (xs : List UInt8) (k : Nat) (x : UInt8) (hx : xs[k]? = some x) : ((xs.take k).map qm ++ xs.drop k)[k]? = some x ∧ ((xs.take k).map qm ++ xs.drop k).set k (qm x) = (xs.take (k + 1)).map qm ++ xs.drop (k + 1) ∧ ((xs.take k).map qm ++ xs.drop k).length = xs.length := by
  have hk := (List.getElem?_eq_some_iff.1 hx).1
  have he := (List.getElem?_eq_some_iff.1 hx).2
  have hl : ((xs.take k).map qm).length = k := by simp; omega
  refine ⟨?_, ?_, by simp; omega⟩
  · rw [List.getElem?_append_right (by omega), hl, Nat.sub_self, List.getElem?_drop]; simpa using hx
  · rw [List.set_append_right _ _ (by omega), hl, Nat.sub_self, List.take_succ_eq_append_getElem hk, List.drop_eq_getElem_cons hk, he]
    simp

set_option maxRecDepth 100000 in
set_option maxHeartbeats 4000000 in
theorem refShown_any (s : ByteArray) (w : World) :
    Calls Tryd.prog 28 #[.string s] w fun r w' => r = .returned (.string ⟨(shownB s).toArray⟩) ∧ Below w.heap.size w w' := by
  obtain ⟨x, hx⟩ : ∃ x, x = s.extract 0 (min (s.size : Int) 100).toNat := ⟨_, rfl⟩
  have hxl : x.data.toList = s.data.toList.take 100 := by
    rw [hx]
    have : (min (s.size : Int) 100).toNat = min s.size 100 := by omega
    rw [this]
    rw [ByteArray.data_extract, Array.toList_extract]
    simp
    exact Nat.min_comm _ _
  obtain ⟨cap, U, hcv, u0, rU⟩ := conv_new w x
  have hsz : x.size = x.data.toList.length := Lib.size_eq x
  have HSH : Hid (shownB s = x.data.toList.map qm) := by show _ = _; rw [hxl]; rfl
  have hxs : x.size ≤ 100 := by rw [hsz, hxl]; simp; omega
  generalize x.data.toList = xs at rU hsz HSH
  have H0 : Hid (WRel xs w.heap.size w (.int .i64 0) U) := ⟨0, rfl, Nat.zero_le _, by simpa using rU, u0⟩
  rw [hx] at hcv hsz hxs
  rw [hsz] at hcv
  generalize shownB s = R at HSH ⊢
  clear hxl rU u0
  go_enter Tryd.func28, Tryd.ntmps28
  go_wp2_with fail
  have hxs2 : xs.length ≤ 100 := by omega
  clear hcv hsz hxs
  go_loopw [4] (fun i wr => WRel xs w.heap.size w i wr) (fun i _ => xs.length - (intOf i).toNat)
  case atStart => exact H0.out
  case round =>
    obtain ⟨k, rfl, hk, hR, hb⟩ := hrel
    have HR : Hid _ := hR
    have HB : Hid _ := hb
    clear hR hb H0
    by_cases hlt : k < xs.length
    · have i1 : (k : Int) < xs.length := by omega
      obtain ⟨y, hy⟩ : ∃ y, xs[k]? = some y := ⟨_, List.getElem?_eq_getElem hlt⟩
      obtain ⟨q1, q2, q3⟩ := qm_step xs k y hy
      obtain ⟨c1, f1⟩ := RowF.get HR.out k y q1
      have HQ : Hid _ := q2
      have HQ1 : Hid _ := q1
      clear hy q1 q2 q3
      by_cases hc : y < 32
      · have j1 : y.toNat < 32 := by simpa [UInt8.lt_iff_toNat_lt] using hc
        have j2 : (y.toNat : Int) < 32 := by omega
        have HF : Hid (WRel xs w.heap.size w (.int .i64 ((k : Int) + 1)) (wr.setCell ⟨w.heap.size, k, none⟩ (.int .u8 63))) := by
          refine ⟨k + 1, by simp, hlt, ?_, HB.out.setCell (p := ⟨w.heap.size, k, none⟩) (Nat.le_refl _) _⟩
          rw [← HQ.out, show qm y = 63 by unfold qm; rw [if_pos hc]]
          exact RowF.set HR.out k 63
        clear hc
        go_wp2_with fail
        exact ⟨HF.out, by simp [intOf]; omega⟩
      · have j1 : ¬ y.toNat < 32 := by simpa [UInt8.lt_iff_toNat_lt] using hc
        have j2 : ¬ (y.toNat : Int) < 32 := by omega
        have HF : Hid (WRel xs w.heap.size w (.int .i64 ((k : Int) + 1)) wr) := by
          refine ⟨k + 1, by simp, hlt, ?_, HB.out⟩
          have h9 := HQ.out
          rw [show qm y = y by unfold qm; rw [if_neg hc]] at h9
          rw [← h9, set_same HQ1.out]
          exact HR.out
        clear hc
        go_wp2_with fail
        exact ⟨HF.out, by simp [intOf]; omega⟩
    · obtain rfl : k = xs.length := by omega
      have h7 := HR.out
      rw [List.take_length, List.drop_length, List.append_nil] at h7
      have hcv := conv_rowF (cap := cap) h7
      rw [List.length_map, ← HSH.out] at hcv
      clear h7
      go_wp2_with fail
      go_ret
      exact ⟨rfl, HB.out⟩
end Go.Proofs.YtapakbibofnhkaaDoor
