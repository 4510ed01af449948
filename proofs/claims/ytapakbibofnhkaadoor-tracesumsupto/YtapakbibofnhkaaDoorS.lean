/-
  A strings.Builder is written.
-/
import Derived.Test.YtapakbibofnhkaaDoorN
import Derived.Lib.AppendStr
namespace Go.Proofs.YtapakbibofnhkaaDoor
open Go.RowKit Go.ChangeMaps

/-- A builder that holds bytes. -/
def Bd (B b : Nat) (l : List UInt8) (w : World) : Prop := Lib.IsBuilder 74 5 B b (Lib.byteCells l) w
/-- What is neither a builder nor a row of bytes stays. -/
def Oth (w w' : World) : Prop := ∀ (x : Nat) (cs : Array Value) (t : TypeId) (fz : Nat × Nat), w.heap[x]? = some (.cells cs t fz) → t ≠ 5 → t ≠ 74 → w'.heap[x]? = some (.cells cs t fz)
theorem Oth.trans {w w' w'' : World} (h : Oth w w') (h' : Oth w' w'') : Oth w w'' := fun x cs t fz hx h5 h7 => h' x cs t fz (h x cs t fz hx h5 h7) h5 h7
theorem Oth.of {w w' : World} (h : Below w.heap.size w w') : Oth w w' := fun x _ _ _ hx _ _ => (h.block x (heap_lt hx)).trans hx
theorem Oth.set {w : World} {b : Nat} {cs : Array Value} (hb : w.heap[b]? = some (.cells cs 74)) (o : Nat) (v : Value) : Oth w (w.setCell ⟨b, o, none⟩ v) := fun x cs' t fz hx _ h7 => (heap_set_other _ _ _ _ _ (fun q => by
  rw [q, hb] at hx
  simp only [Option.some.injEq, Obj.cells.injEq] at hx
  exact h7 hx.2.1.symm)).trans hx
theorem Oth.grown {w w' : World} {B : Nat} {v : Value} {n : Nat} {xs : List Value} (hg : w.grownBy w' v.ownBlock) (ho : w.ownsRow B 5 1 v n xs) : Oth w w' := fun x cs t fz hx h5 _ => (hg.block x (heap_lt hx) (fun q => by
  rcases ho.2 with ⟨rfl, _⟩ | ⟨g, cap, cur, rfl, _, hh, _⟩
  · cases q
  · simp only [Value.ownBlock, Option.some.injEq] at q
    rw [q, hh] at hx
    simp only [Option.some.injEq, Obj.cells.injEq] at hx
    exact h5 hx.2.1.symm)).trans hx
theorem info5 : (Tryd.prog.info? 5).map (fun i => (i.zero, i.size, i.bytes)) = some (some (.int .u8 0), 1, 1) := by kernel_rfl
theorem info74 : (Tryd.prog.info? 74).map (·.size) = some 2 := by kernel_rfl
theorem neq_self (b : Nat) (W : World) : (binOp .neq 72 (.pointer (some ⟨b, 0, none⟩)) (.pointer (some ⟨b, 0, none⟩))).run Tryd.prog W = .ok (.bool false) W := by
  obtain ⟨j, hj, _⟩ := Option.map_eq_some_iff.1 info74
  exact Lib.run_neq_ptr_same (P := Tryd.prog) W ⟨b, 0, none⟩ Tryd.underlying72 hj
set_option maxRecDepth 100000 in
set_option maxHeartbeats 4000000 in
theorem check_old (b : Nat) (v : Value) (w : World) (hb : w.heap[b]? = some (.cells #[.pointer (some ⟨b, 0, none⟩), v] 74)) : Calls Tryd.prog 42 #[.pointer (some ⟨b, 0, none⟩)] w fun r w' => r = .returned (.tuple #[]) ∧ w' = w := by
  have hc := (cells_of hb).1
  have hn := neq_self b
  clear hb
  go_enter Tryd.func42, Tryd.ntmps42
  go_wp2_with fail
  exact bodyPost_end (results_none rfl _ _ _) rfl ⟨rfl, rfl⟩
set_option maxRecDepth 100000 in
set_option maxHeartbeats 4000000 in
theorem check_new (b : Nat) (v : Value) (w : World) (hb : w.heap[b]? = some (.cells #[.pointer none, v] 74)) : Calls Tryd.prog 42 #[.pointer (some ⟨b, 0, none⟩)] w fun r w' => r = .returned (.tuple #[]) ∧ w' = w.setCell ⟨b, 0, none⟩ (.pointer (some ⟨b, 0, none⟩)) := by
  obtain ⟨j, hj, hjs⟩ := Option.map_eq_some_iff.1 info74
  have hsh : w.shape? b = some (74, 2) := by simp [World.shape?, hb]
  have h1 := Lib.run_to_unsafe (P := Tryd.prog) w ⟨b, 0, none⟩ Tryd.underlying72 Tryd.underlying85 hj (by rw [hjs]; decide) hsh (Nat.zero_lt_succ 1)
  have h2 := Lib.run_from_unsafe (P := Tryd.prog) w ⟨b, 0, none⟩ Tryd.underlying85 Tryd.underlying72 hj hsh (by kernel_rfl)
  have h3 : (callFunc 45 #[.pointer (some ⟨b, 0, none⟩)]).run Tryd.prog w = .ok (.value (.pointer (some ⟨b, 0, none⟩))) w :=
    (run_callFunc_extern Tryd.func45 (by kernel_rfl) (by kernel_rfl) (by kernel_rfl) (e := Extern.AbiNoEscape.same) (by kernel_rfl) _ w).trans (by kernel_rfl)
  have hc := (cells_of hb).1
  have hf := (cells_of hb).2
  have hn := neq_self b
  clear hb hj hjs hsh
  go_enter Tryd.func42, Tryd.ntmps42
  go_wp2_with fail
  exact bodyPost_end (results_none rfl _ _ _) rfl ⟨rfl, rfl⟩
theorem check_any (B b : Nat) (bs : List Value) (w : World) (h : Lib.IsBuilder 74 5 B b bs w) : Calls Tryd.prog 42 #[.pointer (some ⟨b, 0, none⟩)] w fun r w' => r = .returned (.tuple #[]) ∧ Lib.BuilderAt 74 5 B b (.pointer (some ⟨b, 0, none⟩)) bs w' ∧ Below B w w' ∧ Oth w w' := by
  rcases h with h | h
  · obtain ⟨h1, v, h2, h3, h4⟩ := h
    exact (check_new b v w h2).mono fun e w' ⟨hr, hw⟩ => ⟨hr, by rw [hw]; exact Lib.BuilderAt.used ⟨h1, v, h2, h3, h4⟩ _, by rw [hw]; exact (Below.refl B w).setCell (p := ⟨b, 0, none⟩) h1 _, by rw [hw]; exact Oth.set h2 _ _⟩
  · obtain ⟨h1, v, h2, h3, h4⟩ := h
    exact (check_old b v w h2).mono fun e w' ⟨hr, hw⟩ => ⟨hr, by rw [hw]; exact ⟨h1, v, h2, h3, h4⟩, by rw [hw]; exact Below.refl B w, by rw [hw]; exact Oth.of (Below.refl _ _)⟩

set_option maxRecDepth 100000 in
set_option maxHeartbeats 4000000 in
theorem wByte (B b : Nat) (l : List UInt8) (c : UInt8) (w : World) (h : Bd B b l w) (hl : l.length + 1 ≤ 1073741824) (hB : B ≤ w.heap.size) :
    Calls Tryd.prog 37 #[.pointer (some ⟨b, 0, none⟩), .int .u8 (c.toNat : Int)] w fun r w' => r = .returned (.nilIface) ∧ Bd B b (l ++ [c]) w' ∧ Below B w w' ∧ Oth w w' := by
  obtain ⟨i0, hi, hz0, hz1, hz2⟩ := info_parts info5
  have HH : Hid (Lib.IsBuilder 74 5 B b (Lib.byteCells l) w) := h
  clear h
  go_enter Tryd.func37, Tryd.ntmps37
  go_wp2_with fail
  refine (check_any B b _ w HH.out).mono ?_
  rintro _ W1 ⟨rfl, ⟨hBb, v, hbx, hown, hne⟩, hb1, ho1⟩
  have HT1 : Hid (Oth w W1) := ho1
  have HB1 : Hid _ := hb1
  have HX : Hid _ := hbx
  have HO : Hid (W1.ownsRow B 5 1 v l.length (Lib.byteCells l)) := (by rw [show (Lib.byteCells l).length = l.length by simp [Lib.byteCells]] at hown; exact hown)
  have hc := (cells_of hbx).1
  have hlt1 := heap_lt hbx
  have hys := hb1.size
  have HNE : Hid _ := hne
  clear hbx hown hb1 hne ho1
  go_wp2_with (at_builtin; refine wpList_append_own _ rfl _ _ 57 rfl B 5 i0 (.int .u8 0) 1 1 Tryd.underlying57 hi hz0 hz1 hz2 rfl (by decide) _ _ _ rfl (HO.out.alloc _) ⟨W1.heap.size, 0, none⟩ 1 1 [.int .u8 (c.toNat : Int)] rfl rfl (cell_one_new W1 (.int .u8 (c.toNat : Int)) 5) (fun x hx => by simp at hx; subst hx; rfl) (by unfold maxLen; omega) (by omega) (by simp; omega) ?_; intro v' w3 hown3 hgr3 _; obtain ⟨vp, vc, rfl⟩ := own_slice hown3; have X3 : w3.heap[b]? = some (.cells #[.pointer (some ⟨b, 0, none⟩), v] 74) := (hgr3.block _ (by simp; omega) (fun q => HNE.out q.symm)).trans ((heap_old _ _ _ hlt1).trans HX.out); have cc3 := (cells_of X3).1; have ff3 := (cells_of X3).2; have HX3 : Hid _ := X3; have HB3 : Hid (Below B w w3) := (Below.grown (HB1.out.alloc (by omega) _) hgr3 (by simp; omega) (fun j hj => (HO.out.lt j hj).1)); have HO3 : Hid _ := hown3; have HT3 : Hid (Oth w w3) := (HT1.out.trans (Oth.of (below1 W1 _))).trans (Oth.grown hgr3 (HO.out.alloc _)); clear hown3 hgr3 X3)
  go_ret
  refine ⟨rfl, .inr ?_, HB3.out.setCell (p := ⟨b, 1, none⟩) hBb _, HT3.out.trans (Oth.set HX3.out _ _)⟩
  have h7 := Lib.BuilderAt.put (T := 74) (e := 5) hBb HX3.out (bs' := Lib.byteCells (l ++ [c])) (by
    have h8 := HO3.out
    rw [show (Lib.byteCells (l ++ [c])).length = l.length + 1 by simp [Lib.byteCells], show Lib.byteCells (l ++ [c]) = Lib.byteCells l ++ [.int .u8 (c.toNat : Int)] by simp [Lib.byteCells]]
    exact h8) (by decide)
  exact h7

set_option maxRecDepth 100000 in
set_option maxHeartbeats 4000000 in
theorem wStr (B b : Nat) (l : List UInt8) (s : ByteArray) (w : World) (h : Bd B b l w) (hl : l.length + s.size ≤ 1073741824) (hB : B ≤ w.heap.size) :
    Calls Tryd.prog 35 #[.pointer (some ⟨b, 0, none⟩), .string s] w fun r w' => r = .returned (.tuple #[.int .i64 (s.size : Int), .nilIface]) ∧ Bd B b (l ++ s.data.toList) w' ∧ Below B w w' ∧ Oth w w' := by
  obtain ⟨i0, hi, hz0, hz1, hz2⟩ := info_parts info5
  have HH : Hid (Lib.IsBuilder 74 5 B b (Lib.byteCells l) w) := h
  clear h
  go_enter Tryd.func35, Tryd.ntmps35
  go_wp2_with fail
  refine (check_any B b _ w HH.out).mono ?_
  rintro _ W1 ⟨rfl, ⟨hBb, v, hbx, hown, hne⟩, hb1, ho1⟩
  have HT1 : Hid (Oth w W1) := ho1
  have HB1 : Hid _ := hb1
  have HX : Hid _ := hbx
  have HO : Hid (W1.ownsRow B 5 1 v l.length (Lib.byteCells l)) := (by rw [show (Lib.byteCells l).length = l.length by simp [Lib.byteCells]] at hown; exact hown)
  have hc := (cells_of hbx).1
  have hlt1 := heap_lt hbx
  have hys := hb1.size
  have HNE : Hid _ := hne
  clear hbx hown hb1 hne ho1
  go_wp2_with (at_builtin; refine Lib.wpList_append_own_string _ rfl _ _ 57 9 rfl B 5 i0 Tryd.underlying57 Tryd.underlying9 hi hz0 hz1 hz2 _ _ _ rfl HO.out s rfl (by unfold maxLen; omega) (by omega) (by omega) ?_; intro v' w3 hown3 hgr3 _; obtain ⟨vp, vc, rfl⟩ := own_slice hown3; have X3 : w3.heap[b]? = some (.cells #[.pointer (some ⟨b, 0, none⟩), v] 74) := (hgr3.block _ (by omega) (fun q => HNE.out q.symm)).trans (HX.out); have cc3 := (cells_of X3).1; have ff3 := (cells_of X3).2; have HX3 : Hid _ := X3; have HB3 : Hid (Below B w w3) := (Below.grown HB1.out hgr3 (by omega) (fun j hj => (HO.out.lt j hj).1)); have HO3 : Hid _ := hown3; have HT3 : Hid (Oth w w3) := HT1.out.trans (Oth.grown hgr3 HO.out); clear hown3 hgr3 X3)
  go_ret2
  refine ⟨rfl, .inr ?_, HB3.out.setCell (p := ⟨b, 1, none⟩) hBb _, HT3.out.trans (Oth.set HX3.out _ _)⟩
  have h7 := Lib.BuilderAt.put (T := 74) (e := 5) hBb HX3.out (bs' := Lib.byteCells (l ++ s.data.toList)) (by
    have h8 := HO3.out
    rw [show (Lib.byteCells (l ++ s.data.toList)).length = l.length + s.size by simp [Lib.byteCells], show Lib.byteCells (l ++ s.data.toList) = Lib.byteCells l ++ Lib.strCells s by simp [Lib.byteCells, Lib.strCells]]
    exact h8) (by decide)
  exact h7

end Go.Proofs.YtapakbibofnhkaaDoor
