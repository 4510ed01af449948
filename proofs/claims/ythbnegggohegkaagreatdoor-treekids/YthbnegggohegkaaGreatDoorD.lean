/-
  The walks of strings.Clone, lex.standing, lex.partLength, lex.isInt and lex.Name.
-/
import Derived.Test.YthbnegggohegkaaGreatDoorC
import Derived.Lib.UnsafeStr
import Derived.Lib.BufferWrite
import Derived.Lib.Walk
import Derived.Lib.Hide
namespace Go.Proofs.YthbnegggohegkaaGreatDoor
open Go.RowKit

theorem info5 : (Tryz.prog.info? 5).map (fun i => (i.zero, i.size, i.bytes)) = some (some (.int .u8 0), 1, 1) := by kernel_rfl

set_option maxRecDepth 100000 in
set_option maxHeartbeats 1000000 in
/-- A copy of a text is that text; nothing that was there has turned. -/
theorem clone_any (s : ByteArray) (w : World) (hlim : s.size ≤ 60000) :
    Calls Tryz.prog 39 #[.string s] w fun e w' => e = .returned (.string s) ∧ Below w.heap.size w w' := by
  by_cases h0 : s.size = 0
  · obtain rfl : s = ⟨#[]⟩ := ByteArray.ext (Array.eq_empty_of_size_eq_zero h0)
    go_enter Tryz.func39, Tryz.ntmps39
    go_wp2
    go_ret
    exact ⟨rfl, Below.refl _ _⟩
  · obtain ⟨i0, hi, hz0, hz1, hz2⟩ := info_parts info5
    have hinfo : (Tryz.prog.info? 5).map (·.size) = some 1 := by rw [hi]; simp [hz1]
    have hco : Tryz.prog.cellsOf 5 = 1 := by kernel_rfl
    obtain ⟨M, hM⟩ : ∃ M, M = madeCells (Value.int .u8 0).cells (((s.size : Nat) : Int).toNat * i0.size) := ⟨_, rfl⟩
    have hMs : M.size = s.size := by rw [hM, size_madeCells, hz1]; simp
    have hmk : ∀ W : World, (Instr.makeSlice 82 (.int .i64 (s.size : Int)) (.int .i64 (s.size : Int))).run Tryz.prog W = .ok (.slice (some ⟨W.heap.size, 0, none⟩) s.size s.size) (W.alloc (.cells M 5)) := fun W => by
      have h := run_make (P := Tryz.prog) W 82 5 i0 (.int .u8 0) Tryz.underlying82 hi hz0 .i64 .i64 (s.size : Int) (s.size : Int) (by omega) (by omega) (by rw [hz2]; omega) (by omega)
      rw [← hM] at h
      simpa using h
    clear hM
    have hcp := Lib.run_copy_row_string (P := Tryz.prog) (w.alloc (.cells M 5)) 82 9 3 5 w.heap.size 0 s.size s.size s M 5 Tryz.underlying82 hinfo (heap_alloc_new w _) (Nat.le_refl _) (by omega)
    obtain ⟨Y, hY⟩ : ∃ Y, Y = (M.toList.take 0 ++ Lib.byteCells s.data.toList ++ M.toList.drop (0 + s.size)).toArray := ⟨_, rfl⟩
    rw [← hY] at hcp
    have hYl : Y.toList = Lib.byteCells s.data.toList := by
      rw [hY, List.toList_toArray, List.take_zero, List.nil_append, List.drop_of_length_le (by rw [Array.length_toList]; omega), List.append_nil]
    have hYs : Y.size = s.size := by rw [← Array.length_toList, hYl, Lib.byteCells_length, ← Lib.size_eq]
    have hgY : ((w.alloc (.cells M 5)).setRow w.heap.size Y).heap[w.heap.size]? = some (.cells Y 5 (0, 0)) := setRow_heap _ _ M _ 5 (0, 0) (heap_alloc_new w _)
    have hne : s.data.toList ≠ [] := fun e => h0 (by rw [Lib.size_eq, e]; rfl)
    have hUS := Lib.run_unsafeString_row (P := Tryz.prog) ((w.alloc (.cells M 5)).setRow w.heap.size Y) 141 3 9 5 Tryz.underlying141 hco w.heap.size Y.size (by unfold World.shape?; rw [hgY]) s.data.toList hne (by rw [← Lib.size_eq]; omega) (by rw [← Lib.size_eq]; omega)
      (fun j x hx => Lib.cells_of_row hgY Y.size j _ (by rw [List.take_of_length_le (by rw [Array.length_toList]; exact Nat.le_refl _), hYl]; simp [Lib.byteCells, hx]))
    rw [← Lib.size_eq] at hUS
    clear hY
    go_enter Tryz.func39, Tryz.ntmps39
    go_wp2
    go_ret
    have hb1 : Below w.heap.size w (w.alloc (.cells M 5)) := (Below.refl _ w).alloc (Nat.le_refl _) _
    have hb2 : Below w.heap.size (w.alloc (.cells M 5)) ((w.alloc (.cells M 5)).setRow w.heap.size Y) := ⟨rfl, rfl, rfl, by simp, fun k hk => setRow_other _ _ _ _ (by omega)⟩
    exact ⟨rfl, Lib.below_freeze (hb1.trans hb2) (p := ⟨w.heap.size, 0, none⟩) (Nat.le_refl _) _⟩

theorem bcell {W w1 : World} (hb : Below W.heap.size W w1) : (∀ b o, b < W.heap.size → w1.cell? ⟨b, o, none⟩ = W.cell? ⟨b, o, none⟩) ∧ (∀ b o, b < W.heap.size → w1.frozen? ⟨b, o, none⟩ = W.frozen? ⟨b, o, none⟩) :=
  ⟨fun b o h => hb.cell (p := ⟨b, o, none⟩) h, fun b o h => hb.frozen (p := ⟨b, o, none⟩) h⟩

set_option maxHeartbeats 400000 in
theorem standing_any (kind : Int) (s : ByteArray) (a e : Nat) (w : World) (hae : a ≤ e) (hes : e ≤ s.size) (hlim : s.size ≤ 60000) :
    Calls Tryz.prog 184 #[.int .i64 kind, .string s, .int .i64 a, .int .i64 e] w fun r w' => r = .returned (.agg #[.int .i64 kind, .string (s.extract a e), .int .i64 a]) ∧ Below w.heap.size w w' := by
  go_enter Tryz.func184, Tryz.ntmps184
  go_wp2_with (go_at_call 39; refine (clone_any _ _ (by simp; omega)).mono ?_; rintro r w' ⟨rfl, hb⟩; obtain ⟨hc, hf⟩ := bcell hb; have hz : w.heap.size < w'.heap.size := by (have := hb.size; simp at this; omega))
  refine bodyPost_ret (v := .agg #[.int .i64 kind, .string (s.extract a e), .int .i64 a]) (by simp [results, Tryz.results184, go_sem, hc]) rfl ⟨rfl, ?_⟩
  exact (((((Below.refl _ _).alloc (Nat.le_refl _) _).trans (hb.mono (by simp))).setCell (Nat.le_refl _) _).setCell (Nat.le_refl _) _).setCell (Nat.le_refl _) _

def partLen : Bytes → Nat
  | 46 :: r => spanB digitN r
  | _ => 0
theorem partLen_nil (l : Bytes) (h : l = []) : partLen l = 0 := by subst h; rfl
theorem partLen_not (l : Bytes) (h : l.head? ≠ some 46) : partLen l = 0 := by
  unfold partLen; split <;> simp_all
theorem partLen_dot (l : Bytes) (h : l.head? = some 46) : partLen l = spanB digitN (l.drop 1) := by
  cases l with
  | nil => simp at h
  | cons b r => simp at h; subst h; rfl

theorem head_byte (s : ByteArray) (h : 0 < s.size) : s.data.toList.head? = some (s[0]'h) := by
  rw [List.head?_eq_getElem?, List.getElem?_eq_getElem (by simpa using h)]; rfl

theorem empty_toList (s : ByteArray) (h : s.size = 0) : s = ⟨#[]⟩ := ByteArray.ext (Array.eq_empty_of_size_eq_zero h)

set_option maxHeartbeats 400000 in
theorem partLength_any (s : ByteArray) (w : World) :
    Calls Tryz.prog 185 #[.string s] w fun r w' => ∃ n : Nat, r = .returned (.int .i64 n) ∧ Hid (n = partLen s.data.toList) ∧ Below w.heap.size w w' := by
  by_cases h0 : s.size = 0
  · obtain rfl := empty_toList s h0
    go_enter Tryz.func185, Tryz.ntmps185
    go_wp2
    go_ret
    exact ⟨0, rfl, rfl, Below.refl _ _⟩
  · have hp : 0 < s.size := by omega
    have hne : s.toList.isEmpty = false := by rw [ByteArray.toList_eq]; cases h : s.data.toList with | nil => exact absurd (by rw [Lib.size_eq, h]; rfl) h0 | cons b r => rfl
    have hh := head_byte s hp
    have HH : Hid (s.data.toList.head? = some (s[0]'hp)) := hh
    clear hh
    go_enter Tryz.func185, Tryz.ntmps185
    go_wp2_with (go_at_call 151; refine (spanN_digit _ _).mono ?_; rintro r w' ⟨n, rfl, hn1, hn2, hb⟩)
    · have hq : (((s[0]'hp).toNat : Int) != 46) = true := by assumption
      go_ret
      refine ⟨0, rfl, (partLen_not _ ?_).symm, Below.refl _ _⟩
      rw [HH.out]
      intro h2
      have h3 := Option.some.inj h2
      rw [h3] at hq
      exact absurd hq (by decide)
    · have hq : (((s[0]'hp).toNat : Int) != 46) = false := by assumption
      go_ret
      refine ⟨n, rfl, ?_, hb⟩
      have h3 : s[0]'hp = 46 := by
        have h4 : (s[0]'hp).toNat = 46 := by simp at hq; omega
        exact UInt8.toNat_inj.1 h4
      rw [h3] at HH
      refine hn2.out.trans ?_
      rw [partLen_dot _ HH.out, Lib.extract_data, List.take_of_length_le (by simp)]

def greatest : Bytes := [57, 50, 50, 51, 51, 55, 50, 48, 51, 54, 56, 53, 52, 55, 55, 53, 56, 48, 55]
/-- Are these digits an int's? -/
def intOk (l : Bytes) : Bool := if l.length = 19 then Op.bytesLess l greatest || l == greatest else decide (l.length < 19)

set_option maxHeartbeats 400000 in
theorem isInt_any (s : ByteArray) (w : World) :
    Calls Tryz.prog 186 #[.string s] w fun r w' => r = .returned (.bool (intOk s.toList)) ∧ w' = w := by
  have hl : s.toList.length = s.size := by rw [ByteArray.toList_eq]; simp
  by_cases h : s.size = 19
  · have H : Hid (s.size = 19) := h
    have hi : ((s.size : Int) != 19) = false := by simp [h]
    clear h
    go_enter Tryz.func186, Tryz.ntmps186
    go_wp2
    go_ret
    refine ⟨congrArg (fun b => Ending.returned (.bool b)) ?_, rfl⟩
    rw [intOk, if_pos (by rw [hl]; exact H.out)]
    rfl
  · have hi : ((s.size : Int) != 19) = true := by simp; omega
    go_enter Tryz.func186, Tryz.ntmps186
    go_wp2
    all_goals go_ret
    all_goals refine ⟨congrArg (fun b => Ending.returned (.bool b)) ?_, rfl⟩
    all_goals (rw [intOk, if_neg (by rw [hl]; exact h), hl]; simp; omega)
end Go.Proofs.YthbnegggohegkaaGreatDoor
