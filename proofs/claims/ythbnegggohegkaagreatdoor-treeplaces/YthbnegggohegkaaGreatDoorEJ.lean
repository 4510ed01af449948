/-
  The walks of strings.Clone, lex.standing, lex.partLength, lex.isInt and lex.Name.
  The walks of lex.nameAt, lex.signAt and lex.numberAt: the token that stands at a place, or what is wrong there.
-/
import Derived.Test.YthbnegggohegkaaGreatDoorC
import Derived.Lib.UnsafeStr
import Derived.Lib.BufferWrite
import Derived.Lib.Walk
import Derived.Lib.Hide
namespace Go.Proofs.YthbnegggohegkaaGreatDoor
open Go.RowKit

theorem info5 : (Tryz.prog.info? 5).map (fun i => (i.zero, i.size, i.bytes)) = some (some (.int .u8 0), 1, 1) := by kernel_rfl

set_option maxRecDepth 100000 in
set_option maxHeartbeats 1000000 in
/-- A copy of a text is that text; nothing that was there has turned. -/
theorem clone_any (s : ByteArray) (w : World) (hlim : s.size ≤ 60000) :
    Calls Tryz.prog 39 #[.string s] w fun e w' => e = .returned (.string s) ∧ Below w.heap.size w w' := by
  by_cases h0 : s.size = 0
  · obtain rfl : s = ⟨#[]⟩ := ByteArray.ext (Array.eq_empty_of_size_eq_zero h0)
    go_enter Tryz.func39, Tryz.ntmps39
    go_wp2
    go_ret
    exact ⟨rfl, Below.refl _ _⟩
  · obtain ⟨i0, hi, hz0, hz1, hz2⟩ := info_parts info5
    have hinfo : (Tryz.prog.info? 5).map (·.size) = some 1 := by rw [hi]; simp [hz1]
    have hco : Tryz.prog.cellsOf 5 = 1 := by kernel_rfl
    obtain ⟨M, hM⟩ : ∃ M, M = madeCells (Value.int .u8 0).cells (((s.size : Nat) : Int).toNat * i0.size) := ⟨_, rfl⟩
    have hMs : M.size = s.size := by rw [hM, size_madeCells, hz1]; simp
    have hmk : ∀ W : World, (Instr.makeSlice 82 (.int .i64 (s.size : Int)) (.int .i64 (s.size : Int))).run Tryz.prog W = .ok (.slice (some ⟨W.heap.size, 0, none⟩) s.size s.size) (W.alloc (.cells M 5)) := fun W => by
      have h := run_make (P := Tryz.prog) W 82 5 i0 (.int .u8 0) Tryz.underlying82 hi hz0 .i64 .i64 (s.size : Int) (s.size : Int) (by omega) (by omega) (by rw [hz2]; omega) (by omega)
      rw [← hM] at h
      simpa using h
    clear hM
    have hcp := Lib.run_copy_row_string (P := Tryz.prog) (w.alloc (.cells M 5)) 82 9 3 5 w.heap.size 0 s.size s.size s M 5 Tryz.underlying82 hinfo (heap_alloc_new w _) (Nat.le_refl _) (by omega)
    obtain ⟨Y, hY⟩ : ∃ Y, Y = (M.toList.take 0 ++ Lib.byteCells s.data.toList ++ M.toList.drop (0 + s.size)).toArray := ⟨_, rfl⟩
    rw [← hY] at hcp
    have hYl : Y.toList = Lib.byteCells s.data.toList := by
      rw [hY, List.toList_toArray, List.take_zero, List.nil_append, List.drop_of_length_le (by rw [Array.length_toList]; omega), List.append_nil]
    have hYs : Y.size = s.size := by rw [← Array.length_toList, hYl, Lib.byteCells_length, ← Lib.size_eq]
    have hgY : ((w.alloc (.cells M 5)).setRow w.heap.size Y).heap[w.heap.size]? = some (.cells Y 5 (0, 0)) := setRow_heap _ _ M _ 5 (0, 0) (heap_alloc_new w _)
    have hne : s.data.toList ≠ [] := fun e => h0 (by rw [Lib.size_eq, e]; rfl)
    have hUS := Lib.run_unsafeString_row (P := Tryz.prog) ((w.alloc (.cells M 5)).setRow w.heap.size Y) 141 3 9 5 Tryz.underlying141 hco w.heap.size Y.size (by unfold World.shape?; rw [hgY]) s.data.toList hne (by rw [← Lib.size_eq]; omega) (by rw [← Lib.size_eq]; omega)
      (fun j x hx => Lib.cells_of_row hgY Y.size j _ (by rw [List.take_of_length_le (by rw [Array.length_toList]; exact Nat.le_refl _), hYl]; simp [Lib.byteCells, hx]))
    rw [← Lib.size_eq] at hUS
    clear hY
    go_enter Tryz.func39, Tryz.ntmps39
    go_wp2
    go_ret
    have hb1 : Below w.heap.size w (w.alloc (.cells M 5)) := (Below.refl _ w).alloc (Nat.le_refl _) _
    have hb2 : Below w.heap.size (w.alloc (.cells M 5)) ((w.alloc (.cells M 5)).setRow w.heap.size Y) := ⟨rfl, rfl, rfl, by simp, fun k hk => setRow_other _ _ _ _ (by omega)⟩
    exact ⟨rfl, Lib.below_freeze (hb1.trans hb2) (p := ⟨w.heap.size, 0, none⟩) (Nat.le_refl _) _⟩

theorem bcell {W w1 : World} (hb : Below W.heap.size W w1) : (∀ b o, b < W.heap.size → w1.cell? ⟨b, o, none⟩ = W.cell? ⟨b, o, none⟩) ∧ (∀ b o, b < W.heap.size → w1.frozen? ⟨b, o, none⟩ = W.frozen? ⟨b, o, none⟩) :=
  ⟨fun b o h => hb.cell (p := ⟨b, o, none⟩) h, fun b o h => hb.frozen (p := ⟨b, o, none⟩) h⟩

set_option maxHeartbeats 400000 in
theorem standing_any (kind : Int) (s : ByteArray) (a e : Nat) (w : World) (hae : a ≤ e) (hes : e ≤ s.size) (hlim : s.size ≤ 60000) :
    Calls Tryz.prog 184 #[.int .i64 kind, .string s, .int .i64 a, .int .i64 e] w fun r w' => r = .returned (.agg #[.int .i64 kind, .string (s.extract a e), .int .i64 a]) ∧ Below w.heap.size w w' := by
  go_enter Tryz.func184, Tryz.ntmps184
  go_wp2_with (go_at_call 39; refine (clone_any _ _ (by simp; omega)).mono ?_; rintro r w' ⟨rfl, hb⟩; obtain ⟨hc, hf⟩ := bcell hb; have hz : w.heap.size < w'.heap.size := by (have := hb.size; simp at this; omega))
  refine bodyPost_ret (v := .agg #[.int .i64 kind, .string (s.extract a e), .int .i64 a]) (by simp [results, Tryz.results184, go_sem, hc]) rfl ⟨rfl, ?_⟩
  exact (((((Below.refl _ _).alloc (Nat.le_refl _) _).trans (hb.mono (by simp))).setCell (Nat.le_refl _) _).setCell (Nat.le_refl _) _).setCell (Nat.le_refl _) _

def partLen : Bytes → Nat
  | 46 :: r => spanB digitN r
  | _ => 0
theorem partLen_nil (l : Bytes) (h : l = []) : partLen l = 0 := by subst h; rfl
theorem partLen_not (l : Bytes) (h : l.head? ≠ some 46) : partLen l = 0 := by
  unfold partLen; split <;> simp_all
theorem partLen_dot (l : Bytes) (h : l.head? = some 46) : partLen l = spanB digitN (l.drop 1) := by
  cases l with
  | nil => simp at h
  | cons b r => simp at h; subst h; rfl

theorem head_byte (s : ByteArray) (h : 0 < s.size) : s.data.toList.head? = some (s[0]'h) := by
  rw [List.head?_eq_getElem?, List.getElem?_eq_getElem (by simpa using h)]; rfl

theorem empty_toList (s : ByteArray) (h : s.size = 0) : s = ⟨#[]⟩ := ByteArray.ext (Array.eq_empty_of_size_eq_zero h)

set_option maxHeartbeats 400000 in
theorem partLength_any (s : ByteArray) (w : World) :
    Calls Tryz.prog 185 #[.string s] w fun r w' => ∃ n : Nat, r = .returned (.int .i64 n) ∧ Hid (n = partLen s.data.toList) ∧ Below w.heap.size w w' := by
  by_cases h0 : s.size = 0
  · obtain rfl := empty_toList s h0
    go_enter Tryz.func185, Tryz.ntmps185
    go_wp2
    go_ret
    exact ⟨0, rfl, rfl, Below.refl _ _⟩
  · have hp : 0 < s.size := by omega
    have hne : s.toList.isEmpty = false := by rw [ByteArray.toList_eq]; cases h : s.data.toList with | nil => exact absurd (by rw [Lib.size_eq, h]; rfl) h0 | cons b r => rfl
    have hh := head_byte s hp
    have HH : Hid (s.data.toList.head? = some (s[0]'hp)) := hh
    clear hh
    go_enter Tryz.func185, Tryz.ntmps185
    go_wp2_with (go_at_call 151; refine (spanN_digit _ _).mono ?_; rintro r w' ⟨n, rfl, hn1, hn2, hb⟩)
    · have hq : (((s[0]'hp).toNat : Int) != 46) = true := by assumption
      go_ret
      refine ⟨0, rfl, (partLen_not _ ?_).symm, Below.refl _ _⟩
      rw [HH.out]
      intro h2
      have h3 := Option.some.inj h2
      rw [h3] at hq
      exact absurd hq (by decide)
    · have hq : (((s[0]'hp).toNat : Int) != 46) = false := by assumption
      go_ret
      refine ⟨n, rfl, ?_, hb⟩
      have h3 : s[0]'hp = 46 := by
        have h4 : (s[0]'hp).toNat = 46 := by simp at hq; omega
        exact UInt8.toNat_inj.1 h4
      rw [h3] at HH
      refine hn2.out.trans ?_
      rw [partLen_dot _ HH.out, Lib.extract_data, List.take_of_length_le (by simp)]

def greatest : Bytes := [57, 50, 50, 51, 51, 55, 50, 48, 51, 54, 56, 53, 52, 55, 55, 53, 56, 48, 55]
/-- Are these digits an int's? -/
def intOk (l : Bytes) : Bool := if l.length = 19 then Op.bytesLess l greatest || l == greatest else decide (l.length < 19)

set_option maxHeartbeats 400000 in
theorem isInt_any (s : ByteArray) (w : World) :
    Calls Tryz.prog 186 #[.string s] w fun r w' => r = .returned (.bool (intOk s.toList)) ∧ w' = w := by
  have hl : s.toList.length = s.size := by rw [ByteArray.toList_eq]; simp
  by_cases h : s.size = 19
  · have H : Hid (s.size = 19) := h
    have hi : ((s.size : Int) != 19) = false := by simp [h]
    clear h
    go_enter Tryz.func186, Tryz.ntmps186
    go_wp2
    go_ret
    refine ⟨congrArg (fun b => Ending.returned (.bool b)) ?_, rfl⟩
    rw [intOk, if_pos (by rw [hl]; exact H.out)]
    rfl
  · have hi : ((s.size : Int) != 19) = true := by simp; omega
    go_enter Tryz.func186, Tryz.ntmps186
    go_wp2
    all_goals go_ret
    all_goals refine ⟨congrArg (fun b => Ending.returned (.bool b)) ?_, rfl⟩
    all_goals (rw [intOk, if_neg (by rw [hl]; exact h), hl]; simp; omega)
end Go.Proofs.YthbnegggohegkaaGreatDoor
namespace Go.Proofs.YthbnegggohegkaaGreatDoor
open Go.RowKit

/-- A token: its kind, its text, its place; as a value. -/
def tokVal (k : Int) (t : ByteArray) (a : Int) : Value := .agg #[.int .i64 k, .string t, .int .i64 a]

/-- At block b lies what is wrong: its code, its place, no name. -/
structure WrongAt (w : World) (b : Nat) (c p : Int) : Prop where
  row : w.heap[b]? = some (.cells #[.int .i64 c, .int .i64 p, .string ⟨#[]⟩] 28 (0, 0))

theorem WrongAt.lt {w : World} {b : Nat} {c p : Int} (h : WrongAt w b c p) : b < w.heap.size := (Array.getElem?_eq_some_iff.1 h.row).1
theorem WrongAt.code {w : World} {b : Nat} {c p : Int} (h : WrongAt w b c p) : w.cell? ⟨b, 0, none⟩ = some (.int .i64 c) := by simp [World.cell?, h.row]
theorem WrongAt.place {w : World} {b : Nat} {c p : Int} (h : WrongAt w b c p) : w.cell? ⟨b, 1, none⟩ = some (.int .i64 p) := by simp [World.cell?, h.row]
theorem WrongAt.name {w : World} {b : Nat} {c p : Int} (h : WrongAt w b c p) : w.cell? ⟨b, 2, none⟩ = some (.string ⟨#[]⟩) := by simp [World.cell?, h.row]

theorem WrongAt.below {w w' : World} {b : Nat} {c p : Int} (h : WrongAt w b c p) {B : Nat} (hB : b < B) (hb : Below B w w') : WrongAt w' b c p :=
  ⟨(hb.block b hB).trans h.row⟩

theorem WrongAt.new (w : World) (c p : Int) : WrongAt (w.alloc (.cells #[.int .i64 c, .int .i64 p, .string ⟨#[]⟩] 28)) w.heap.size c p :=
  ⟨heap_alloc_new w _⟩

theorem WrongAt.setCell {w : World} {b : Nat} {c p : Int} (h : WrongAt w b c p) {q : Addr} (hq : q.block ≠ b) (v : Value) : WrongAt (w.setCell q v) b c p :=
  ⟨(Below.heap_setCell w q v b (Ne.symm hq)).trans h.row⟩

/-- What a reader of one token hands back: the token and the place behind it, or what is wrong. -/
inductive TokRes (w w' : World) (e : Ending) (a : Nat) : Except (Nat × Nat) (Nat × Bytes × Nat) → Prop
  | ok (k : Nat) (t : Bytes) (n : Nat) (he : e = .returned (.tuple #[.agg #[.int .i64 k, .string ⟨t.toArray⟩, .int .i64 a], .int .i64 n, .nilIface])) (hb : Below w.heap.size w w') : TokRes w w' e a (.ok (k, t, n))
  | error (c p b : Nat) (he : e = .returned (.tuple #[.agg #[.int .i64 0, .string ⟨#[]⟩, .int .i64 0], .int .i64 0, .iface 67 (.pointer (some ⟨b, 0, none⟩))])) (hlo : w.heap.size ≤ b) (hw : WrongAt w' b c p) (hb : Below w.heap.size w w') : TokRes w w' e a (.error (c, p))

theorem wrong_at (c a : Int) (w : World) :
    Calls Tryz.prog 154 #[.int .i64 c, .int .i64 a] w fun e w' => ∃ b, e = .returned (.iface 67 (.pointer (some ⟨b, 0, none⟩))) ∧ w.heap.size ≤ b ∧ WrongAt w' b c a ∧ Below w.heap.size w w' :=
  (wrong_any c a w).mono fun _ _ ⟨he, hw⟩ => ⟨_, he, Nat.le_refl _, by subst hw; exact WrongAt.new w c a, by subst hw; exact (Below.refl _ _).alloc (Nat.le_refl _) _⟩

def nameSpec (l : Bytes) (a : Nat) : Except (Nat × Nat) (Nat × Bytes × Nat) :=
  let n := spanB partN (l.drop a)
  if 40 < n then .error (13, a) else .ok (if isWord ((l.drop a).take n) then 3 else 2, (l.drop a).take n, a + n)

def zeroTok : Obj := .cells #[.int .i64 0, .string ⟨#[]⟩, .int .i64 0] 169

theorem extract_eq (s : ByteArray) (a e : Nat) : s.extract a e = ⟨((s.data.toList.drop a).take (e - a)).toArray⟩ := by
  apply ByteArray.ext
  apply Array.toList_inj.1
  rw [Lib.extract_data]

theorem extract_end (s : ByteArray) (a : Nat) : (s.extract a s.size).data.toList = s.data.toList.drop a := by
  rw [Lib.extract_data, List.take_of_length_le (by simp)]

theorem extract_add (s : ByteArray) (a n : Nat) : s.extract a (a + n) = ⟨((s.data.toList.drop a).take n).toArray⟩ := by rw [extract_eq, Nat.add_sub_cancel_left]

theorem name_fin (s : ByteArray) (a n : Nat) (b : Bool) (hn : n = spanB partN (s.data.toList.drop a)) (hle : ¬ 40 < n) (hw : isWord (s.extract a (a + n)).toList = b) :
    nameSpec s.data.toList a = .ok (if b then 3 else 2, (s.data.toList.drop a).take n, a + n) := by
  rw [extract_add, ByteArray.toList_eq] at hw
  simp only [nameSpec, ← hn]
  rw [if_neg hle]
  simp only [hw]

set_option maxHeartbeats 1000000 in
theorem nameAt_any {gw ow gs os : Nat} (s : ByteArray) (a : Nat) (w : World) (ht : TabsAt gw ow gs os w) (ha : a ≤ s.size) (hlim : s.size ≤ 60000) :
    Calls Tryz.prog 172 #[.string s, .int .i64 a] w fun e w' => TokRes w w' e a (nameSpec s.data.toList a) := by
  have hb0 : Below w.heap.size w (w.alloc (Obj.cells #[.int .i64 0, .string ⟨#[]⟩, .int .i64 0] 169)) := (Below.refl _ _).alloc (Nat.le_refl _) _
  have ht1 := ht.below (Nat.le_refl _) hb0
  have HB0 : Hid (Below w.heap.size w (w.alloc (Obj.cells #[.int .i64 0, .string ⟨#[]⟩, .int .i64 0] 169))) := hb0
  clear hb0
  go_enter Tryz.func172, Tryz.ntmps172
  go_wp2_with (go_at_call 151; refine (spanN_part _ _).mono ?_; rintro r w1 ⟨n, rfl, hn1, hn2, hb1⟩; obtain ⟨hc, hf⟩ := bcell hb1; have hz : w.heap.size < w1.heap.size := (by (have := hb1.size; simp at this; omega)); have hn3 : a + n ≤ s.size := (by (simp at hn1; omega)); clear hn1)
  · have hq : 40 < (a : Int) + n - a := by assumption
    go_wp2_with (go_at_call 154; refine (wrong_at _ _ _).mono ?_; rintro r w2 ⟨b, rfl, hlo, hwr, hb2⟩; obtain ⟨hc2, hf2⟩ := bcell hb2; have hz2 : w.heap.size < w2.heap.size := (by (have := hb2.size; omega)))
    refine bodyPost_ret (v := .tuple #[.agg #[.int .i64 0, .string ⟨#[]⟩, .int .i64 0], .int .i64 0, .iface 67 (.pointer (some ⟨b, 0, none⟩))]) (by simp [results, Tryz.results172, go_sem, hc, hz, hc2]) rfl ?_
    have hsp : nameSpec s.data.toList a = .error (13, a) := by
      have := hn2.out
      rw [extract_end] at this
      simp only [nameSpec, ← this]
      rw [if_pos (by omega)]
    rw [hsp]
    refine .error 13 a b rfl (by omega) (((hwr.setCell ?_ _).setCell ?_ _).setCell ?_ _) ?_
    · show w.heap.size ≠ b; omega
    · show w.heap.size ≠ b; omega
    · show w.heap.size ≠ b; omega
    · exact ((((HB0.out.trans (hb1.mono (by simp))).trans (hb2.mono (by omega))).setCell (Nat.le_refl _) _).setCell (Nat.le_refl _) _).setCell (Nat.le_refl _) _
  · have hq : ¬ 40 < (a : Int) + n - a := by omega
    have ht2 := ht1.below (Nat.le_refl _) hb1
    go_wp2_with (first | (go_at_call 150; refine (word_any _ _ ht2).mono ?_; rintro r w2 ⟨rfl, hb2⟩; obtain ⟨hc2, hf2⟩ := bcell hb2; have hz2 : w.heap.size < w2.heap.size := (by (have := hb2.size; omega))) | (go_at_call 184; refine (standing_any _ _ _ _ _ (by omega) (by omega) hlim).mono ?_; rintro r w3 ⟨rfl, hb3⟩; obtain ⟨hc3, hf3⟩ := bcell hb3; have hz3 : w.heap.size < w3.heap.size := (by (have := hb3.size; omega))))
    · have hwd : isWord (s.extract a (a + n)).toList = true := by assumption
      refine bodyPost_ret (v := .tuple #[.agg #[.int .i64 3, .string (s.extract a (a + n)), .int .i64 a], .int .i64 ((a : Int) + n), .nilIface]) (by simp [results, Tryz.results172, go_sem, hc, hz, hc2, hz2, hc3]) rfl ?_
      rw [name_fin s a n true (hn2.out.trans (by rw [extract_end])) (by omega) hwd]
      exact .ok 3 _ _ (by rw [extract_add]; simp) ((((((HB0.out.trans (hb1.mono (by simp))).trans (hb2.mono (by omega))).trans (hb3.mono (by omega))).setCell (Nat.le_refl _) _).setCell (Nat.le_refl _) _).setCell (Nat.le_refl _) _)
    · have hwd : isWord (s.extract a (a + n)).toList = false := by assumption
      refine bodyPost_ret (v := .tuple #[.agg #[.int .i64 2, .string (s.extract a (a + n)), .int .i64 a], .int .i64 ((a : Int) + n), .nilIface]) (by simp [results, Tryz.results172, go_sem, hc, hz, hc2, hz2, hc3]) rfl ?_
      rw [name_fin s a n false (hn2.out.trans (by rw [extract_end])) (by omega) hwd]
      exact .ok 2 _ _ (by rw [extract_add]; simp) ((((((HB0.out.trans (hb1.mono (by simp))).trans (hb2.mono (by omega))).trans (hb3.mono (by omega))).setCell (Nat.le_refl _) _).setCell (Nat.le_refl _) _).setCell (Nat.le_refl _) _)

def signSpec (l : Bytes) (a : Nat) : Except (Nat × Nat) (Nat × Bytes × Nat) :=
  let n := signLen (l.drop a)
  if n = 0 then .error (10, a) else .ok (7, (l.drop a).take n, a + n)

theorem signLen_le (l : Bytes) : signLen l ≤ l.length := by
  unfold signLen
  cases h : signTab.find? (fun x => x.isPrefixOf l) with
  | none => simp
  | some x =>
    have := List.find?_some h
    rw [List.isPrefixOf_iff_prefix] at this
    exact this.length_le

theorem signLength_at {gw ow gs os : Nat} (s : ByteArray) (a : Nat) (w : World) (ht : TabsAt gw ow gs os w) (ha : a ≤ s.size) :
    Calls Tryz.prog 187 #[.string (s.extract a s.size)] w fun e w' => ∃ n : Nat, e = .returned (.int .i64 n) ∧ a + n ≤ s.size ∧ Hid (n = signLen (s.data.toList.drop a)) ∧ w' = w :=
  (signLength_any (s.extract a s.size) w ht).mono fun _ _ ⟨he, hw⟩ => by
    have e1 : (s.extract a s.size).toList = s.data.toList.drop a := by rw [ByteArray.toList_eq, extract_end]
    rw [e1] at he
    exact ⟨_, he, by have := signLen_le (s.data.toList.drop a); simp at this; omega, rfl, hw⟩

set_option maxHeartbeats 1000000 in
theorem signAt_any {gw ow gs os : Nat} (s : ByteArray) (a : Nat) (w : World) (ht : TabsAt gw ow gs os w) (ha : a ≤ s.size) (hlim : s.size ≤ 60000) :
    Calls Tryz.prog 174 #[.string s, .int .i64 a] w fun e w' => TokRes w w' e a (signSpec s.data.toList a) := by
  have hb0 : Below w.heap.size w (w.alloc (Obj.cells #[.int .i64 0, .string ⟨#[]⟩, .int .i64 0] 169)) := (Below.refl _ _).alloc (Nat.le_refl _) _
  have ht1 := ht.below (Nat.le_refl _) hb0
  have HB0 : Hid (Below w.heap.size w (w.alloc (Obj.cells #[.int .i64 0, .string ⟨#[]⟩, .int .i64 0] 169))) := hb0
  clear hb0
  go_enter Tryz.func174, Tryz.ntmps174
  go_wp2_with (first | (go_at_call 187; refine (signLength_at _ _ _ ht1 ha).mono ?_; rintro r w1 ⟨n, rfl, hn3, hn2, rfl⟩) | (go_at_call 154; refine (wrong_at _ _ _).mono ?_; rintro r w2 ⟨b, rfl, hlo, hwr, hb2⟩; obtain ⟨hc2, hf2⟩ := bcell hb2; have hz2 : w.heap.size < w2.heap.size := (by (have := hb2.size; simp at this; omega))) | (go_at_call 184; refine (standing_any _ _ _ _ _ (by omega) (by omega) hlim).mono ?_; rintro r w3 ⟨rfl, hb3⟩; obtain ⟨hc3, hf3⟩ := bcell hb3; have hz3 : w.heap.size < w3.heap.size := (by (have := hb3.size; simp at this; omega))))
  · have hq : ((n : Int) == 0) = true := by assumption
    refine bodyPost_ret (v := .tuple #[.agg #[.int .i64 0, .string ⟨#[]⟩, .int .i64 0], .int .i64 0, .iface 67 (.pointer (some ⟨b, 0, none⟩))]) (by simp [results, Tryz.results174, go_sem, hc2]) rfl ?_
    have hsp : signSpec s.data.toList a = .error (10, a) := by
      simp only [signSpec, ← hn2.out]
      rw [if_pos (by simp at hq; omega)]
    rw [hsp]
    have hlo' : w.heap.size < b := by simp at hlo; omega
    refine .error 10 a b rfl (by omega) (((hwr.setCell ?_ _).setCell ?_ _).setCell ?_ _) ?_
    · show w.heap.size ≠ b; omega
    · show w.heap.size ≠ b; omega
    · show w.heap.size ≠ b; omega
    · exact (((HB0.out.trans (hb2.mono (by simp))).setCell (Nat.le_refl _) _).setCell (Nat.le_refl _) _).setCell (Nat.le_refl _) _
  · have hq : ((n : Int) == 0) = false := by assumption
    refine bodyPost_ret (v := .tuple #[.agg #[.int .i64 7, .string (s.extract a (a + n)), .int .i64 a], .int .i64 ((a : Int) + n), .nilIface]) (by simp [results, Tryz.results174, go_sem, hc3]) rfl ?_
    have hsp : signSpec s.data.toList a = .ok (7, (s.data.toList.drop a).take n, a + n) := by
      simp only [signSpec, ← hn2.out]
      rw [if_neg (by simp at hq; omega)]
    rw [hsp]
    exact .ok 7 _ _ (by rw [extract_add]; simp) ((((HB0.out.trans (hb3.mono (by simp))).setCell (Nat.le_refl _) _).setCell (Nat.le_refl _) _).setCell (Nat.le_refl _) _)
end Go.Proofs.YthbnegggohegkaaGreatDoor
