/-
  The walk of lex.Scan: the tokens of any text, or what is wrong with it first.
  The walks of lex.Scan and lex.Name, at every argument.
-/
import Derived.Test.YthbnegggohegkaaGreatDoorScJ
namespace Go.Proofs.YthbnegggohegkaaGreatDoor
open Go.RowKit

/-- What Scan hands back: the tokens, in memory of its own, or what is wrong. -/
inductive ScanRes (w w' : World) (e : Ending) : Except (Nat × Nat) (List Tok) → Prop
  | ok (ts : List Tok) (v : Value) (he : e = .returned (.tuple #[v, .nilIface])) (ho : w'.ownsRow w.heap.size 169 3 v ts.length (tokCells ts)) (hn : ts.length ≤ 60001) (hb : Below w.heap.size w w') : ScanRes w w' e (.ok ts)
  | error (c p b : Nat) (he : e = .returned (.tuple #[.slice none 0 0, .iface 67 (.pointer (some ⟨b, 0, none⟩))])) (hlo : w.heap.size ≤ b) (hw : WrongAt w' b c p) (hb : Below w.heap.size w w') : ScanRes w w' e (.error (c, p))

theorem ownsRow_mono {w : World} {base base' : Nat} {e : TypeId} {size : Nat} {v : Value} {n : Nat} {xs : List Value} (h : w.ownsRow base e size v n xs) (hb : base' ≤ base) : w.ownsRow base' e size v n xs := by
  obtain ⟨h1, h2⟩ := h
  refine ⟨h1, ?_⟩
  rcases h2 with h2 | ⟨g, cap, cur, hv, hg, r⟩
  · exact .inl h2
  · exact .inr ⟨g, cap, cur, hv, by omega, r⟩

set_option maxRecDepth 100000 in
set_option maxHeartbeats 400000 in
theorem scan_long (s : ByteArray) (w : World) (hs : 60000 < s.size) :
    Calls Tryz.prog 141 #[.string s] w fun e w' => ScanRes w w' e (.error (13, 0)) := by
  go_enter Tryz.func141, Tryz.ntmps141
  go_wp2_with (go_at_call 154; refine (wrong_at _ _ _).mono ?_; rintro r w2 ⟨b, rfl, hlo, hwr, hb2⟩)
  go_ret2
  exact .error 13 0 b rfl hlo hwr hb2

theorem remark_at (s : ByteArray) (a : Nat) (w : World) (ha : a ≤ s.size) :
    Calls Tryz.prog 151 #[.string (s.extract a s.size), .func (.func 157) #[] #[]] w fun e w' => ∃ n : Nat, e = .returned (.int .i64 n) ∧ a + n ≤ s.size ∧ Hid (n = spanB lineN (s.data.toList.drop a)) ∧ Below w.heap.size w w' :=
  (span_line (s.extract a s.size) w).mono fun _ _ ⟨he, hb⟩ => by
    rw [extract_end] at he
    exact ⟨_, he, by have := spanB_le lineN (s.data.toList.drop a); simp at this; omega, rfl, hb⟩

theorem slash_at (s : ByteArray) (a : Nat) (w : World) :
    Calls Tryz.prog 156 #[.string (s.extract a s.size), .string ⟨#[47, 47]⟩] w fun e w' => ∃ b : Bool, e = .returned (.bool b) ∧ Hid (b = [47, 47].isPrefixOf (s.data.toList.drop a)) ∧ w' = w :=
  (hasPrefix_any (s.extract a s.size) ⟨#[47, 47]⟩ w).mono fun _ _ ⟨he, hw⟩ => by
    have e1 : (s.extract a s.size).toList = s.data.toList.drop a := by rw [ByteArray.toList_eq, extract_end]
    have e2 : (ByteArray.mk #[47, 47]).toList = [47, 47] := by rw [ByteArray.toList_eq]
    rw [e1, e2] at he
    exact ⟨_, he, rfl, hw⟩

theorem slash_byte (l : Bytes) (k : Nat) (h : [47, 47].isPrefixOf (l.drop k) = true) : (l.getD k 0).toNat = 47 := by
  rw [List.isPrefixOf_iff_prefix] at h
  obtain ⟨r, hr⟩ := h
  have e : (l.drop k).getD 0 0 = 47 := by rw [← hr]; rfl
  rw [getD_drop] at e
  simp only [Nat.add_zero] at e
  rw [e]; decide

set_option maxRecDepth 1000000 in
set_option maxRecDepth 100000 in
set_option maxHeartbeats 4000000 in
theorem scan_short {gw ow gs os : Nat} (s : ByteArray) (w : World) (ht : TabsAt gw ow gs os w) (hlim : s.size ≤ 60000) :
    Calls Tryz.prog 141 #[.string s] w fun e w' => ScanRes w w' e (scanAt s.data.toList 0 []) := by
  obtain ⟨i0, hi, hz0, hz1, hz2⟩ := info_parts info48
  obtain ⟨L, hL⟩ : ∃ L, L = s.data.toList := ⟨_, rfl⟩
  have hLs : L.length = s.size := by rw [hL]; simp
  have HL : Hid (L = s.data.toList) := hL
  rw [← hL]
  clear hL
  go_enter Tryz.func141, Tryz.ntmps141
  go_wp2
  go_loopw [4, 5] (fun tv nv wr => ∃ (pos nx : Nat) (ts : List Tok), nv = .int .i64 nx ∧ wr.heap[w.heap.size]? = some (.stringIter s pos) ∧ wr.ownsRow (w.heap.size + 1) 169 3 tv ts.length (tokCells ts) ∧ Below w.heap.size w wr ∧ pos ≤ s.size ∧ nx ≤ s.size ∧ ts.length ≤ max pos nx ∧ Hid (ScInv L pos nx ts)) (fun _ _ wr => s.size - wr.iterPos w.heap.size)
  case atStart => exact ⟨0, 0, [], rfl, World.iter_heap w _ 0, World.ownsRow_nil _ _ _ _, (Below.refl _ _).alloc (Nat.le_refl _) _, by omega, by omega, by simp, ScInv.start L⟩
  case round =>
    obtain ⟨pos, nx, ts, rfl, hit, hown, hbw, hps, hnx2, htl, HI⟩ := hrel
    have hpos0 := iterPos_of hit
    have ht1 := ht.below (Nat.le_refl _) hbw
    by_cases hp : pos < s.size
    · have hbyte : s[pos]'hp = L.getD pos 0 := by rw [HL.out]; exact (getD_byte s pos hp).symm
      have r32 := rune_is _ pos hp 32 (by decide)
      have r9 := rune_is _ pos hp 9 (by decide)
      have r10 := rune_is _ pos hp 10 (by decide)
      have r34 := rune_is _ pos hp 34 (by decide)
      have r59 := rune_is _ pos hp 59 (by decide)
      have rl := rune_kind letterI letterN (fun n _ => letterI_nat n) false (fun n h => ⟨by rw [letterI_nat]; exact letterN_high n h, letterN_high n h⟩) s pos hp
      have rd := rune_kind digitI digitN (fun n _ => digitI_nat n) false (fun n h => ⟨by rw [digitI_nat]; exact digitN_high n h, digitN_high n h⟩) s pos hp
      rw [hbyte] at r32 r9 r10 r34 r59 rl rd
      have hdr := decode_rest _ pos hp
      have hwd := width_le _ pos hp
      have hasc : (L.getD pos 0).toNat < 128 → (Utf8.decode s pos).2 = 1 := fun h => by rw [← hbyte] at h; rw [decode_ascii _ pos hp h]
      have hnxt := fun ty => Lib.run_next_any_at (P := Tryz.prog) wr w.heap.size s pos ty hit hp
      obtain ⟨R, hR⟩ : ∃ R, R = (Utf8.decode s pos).1 := ⟨_, rfl⟩
      obtain ⟨D, hD⟩ : ∃ D, D = (Utf8.decode s pos).2 := ⟨_, rfl⟩
      have hit2 := Lib.iterAt_heap wr w.heap.size _ pos (pos + (Utf8.decode s pos).2) hit
      have hbw2 := Lib.below_iterAt hbw (k := w.heap.size) (Nat.le_refl _) s (pos + (Utf8.decode s pos).2)
      have hown2 := ownsRow_iterAt hown (k := w.heap.size) (by omega) s (pos + (Utf8.decode s pos).2)
      rw [← hR] at r32 r9 r10 r34 r59 rl rd
      rw [← hD] at hdr hwd hasc hit2 hbw2 hown2
      simp only [← hR, ← hD] at hnxt
      obtain ⟨W1, hW1⟩ : ∃ W1, W1 = wr.iterAt w.heap.size s (pos + D) := ⟨_, rfl⟩
      rw [← hW1] at hit2 hbw2 hown2
      simp only [← hW1] at hnxt
      have ht2 := ht.below (Nat.le_refl _) hbw2
      have HDR : Hid (∀ j, pos < j → j < pos + D → 128 ≤ (L.getD j 0).toNat) := fun j h1 h2 => by
        have := hdr.2 j h1 h2
        rw [get_bang _ _ (by omega), ← getD_byte s j (by omega), ← HL.out] at this
        exact this
      have hd1 : pos + D ≤ s.size := hdr.1
      have hsz1 : w.heap.size < W1.heap.size := (Array.getElem?_eq_some_iff.1 hit2).1
      have HIT : Hid (W1.heap[w.heap.size]? = some (.stringIter s (pos + D))) := hit2
      have HP0 : Hid (wr.iterPos w.heap.size = pos) := hpos0
      have HASC : Hid ((L.getD pos 0).toNat < 128 → D = 1) := hasc
      clear hR hD hW1 hit hown hbw hdr hit2 hpos0 hasc hbyte ht1
      by_cases hsk : pos < nx
      · clear r32 r9 r10 r34 r59 rl rd
        go_wp2
        go_roundw
        case rel => exact ⟨pos + D, nx, ts, rfl, HIT.out, hown2, hbw2, by omega, by omega, by omega, HI.out.skip hsk (by omega) HASC.out HDR.out⟩
        case measure => rw [iterPos_of HIT.out, HP0.out]; omega
      · by_cases c32 : (L.getD pos 0).toNat = 32
        · rw [decide_eq_true c32] at r32
          have HC : Hid ((L.getD pos 0).toNat = 32) := c32
          clear r9 r10 r34 r59 rl rd c32
          go_wp2
          go_roundw
          case rel => exact ⟨pos + D, nx, ts, rfl, HIT.out, hown2, hbw2, by omega, by omega, by omega, by rw [HASC.out (by rw [HC.out]; decide)]; exact HI.out.blank hsk (by omega) (.inl HC.out)⟩
          case measure => rw [iterPos_of HIT.out, HP0.out]; omega
        rw [decide_eq_false c32] at r32
        by_cases c9 : (L.getD pos 0).toNat = 9
        · rw [decide_eq_true c9] at r9
          have HC : Hid ((L.getD pos 0).toNat = 9) := c9
          clear r10 r34 r59 rl rd c9 c32
          go_wp2
          go_roundw
          case rel => exact ⟨pos + D, nx, ts, rfl, HIT.out, hown2, hbw2, by omega, by omega, by omega, by rw [HASC.out (by rw [HC.out]; decide)]; exact HI.out.blank hsk (by omega) (.inr HC.out)⟩
          case measure => rw [iterPos_of HIT.out, HP0.out]; omega
        rw [decide_eq_false c9] at r9
        have HNB : Hid (¬ ((L.getD pos 0).toNat = 32 ∨ (L.getD pos 0).toNat = 9)) := fun h => h.elim c32 c9
        clear c32 c9
        by_cases c10 : (L.getD pos 0).toNat = 10
        · rw [decide_eq_true c10] at r10
          have HC : Hid ((L.getD pos 0).toNat = 10) := c10
          clear r34 r59 rl rd c10
          go_wp2_with (go_at_call 155; refine (endLine_any (w.heap.size + 1) _ ts _ _ ht2 (by omega) hown2 (by omega)).mono ?_; rintro r w2 ⟨v', rfl, hown3, hb3⟩)
          have hD1 : D = 1 := HASC.out (by rw [HC.out]; decide)
          have hfl := feed_length ts pos
          have hit3 : w2.heap[w.heap.size]? = some (.stringIter s (pos + D)) := (hb3.block _ (by omega)).trans HIT.out
          go_roundw
          case rel => exact ⟨pos + D, nx, feed ts pos, rfl, hit3, hown3, hbw2.trans (hb3.mono (by omega)), by omega, by omega, by omega, by rw [hD1]; exact HI.out.feed hsk (by omega) HC.out⟩
          case measure => rw [iterPos_of hit3, HP0.out]; omega
        rw [decide_eq_false c10] at r10
        have HN10 : Hid ((L.getD pos 0).toNat ≠ 10) := c10
        clear c10
        cases hsl : [47, 47].isPrefixOf (L.drop pos) with
        | true =>
          have HSL : Hid ([47, 47].isPrefixOf (L.drop pos) = true) := hsl
          clear hsl r34 r59 rl rd
          go_wp2_with (first | (go_at_call 156; refine (slash_at _ _ _).mono ?_; rintro r w2 ⟨b, rfl, hb, rfl⟩; rw [← HL.out] at hb; have hbt : b = true := hb.out.trans HSL.out; subst hbt) | (go_at_call 151; refine (remark_at _ _ _ (by omega)).mono ?_; rintro r w3 ⟨n, rfl, hn3, hn2, hb3⟩))
          have hD1 : D = 1 := HASC.out (by rw [slash_byte L pos HSL.out]; decide)
          have hit3 : w3.heap[w.heap.size]? = some (.stringIter s (pos + D)) := (hb3.block _ hsz1).trans HIT.out
          rw [← HL.out] at hn2
          go_roundw
          case rel => exact ⟨pos + D, pos + n, ts, by go_num, hit3, ownsRow_below hown2 hb3, hbw2.trans (hb3.mono (by omega)), by omega, by omega, by omega, HI.out.remark hsk (by omega) hD1 HNB.out HN10.out HSL.out hn2.out⟩
          case measure => rw [iterPos_of hit3, HP0.out]; omega
        | false =>
          have HSL : Hid ([47, 47].isPrefixOf (L.drop pos) = false) := hsl
          have r59' : ((R : Int) == 59) = decide ((L.getD pos 0).toNat = 59) := r59
          have r34' : ((R : Int) == 34) = decide ((L.getD pos 0).toNat = 34) := r34
          have HR : Hid (((R : Int) == 59) = decide ((L.getD pos 0).toNat = 59) ∧ ((R : Int) == 34) = decide ((L.getD pos 0).toNat = 34) ∧ letterI R = letterN (L.getD pos 0).toNat ∧ digitI R = digitN (L.getD pos 0).toNat) := ⟨r59', r34', rl, rd⟩
          clear hsl r34 r59 rl rd r59' r34'
          go_wp2_with (go_at_call 156; refine (slash_at _ _ _).mono ?_; rintro r w2 ⟨b, rfl, hb, hw2⟩; have hw2' := hw2.symm; subst hw2'; clear hw2; rw [← HL.out] at hb; have hbt : b = false := hb.out.trans HSL.out; subst hbt)
          obtain ⟨q59, q34, ql, qd⟩ := HR.out
          refine (tokenAt_any s pos (L.getD pos 0).toNat R _ ht2 hp hlim q59 q34 ql qd).mono ?_
          clear q59 q34 ql qd
          intro r w2 hres
          rw [← HL.out] at hres
          generalize htk : tokSpec L pos (L.getD pos 0).toNat = x at hres
          have HTK : Hid (tokSpec L pos (L.getD pos 0).toNat = x) := htk
          clear htk
          cases hres with
          | ok kd t n he hb2 =>
            subst he
            have hown3 := ownsRow_below hown2 hb2
            have hbw3 : Below w.heap.size w w2 := hbw2.trans (hb2.mono (by omega))
            have hsz2 : w.heap.size < w2.heap.size := by have := hb2.size; omega
            have HF : Hid (pos < n ∧ n ≤ s.size ∧ D = 1) := by
              have h1 := tok_fwd L pos kd n t (by omega) HTK.out
              exact ⟨h1.1, by omega, HASC.out (tok_first L pos kd n t HTK.out)⟩
            go_wp2_with (at_builtin; refine wpList_append_own _ rfl _ _ 165 rfl (w.heap.size + 1) 169 i0 (.agg #[.int .i64 0, .string ⟨#[]⟩, .int .i64 0]) 3 32 Tryz.underlying165 hi hz0 hz1 hz2 rfl (by decide) _ _ _ rfl ((hown3.alloc _).alloc _) ⟨w2.heap.size + 1, 0, none⟩ 1 1 (tokCell (kd, t, pos)) rfl rfl ?_ (fun x hx => by simp [tokCell] at hx; rcases hx with rfl | rfl | rfl <;> rfl) (by unfold maxLen; omega) (by omega) (by simp; omega) ?_)
            · have := tok_new (w2.alloc (.cells #[.int .i64 kd, .string ⟨t.toArray⟩, .int .i64 pos] 169)) kd t pos
              simpa using this
            intro v' w4 hown4 hgr4 _
            have hbw4 : Below w.heap.size w w4 := Below.grown ((hbw3.alloc (by omega) _).alloc (by simp; omega) _) hgr4 (by simp; omega) (fun j hj => by have := (hown3.lt _ hj).1; omega)
            have hit4 : w4.heap[w.heap.size]? = some (.stringIter s (pos + D)) := by
              rw [hgr4.block _ (by simp; omega) (fun h => by have := (hown3.lt _ h.symm).1; omega), Below.heap_alloc _ _ _ (by simp; omega), Below.heap_alloc _ _ _ hsz2, hb2.block _ hsz1]
              exact HIT.out
            have HO4 : Hid (w4.ownsRow (w.heap.size + 1) 169 3 v' (ts ++ [(kd, t, pos)]).length (tokCells (ts ++ [(kd, t, pos)]))) := by
              show World.ownsRow _ _ _ _ _ _ _
              rw [tokCells_append, tokCells_one, List.length_append]
              exact hown4
            have HIT4 : Hid (w4.heap[w.heap.size]? = some (.stringIter s (pos + D))) := hit4
            clear hown4 hgr4 hit4
            go_wp2
            obtain ⟨hf1, hf2, hf3⟩ := HF.out
            go_roundw
            case rel => exact ⟨pos + D, n, ts ++ [(kd, t, pos)], rfl, HIT4.out, HO4.out, hbw4, by omega, by omega, by simp; omega, HI.out.tok hsk (by omega) (by omega) HNB.out HN10.out HSL.out HTK.out⟩
            case measure => rw [iterPos_of HIT4.out, HP0.out]; omega
          | error c p b he hlo hwr hb2 =>
            subst he
            have HSP : Hid (scanAt L 0 [] = .error (c, p)) := (HI.out.at hsk).trans (scan_wrong L pos ts (c, p) (by omega) HNB.out HN10.out HSL.out HTK.out)
            have hlt := hwr.lt
            go_wp2
            go_ret2
            rw [HSP.out]
            exact .error c p b rfl (by omega) (hwr.below (B := w2.heap.size) hlt ((Below.refl _ _).alloc (Nat.le_refl _) _)) ((hbw2.trans (hb2.mono (by omega))).alloc (by omega) _)
    · have hnxt : ∀ ty, (Instr.next (.pointer (some ⟨w.heap.size, 0, none⟩)) true ty).run Tryz.prog wr = _ := fun ty => Lib.run_next_end_at wr w.heap.size _ pos ty hit (by omega)
      have hsp : scanAt L 0 [] = .ok (feed ts s.size) := by
        rw [HI.out.at (by omega), scan_end _ _ _ (by omega), hLs]
      have HSP : Hid (scanAt L 0 [] = .ok (feed ts s.size)) := hsp
      clear hsp
      have hbs := hbw.size
      go_wp2_with (go_at_call 155; refine (endLine_any (w.heap.size + 1) _ ts _ _ ht1 (by have := (Array.getElem?_eq_some_iff.1 hit).1; omega) hown (by omega)).mono ?_; rintro r w2 ⟨v', rfl, hown3, hb3⟩)
      go_ret2
      rw [HSP.out]
      exact .ok _ v' rfl (ownsRow_mono hown3 (by omega)) (by have := feed_length ts s.size; omega) (hbw.trans (hb3.mono (by omega)))
end Go.Proofs.YthbnegggohegkaaGreatDoor
namespace Go.Proofs.YthbnegggohegkaaGreatDoor
open Go.RowKit

theorem scan_any {gw ow gs os : Nat} (s : ByteArray) (w : World) (ht : TabsAt gw ow gs os w) :
    Calls Tryz.prog 141 #[.string s] w fun e w' => ScanRes w w' e (scanSpec s.data.toList) := by
  unfold scanSpec
  by_cases h : 60000 < s.size
  · rw [if_pos (by simpa using h)]; exact scan_long s w h
  · rw [if_neg (by simpa using h)]; exact scan_short s w ht (by omega)

/-- Is a text a name? -/
def isName (l : Bytes) : Bool := decide (l ≠ []) && decide (l.length ≤ 40) && !isWord l && letterN (l.getD 0 0).toNat && decide (spanB partN l = l.length)

theorem first_letter (s : ByteArray) (w : World) (hs : 0 < s.size) :
    Calls Tryz.prog 151 #[.string (s.extract 0 1), .func (.func 152) #[] #[]] w fun e w' => ∃ n : Nat, e = .returned (.int .i64 n) ∧ Hid (n = if letterN (s.data.toList.getD 0 0).toNat then 1 else 0) ∧ Below w.heap.size w w' :=
  (span_letter (s.extract 0 1) w).mono fun _ _ ⟨he, hb⟩ => by
    have e1 : (s.extract 0 1).data.toList = [s.data.toList.getD 0 0] := by
      rw [Lib.extract_data]
      have hl : 0 < s.data.toList.length := by simpa using hs
      cases h : s.data.toList with
      | nil => rw [h] at hl; simp at hl
      | cons b r => simp
    rw [e1] at he
    exact ⟨_, he, by show _ = _; rw [spanB_cons, spanB_nil], hb⟩

theorem part_whole (s : ByteArray) (w : World) :
    Calls Tryz.prog 151 #[.string s, .func (.func 153) #[] #[]] w fun e w' => ∃ n : Nat, e = .returned (.int .i64 n) ∧ Hid (n = spanB partN s.data.toList) ∧ Below w.heap.size w w' :=
  (span_part s w).mono fun _ _ ⟨he, hb⟩ => ⟨_, he, rfl, hb⟩

theorem word_at {gw ow gs os : Nat} (s : ByteArray) (w : World) (ht : TabsAt gw ow gs os w) :
    Calls Tryz.prog 150 #[.string s] w fun e w' => ∃ b : Bool, e = .returned (.bool b) ∧ Hid (b = isWord s.data.toList) ∧ Below w.heap.size w w' :=
  (word_any s w ht).mono fun _ _ ⟨he, hb⟩ => ⟨_, he, by rw [ByteArray.toList_eq]; rfl, hb⟩

set_option maxRecDepth 100000 in
set_option maxHeartbeats 1000000 in
theorem name_any {gw ow gs os : Nat} (s : ByteArray) (w : World) (ht : TabsAt gw ow gs os w) :
    Calls Tryz.prog 139 #[.string s] w fun e w' => e = .returned (.bool (isName s.data.toList)) ∧ Below w.heap.size w w' := by
  by_cases h0 : s.size = 0
  · obtain rfl := empty_toList s h0
    go_enter Tryz.func139, Tryz.ntmps139
    go_wp2
    go_ret
    exact ⟨rfl, Below.refl _ _⟩
  have hp : 0 < s.size := by omega
  have hne : s.toList.isEmpty = false := by rw [ByteArray.toList_eq]; cases h : s.data.toList with | nil => exact absurd (by rw [Lib.size_eq, h]; rfl) h0 | cons b r => rfl
  have hnl : s.data.toList ≠ [] := fun h => h0 (by rw [Lib.size_eq, h]; rfl)
  have hls : s.data.toList.length = s.size := by simp
  have HN : Hid (isName s.data.toList = (decide (s.size ≤ 40) && !isWord s.data.toList && letterN (s.data.toList.getD 0 0).toNat && decide (spanB partN s.data.toList = s.size))) := by
    show _ = _; rw [isName, decide_eq_true hnl, hls, Bool.true_and]
  clear hnl hls
  obtain ⟨nm, hnm⟩ : ∃ nm, nm = isName s.data.toList := ⟨_, rfl⟩
  rw [← hnm] at HN ⊢
  clear hnm
  go_enter Tryz.func139, Tryz.ntmps139
  go_wp2_with (go_at_call 150; refine (word_at _ _ ht).mono ?_; rintro r w1 ⟨wd, rfl, hwd, hb1⟩)
  · have hor : (40 : Int) < s.size ∨ wd = true := by assumption
    have hw : wd = true := hor.resolve_left (by omega)
    go_ret
    refine ⟨congrArg (fun b => Ending.returned (.bool b)) ?_, hb1⟩
    rw [HN.out, ← hwd.out, hw]; simp
  · have hand : (s.size : Int) ≤ 40 ∧ wd = false := by assumption
    have hw : wd = false := hand.2
    have h40 : s.size ≤ 40 := by omega
    refine (first_letter s _ hp).mono ?_
    rintro r w2 ⟨n, rfl, hn, hb2⟩
    cases hl : letterN (s.data.toList.getD 0 0).toNat with
    | false =>
      rw [hl] at hn
      have hn0 : n = 0 := hn.out
      subst hn0
      have HLT : Hid (letterN (s.data.toList.getD 0 0).toNat = false) := hl
      clear hl hn
      go_wp2
      go_ret
      refine ⟨congrArg (fun b => Ending.returned (.bool b)) ?_, hb1.trans (hb2.mono (by have := hb1.size; omega))⟩
      rw [HN.out, HLT.out]; simp
    | true =>
      rw [hl] at hn
      have hn0 : n = 1 := hn.out
      subst hn0
      have HLT : Hid (letterN (s.data.toList.getD 0 0).toNat = true) := hl
      clear hl hn
      go_wp2_with (go_at_call 151; refine (part_whole s _).mono ?_; rintro r w3 ⟨m, rfl, hm, hb3⟩)
      go_ret
      have hz1 := hb1.size
      have hz2 := hb2.size
      refine ⟨congrArg (fun b => Ending.returned (.bool b)) ?_, (hb1.trans (hb2.mono (by omega))).trans (hb3.mono (by omega))⟩
      rw [HN.out, HLT.out, ← hwd.out, hw, ← hm.out, decide_eq_true h40]
      rw [Bool.eq_iff_iff]; simp; omega
  · have h40 : ¬ s.size ≤ 40 := by omega
    go_ret
    refine ⟨congrArg (fun b => Ending.returned (.bool b)) ?_, Below.refl _ _⟩
    rw [HN.out, decide_eq_false h40]; simp

end Go.Proofs.YthbnegggohegkaaGreatDoor
