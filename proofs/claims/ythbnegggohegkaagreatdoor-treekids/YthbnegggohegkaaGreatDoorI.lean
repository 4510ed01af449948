/-
  The walk of lex.literalAt: what the literal says that begins at a place, and the place behind it, or what is wrong.
-/
import Derived.Test.YthbnegggohegkaaGreatDoorH
namespace Go.Proofs.YthbnegggohegkaaGreatDoor
open Go.RowKit

theorem own_snoc {w : World} {B : Nat} {v : Value} {n b : Nat} {t : Bytes} (h : w.ownsRow B 5 1 v n (Lib.byteCells t ++ [.int .u8 b])) (hb : b < 256) :
    w.ownsRow B 5 1 v (t ++ [UInt8.ofNat b]).length (Lib.byteCells (t ++ [UInt8.ofNat b])) := by
  have e : Lib.byteCells (t ++ [UInt8.ofNat b]) = Lib.byteCells t ++ [.int .u8 b] := by
    rw [byteCells_append]
    simp [Lib.byteCells, UInt8.toNat_ofNat', Nat.mod_eq_of_lt hb]
  have hn : n = (t ++ [UInt8.ofNat b]).length := by
    have := h.1
    simp [Lib.byteCells_length] at this
    simp
    omega
  rw [e, ← hn]
  exact h

set_option maxRecDepth 1000000 in
set_option maxHeartbeats 2000000 in
theorem literalAt_any (s : ByteArray) (src : Nat) (w : World) (hsrc : src < s.size) (hlim : s.size ≤ 70368744177664) :
    Calls Tryz.prog 183 #[.string s, .int .i64 src] w fun e w' => LitRes w w' e (lit s.data.toList src (src + 1) []) := by
  obtain ⟨i0, hi, hz0, hz1, hz2⟩ := info_parts info5
  obtain ⟨L, hL⟩ : ∃ L, L = s.data.toList := ⟨_, rfl⟩
  have hLs : L.length = s.size := by rw [hL]; simp
  have HL : Hid (L = s.data.toList) := hL
  rw [← hL]
  clear hL
  go_enter Tryz.func183, Tryz.ntmps183
  go_wp2
  go_loopw [7, 9] (fun sv nv wr => ∃ (pos nx : Nat) (acc : Bytes), nv = .int .i64 nx ∧ wr.heap[w.heap.size]? = some (.stringIter (s.extract (src + 1) s.size) pos) ∧ wr.ownsRow (w.heap.size + 1) 5 1 sv acc.length (Lib.byteCells acc) ∧ Below w.heap.size w wr ∧ src + 1 + pos ≤ s.size ∧ src + 1 ≤ nx ∧ nx ≤ s.size ∧ acc.length ≤ nx ∧ Hid (LitInv L src pos nx acc)) (fun _ _ wr => s.size - wr.iterPos w.heap.size)
  case atStart => exact ⟨0, src + 1, [], by go_num, World.iter_heap w _ 0, World.ownsRow_nil _ _ _ _, (Below.refl _ _).alloc (Nat.le_refl _) _, by omega, by omega, by omega, by simp, LitInv.start L src⟩
  case round =>
    obtain ⟨pos, nx, acc, rfl, hit, hown, hbw, hps, hnx1, hnx2, hacc, HI⟩ := hrel
    have hpos0 := iterPos_of hit
    have hsz : (s.extract (src + 1) s.size).size = s.size - (src + 1) := by simp
    by_cases hp : src + 1 + pos < s.size
    · have hp' : pos < (s.extract (src + 1) s.size).size := by omega
      have hbyte := getD_extract s (src + 1) pos hp'
      rw [← HL.out] at hbyte
      have r10 := rune_is _ pos hp' 10 (by decide)
      have r34 := rune_is _ pos hp' 34 (by decide)
      have r92 := rune_is _ pos hp' 92 (by decide)
      rw [hbyte] at r10 r34 r92
      have hdr := decode_rest _ pos hp'
      have hwd := width_le _ pos hp'
      have hasc : (L.getD (src + 1 + pos) 0).toNat < 128 → (Utf8.decode (s.extract (src + 1) s.size) pos).2 = 1 := fun h => by rw [← hbyte] at h; rw [decode_ascii _ pos hp' h]
      have hnxt := fun ty => Lib.run_next_any_at (P := Tryz.prog) wr w.heap.size (s.extract (src + 1) s.size) pos ty hit hp'
      obtain ⟨R, hR⟩ : ∃ R, R = (Utf8.decode (s.extract (src + 1) s.size) pos).1 := ⟨_, rfl⟩
      obtain ⟨D, hD⟩ : ∃ D, D = (Utf8.decode (s.extract (src + 1) s.size) pos).2 := ⟨_, rfl⟩
      have hit2 := Lib.iterAt_heap wr w.heap.size _ pos (pos + (Utf8.decode (s.extract (src + 1) s.size) pos).2) hit
      have hbw2 := Lib.below_iterAt hbw (k := w.heap.size) (Nat.le_refl _) (s.extract (src + 1) s.size) (pos + (Utf8.decode (s.extract (src + 1) s.size) pos).2)
      have hown2 := ownsRow_iterAt hown (k := w.heap.size) (by omega) (s.extract (src + 1) s.size) (pos + (Utf8.decode (s.extract (src + 1) s.size) pos).2)
      rw [← hR] at r10 r34 r92
      rw [← hD] at hdr hwd hasc hit2 hbw2 hown2
      simp only [← hR, ← hD] at hnxt
      obtain ⟨W1, hW1⟩ : ∃ W1, W1 = wr.iterAt w.heap.size (s.extract (src + 1) s.size) (pos + D) := ⟨_, rfl⟩
      rw [← hW1] at hit2 hbw2 hown2
      simp only [← hW1] at hnxt
      have HDR : Hid (∀ j, pos < j → j < pos + D → 128 ≤ ((s.extract (src + 1) s.size).get! j).toNat) := hdr.2
      have hd1 : src + 1 + (pos + D) ≤ s.size := by have := hdr.1; omega
      have hsz1 : w.heap.size < W1.heap.size := (Array.getElem?_eq_some_iff.1 hit2).1
      have HIT : Hid (W1.heap[w.heap.size]? = some (.stringIter (s.extract (src + 1) s.size) (pos + D))) := hit2
      have HP0 : Hid (wr.iterPos w.heap.size = pos) := hpos0
      have HASC : Hid ((L.getD (src + 1 + pos) 0).toNat < 128 → D = 1) := hasc
      have HB : Hid ((s.extract (src + 1) s.size)[pos] = L.getD (src + 1 + pos) 0) := hbyte
      clear hR hD hW1 hit hown hbw hdr hit2 hpos0 hasc hbyte
      by_cases hsk : src + 1 + pos < nx
      · clear r10 r34 r92
        go_wp2
        go_roundw
        case rel => exact ⟨pos + D, nx, acc, rfl, HIT.out, hown2, hbw2, by omega, by omega, by omega, hacc, by rw [HASC.out (HI.out.1 _ (Nat.le_refl _) hsk)]; exact HI.out.skip hsk⟩
        case measure => rw [iterPos_of HIT.out, HP0.out]; omega
      · have HAT : Hid (lit L src (src + 1) [] = lit L src (src + 1 + pos) (acc ++ (L.drop nx).take (src + 1 + pos - nx))) := HI.out.at hsk
        by_cases h10 : (L.getD (src + 1 + pos) 0).toNat = 10
        · rw [decide_eq_true h10] at r10
          have hsp : lit L src (src + 1) [] = .error (11, src) := by rw [HAT.out, lit_feed _ _ _ _ (by omega) h10]
          have HSP : Hid (lit L src (src + 1) [] = .error (11, src)) := hsp
          clear hsp h10 r34 r92
          go_wp2_with (go_at_call 154; refine (wrong_at _ _ _).mono ?_; rintro r w2 ⟨b, rfl, hlo, hwr, hb2⟩)
          go_ret3
          rw [HSP.out]
          exact .error 11 src b rfl (by omega) hwr (hbw2.trans (hb2.mono (by omega)))
        rw [decide_eq_false h10] at r10
        by_cases h34 : (L.getD (src + 1 + pos) 0).toNat = 34
        · rw [decide_eq_true h34] at r34
          have HSP : Hid (lit L src (src + 1) [] = .ok (acc ++ (L.drop nx).take (src + 1 + pos - nx), src + 1 + pos + 1)) := by
            show _ = _
            rw [HAT.out, lit_quote _ _ _ _ (by omega) h34]
          clear h10 h34 r92
          go_wp2_with (at_builtin; refine Lib.wpList_append_own_string _ rfl _ _ 82 9 rfl (w.heap.size + 1) 5 i0 Tryz.underlying82 Tryz.underlying9 hi hz0 hz1 hz2 _ _ _ rfl hown2 (s.extract nx (src + 1 + pos)) rfl (by simp; unfold maxLen; omega) (by simp; omega) (by omega) ?_; intro v' w3 hown3 hgr3 _; rw [strCells_extract, ← byteCells_append, ← HL.out] at hown3; have hcv := conv_own hown3; have HB3 : Hid (Below w.heap.size w w3) := (Below.grown hbw2 hgr3 (by omega) (fun j hj => by have := (hown2.lt _ hj).1; omega)); clear hown3 hgr3)
          go_ret3
          rw [HSP.out]
          exact .ok _ _ (by simp) HB3.out
        rw [decide_eq_false h34] at r34
        by_cases h92 : (L.getD (src + 1 + pos) 0).toNat = 92
        · rw [decide_eq_true h92] at r92
          have H92 : Hid ((L.getD (src + 1 + pos) 0).toNat = 92) := h92
          clear h10 h34 h92
          go_wp2_with (first | (go_at_call 190; refine (escape_any _ _).mono ?_; rintro r w2 ⟨b, n, rfl, hx, hb2⟩; rw [extract_end, ← HL.out] at hx; have hown2' := ownsRow_below hown2 hb2; have hbw2' : Below w.heap.size w w2 := hbw2.trans (hb2.mono (by omega)); have hit2' : Hid (w2.heap[w.heap.size]? = some (.stringIter (s.extract (src + 1) s.size) (pos + D))) := (hb2.block _ hsz1).trans HIT.out; have hsz2 : w.heap.size < w2.heap.size := (by (have := hb2.size; omega)); have hb256 : b < 256 := (by (have := esc_lt (L.drop (src + 1 + pos)); rw [← hx.out] at this; exact this)); have hnfit : src + 1 + pos + n ≤ s.size := (by (have := esc_fits (L.drop (src + 1 + pos)); rw [← hx.out] at this; simp at this; omega)); clear hb2) | (go_at_call 154; refine (wrong_at _ _ _).mono ?_; rintro r w3 ⟨b', rfl, hlo, hwr, hb3⟩) | (at_builtin; refine Lib.wpList_append_own_string _ rfl _ _ 82 9 rfl (w.heap.size + 1) 5 i0 Tryz.underlying82 Tryz.underlying9 hi hz0 hz1 hz2 _ _ _ rfl hown2' (s.extract nx (src + 1 + pos)) rfl (by simp; unfold maxLen; omega) (by simp; omega) (by omega) ?_; intro v' w3 hown3 hgr3 _; rw [strCells_extract, ← byteCells_append, ← HL.out] at hown3; have HB3 : Hid (Below w.heap.size w w3) := (Below.grown hbw2' hgr3 (by omega) (fun j hj => by have := (hown2'.lt _ hj).1; omega)); have HIT3 : Hid (w3.heap[w.heap.size]? = some (.stringIter (s.extract (src + 1) s.size) (pos + D))) := ((hgr3.block _ hsz2 (fun h => by have := (hown2'.lt _ h.symm).1; omega)).trans hit2'.out); have hsz3 : w.heap.size < w3.heap.size := (by (have := hgr3.size; omega)); clear hgr3) | (at_builtin; refine wpList_append_own _ rfl _ _ 82 rfl (w.heap.size + 1) 5 i0 (.int .u8 0) 1 1 Tryz.underlying82 hi hz0 hz1 hz2 rfl (by decide) _ _ _ rfl (hown3.alloc _) ⟨w3.heap.size, 0, none⟩ 1 1 [.int .u8 b] rfl rfl (cell_one_new _ _ _) (fun x hx => by simp at hx; subst hx; rfl) (by simp; unfold maxLen; omega) (by simp; omega) (by simp; omega) ?_; intro v4 w4 hown4 hgr4 _; have HB4 : Hid (Below w.heap.size w w4) := (Below.grown (HB3.out.alloc (by omega) _) hgr4 (by simp; omega) (fun j hj => by have := (hown3.lt _ hj).1; omega)); have HIT4 : Hid (w4.heap[w.heap.size]? = some (.stringIter (s.extract (src + 1) s.size) (pos + D))) := ((hgr4.block _ (by simp; omega) (fun h => by have := (hown3.lt _ h.symm).1; omega)).trans ((Below.heap_alloc _ _ _ hsz3).trans HIT3.out)); have HO4 : Hid (w4.ownsRow (w.heap.size + 1) 5 1 v4 _ _) := hown4; clear hgr4 hown4))
          · have hn0 : ((n : Int) == 0) = true := by assumption
            go_ret3
            have hsp : lit L src (src + 1) [] = .error (11, src + 1 + pos) := by
              rw [HAT.out, lit_none _ _ _ _ (by omega) H92.out (by rw [← hx.out]; simp at hn0; omega)]
            rw [hsp]
            exact .error 11 (src + 1 + pos) b' rfl (by omega) (by have e : ((src + 1 + pos : Nat) : Int) = (src : Int) + 1 + pos := (by omega); rw [e]; exact hwr) (hbw2'.trans (hb3.mono (by omega)))
          · have hn0 : ((n : Int) == 0) = false := by assumption
            have hn1 : n ≠ 0 := by simp at hn0; omega
            have hpl : ((L.drop nx).take (src + 1 + pos - nx)).length = src + 1 + pos - nx := by simp; omega
            have hD1 : D = 1 := HASC.out (by rw [H92.out]; decide)
            go_roundw
            case rel =>
              refine ⟨pos + D, src + 1 + pos + n, acc ++ (L.drop nx).take (src + 1 + pos - nx) ++ [UInt8.ofNat b], by go_num, HIT4.out, own_snoc HO4.out hb256, HB4.out, by omega, by omega, by omega, by rw [List.length_append, List.length_append, hpl]; simp; omega, ?_⟩
              rw [hD1]
              exact HI.out.esc hsk (by omega) H92.out hx.out hn1
            case measure => rw [iterPos_of HIT4.out, HP0.out]; omega
        · rw [decide_eq_false h92] at r92
          have HN : Hid ((L.getD (src + 1 + pos) 0).toNat ≠ 10 ∧ (L.getD (src + 1 + pos) 0).toNat ≠ 34 ∧ (L.getD (src + 1 + pos) 0).toNat ≠ 92) := ⟨h10, h34, h92⟩
          clear h10 h34 h92
          go_wp2
          go_roundw
          case rel =>
            refine ⟨pos + D, nx, acc, rfl, HIT.out, hown2, hbw2, by omega, by omega, by omega, hacc, HI.out.plain hsk (by omega) fun j h1 h2 => ?_⟩
            by_cases e : j = src + 1 + pos
            · subst e; exact HN.out
            · have h3 := HDR.out (j - (src + 1)) (by omega) (by omega)
              rw [get_bang _ _ (by omega), getD_extract s (src + 1) (j - (src + 1)) (by omega), ← HL.out, show src + 1 + (j - (src + 1)) = j by omega] at h3
              omega
          case measure => rw [iterPos_of HIT.out, HP0.out]; omega
    · have hnxt : ∀ ty, (Instr.next (.pointer (some ⟨w.heap.size, 0, none⟩)) true ty).run Tryz.prog wr = _ := fun ty => Lib.run_next_end_at wr w.heap.size _ pos ty hit (by omega)
      have hsp : lit L src (src + 1) [] = .error (11, src) := by
        rw [HI.out.at (by omega), lit_end _ _ _ _ (by omega)]
      go_wp2_with (go_at_call 154; refine (wrong_at _ _ _).mono ?_; rintro r w2 ⟨b, rfl, hlo, hwr, hb2⟩)
      go_ret3
      rw [hsp]
      have := hbw.size
      exact .error 11 src b rfl (by omega) hwr (hbw.trans (hb2.mono (by omega)))
end Go.Proofs.YthbnegggohegkaaGreatDoor
