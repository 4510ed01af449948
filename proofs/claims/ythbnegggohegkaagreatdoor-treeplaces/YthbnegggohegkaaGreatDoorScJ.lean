/-
  The walk of lex.literalAt: what the literal says that begins at a place, and the place behind it, or what is wrong.
  The walk of lex.literalAt: what the literal says that begins at a place, and the place behind it, or what is wrong.
  The walks of lex.textAt and lex.tokenAt: the token that begins at a place, or what is wrong there.
  The walk of lex.endLine: the tokens, and an end behind them where the last one ends a line.
  Plain facts on a text's tokens: the reading from the front, one token at a time.
-/
import Derived.Test.YthbnegggohegkaaGreatDoorEJ
import Derived.Test.YthbnegggohegkaaGreatDoorLitJ
import Derived.Lib.AppendStr
import Derived.Lib.BufferRead
import Derived.Lib.OthersKept
import Derived.Test.YthbnegggohegkaaGreatDoorF
namespace Go.Proofs.YthbnegggohegkaaGreatDoor
open Go.RowKit

/-- What a reader of a literal hands back. -/
inductive LitRes (w w' : World) (e : Ending) : Except (Nat × Nat) (Bytes × Nat) → Prop
  | ok (t : Bytes) (n : Nat) (he : e = .returned (.tuple #[.string ⟨t.toArray⟩, .int .i64 n, .nilIface])) (hb : Below w.heap.size w w') : LitRes w w' e (.ok (t, n))
  | error (c p b : Nat) (he : e = .returned (.tuple #[.string ⟨#[]⟩, .int .i64 0, .iface 67 (.pointer (some ⟨b, 0, none⟩))])) (hlo : w.heap.size ≤ b) (hw : WrongAt w' b c p) (hb : Below w.heap.size w w') : LitRes w w' e (.error (c, p))

theorem rune_is (s : ByteArray) (pos : Nat) (h : pos < s.size) (c : Nat) (hc : c < 128) : (((Utf8.decode s pos).1 : Int) == (c : Int)) = decide ((s[pos]'h).toNat = c) := by
  by_cases ha : (s[pos]'h).toNat < 128
  · rw [decode_ascii s pos h ha, Bool.eq_iff_iff]; simp; omega
  · have := (decode_high s pos h (by omega)).1
    rw [Bool.eq_iff_iff]; simp; omega

theorem getD_extract (s : ByteArray) (b pos : Nat) (h : pos < (s.extract b s.size).size) : (s.extract b s.size)[pos]'h = s.data.toList.getD (b + pos) 0 := by
  have e := getD_byte (s.extract b s.size) pos h
  rw [← e, extract_end, List.getD_eq_getElem?_getD, List.getD_eq_getElem?_getD, List.getElem?_drop]

theorem ownsRow_below {w w' : World} {base : Nat} {e : TypeId} {size : Nat} {v : Value} {n : Nat} {xs : List Value} (h : w.ownsRow base e size v n xs) (hb : Below w.heap.size w w') : w'.ownsRow base e size v n xs := by
  obtain ⟨h1, h2⟩ := h
  refine ⟨h1, ?_⟩
  rcases h2 with h2 | ⟨g, cap, cur, hv, hg, hh, r⟩
  · exact .inl h2
  · exact .inr ⟨g, cap, cur, hv, hg, by rw [hb.block g (Array.getElem?_eq_some_iff.1 hh).1]; exact hh, r⟩

theorem conv_own {w : World} {base : Nat} {v : Value} {n : Nat} {t : Bytes} (h : w.ownsRow base 5 1 v n (Lib.byteCells t)) : (convert 82 9 v).run Tryz.prog w = .ok (.string ⟨t.toArray⟩) w := by
  obtain ⟨h1, h2⟩ := h
  rw [Lib.byteCells_length, Nat.mul_one] at h1
  rcases h2 with ⟨rfl, h0⟩ | ⟨g, cap, cur, rfl, hg, hh, hn, hm, hs, ht⟩
  · obtain rfl : t = [] := List.eq_nil_of_length_eq_zero (by omega)
    exact Lib.run_convert_nil_bytes w 82 9 5 0 Tryz.underlying82 Tryz.underlying5 Tryz.underlying9
  · subst h1
    exact run_convert_bytes_back w 82 9 5 ⟨g, 0, none⟩ cap t Tryz.underlying82 Tryz.underlying5 Tryz.underlying9 (Lib.bytes_of_row hh (by rw [← ht, Nat.mul_one]))

theorem strCells_extract (s : ByteArray) (a e : Nat) : Lib.strCells (s.extract a e) = Lib.byteCells ((s.data.toList.drop a).take (e - a)) := by
  rw [Lib.strCells, Lib.extract_data]; rfl
theorem byteCells_append (a b : Bytes) : Lib.byteCells (a ++ b) = Lib.byteCells a ++ Lib.byteCells b := by simp [Lib.byteCells]

/-- Where the reading stands. -/
def LitInv (l : Bytes) (src pos nx : Nat) (acc : Bytes) : Prop :=
  (∀ j, src + 1 + pos ≤ j → j < nx → (l.getD j 0).toNat < 128) ∧ lit l src (max (src + 1 + pos) nx) (acc ++ (l.drop nx).take (src + 1 + pos - nx)) = lit l src (src + 1) []

theorem LitInv.start (l : Bytes) (src : Nat) : LitInv l src 0 (src + 1) [] := ⟨fun j h1 h2 => by omega, by simp⟩
theorem LitInv.skip {l : Bytes} {src pos nx : Nat} {acc : Bytes} (h : LitInv l src pos nx acc) (hp : src + 1 + pos < nx) : LitInv l src (pos + 1) nx acc := by
  refine ⟨fun j h1 h2 => h.1 j (by omega) h2, ?_⟩
  have := h.2
  rw [Nat.max_eq_right (by omega), show src + 1 + pos - nx = 0 by omega] at this
  rw [Nat.max_eq_right (by omega), show src + 1 + (pos + 1) - nx = 0 by omega]
  exact this
theorem LitInv.at {l : Bytes} {src pos nx : Nat} {acc : Bytes} (h : LitInv l src pos nx acc) (hp : ¬ src + 1 + pos < nx) : lit l src (src + 1) [] = lit l src (src + 1 + pos) (acc ++ (l.drop nx).take (src + 1 + pos - nx)) := by
  rw [← h.2, Nat.max_eq_left (by omega)]
theorem LitInv.plain {l : Bytes} {src pos nx d : Nat} {acc : Bytes} (h : LitInv l src pos nx acc) (hp : ¬ src + 1 + pos < nx) (hd : src + 1 + pos + d ≤ l.length)
    (hb : ∀ j, src + 1 + pos ≤ j → j < src + 1 + pos + d → (l.getD j 0).toNat ≠ 10 ∧ (l.getD j 0).toNat ≠ 34 ∧ (l.getD j 0).toNat ≠ 92) : LitInv l src (pos + d) nx acc := by
  refine ⟨fun j h1 h2 => by omega, ?_⟩
  rw [h.at hp, lit_run l src d _ _ hd hb, Nat.max_eq_left (by omega), List.append_assoc]
  have e : src + 1 + (pos + d) - nx = (src + 1 + pos - nx) + d := by omega
  rw [e, List.take_add, List.drop_drop, show nx + (src + 1 + pos - nx) = src + 1 + pos by omega, Nat.add_assoc (src + 1) pos d]
theorem LitInv.esc {l : Bytes} {src pos nx b n : Nat} {acc : Bytes} (h : LitInv l src pos nx acc) (hp : ¬ src + 1 + pos < nx) (hk : src + 1 + pos < l.length) (h92 : (l.getD (src + 1 + pos) 0).toNat = 92)
    (he : (b, n) = esc (l.drop (src + 1 + pos))) (hn : n ≠ 0) : LitInv l src (pos + 1) (src + 1 + pos + n) (acc ++ (l.drop nx).take (src + 1 + pos - nx) ++ [UInt8.ofNat b]) := by
  have hd0 : ((l.drop (src + 1 + pos)).getD 0 0).toNat = 92 := by
    rw [List.getD_eq_getElem?_getD, List.getElem?_drop, ← List.getD_eq_getElem?_getD]; exact h92
  refine ⟨fun j h1 h2 => ?_, ?_⟩
  · have := esc_ascii _ hd0 (j - (src + 1 + pos)) (by rw [← he]; show _ < n; omega)
    rw [List.getD_eq_getElem?_getD, List.getElem?_drop, ← List.getD_eq_getElem?_getD, show src + 1 + pos + (j - (src + 1 + pos)) = j by omega] at this
    exact this
  · rw [h.at hp, lit_esc l src _ b n _ hk h92 he hn, Nat.max_eq_right (by omega), show src + 1 + (pos + 1) - (src + 1 + pos + n) = 0 by omega]
    simp
end Go.Proofs.YthbnegggohegkaaGreatDoor
namespace Go.Proofs.YthbnegggohegkaaGreatDoor
open Go.RowKit

theorem own_snoc {w : World} {B : Nat} {v : Value} {n b : Nat} {t : Bytes} (h : w.ownsRow B 5 1 v n (Lib.byteCells t ++ [.int .u8 b])) (hb : b < 256) :
    w.ownsRow B 5 1 v (t ++ [UInt8.ofNat b]).length (Lib.byteCells (t ++ [UInt8.ofNat b])) := by
  have e : Lib.byteCells (t ++ [UInt8.ofNat b]) = Lib.byteCells t ++ [.int .u8 b] := by
    rw [byteCells_append]
    simp [Lib.byteCells, UInt8.toNat_ofNat', Nat.mod_eq_of_lt hb]
  have hn : n = (t ++ [UInt8.ofNat b]).length := by
    have := h.1
    simp [Lib.byteCells_length] at this
    simp
    omega
  rw [e, ← hn]
  exact h

set_option maxRecDepth 1000000 in
set_option maxHeartbeats 2000000 in
theorem literalAt_any (s : ByteArray) (src : Nat) (w : World) (hsrc : src < s.size) (hlim : s.size ≤ 70368744177664) :
    Calls Tryz.prog 183 #[.string s, .int .i64 src] w fun e w' => LitRes w w' e (lit s.data.toList src (src + 1) []) := by
  obtain ⟨i0, hi, hz0, hz1, hz2⟩ := info_parts info5
  obtain ⟨L, hL⟩ : ∃ L, L = s.data.toList := ⟨_, rfl⟩
  have hLs : L.length = s.size := by rw [hL]; simp
  have HL : Hid (L = s.data.toList) := hL
  rw [← hL]
  clear hL
  go_enter Tryz.func183, Tryz.ntmps183
  go_wp2
  go_loopw [7, 9] (fun sv nv wr => ∃ (pos nx : Nat) (acc : Bytes), nv = .int .i64 nx ∧ wr.heap[w.heap.size]? = some (.stringIter (s.extract (src + 1) s.size) pos) ∧ wr.ownsRow (w.heap.size + 1) 5 1 sv acc.length (Lib.byteCells acc) ∧ Below w.heap.size w wr ∧ src + 1 + pos ≤ s.size ∧ src + 1 ≤ nx ∧ nx ≤ s.size ∧ acc.length ≤ nx ∧ Hid (LitInv L src pos nx acc)) (fun _ _ wr => s.size - wr.iterPos w.heap.size)
  case atStart => exact ⟨0, src + 1, [], by go_num, World.iter_heap w _ 0, World.ownsRow_nil _ _ _ _, (Below.refl _ _).alloc (Nat.le_refl _) _, by omega, by omega, by omega, by simp, LitInv.start L src⟩
  case round =>
    obtain ⟨pos, nx, acc, rfl, hit, hown, hbw, hps, hnx1, hnx2, hacc, HI⟩ := hrel
    have hpos0 := iterPos_of hit
    have hsz : (s.extract (src + 1) s.size).size = s.size - (src + 1) := by simp
    by_cases hp : src + 1 + pos < s.size
    · have hp' : pos < (s.extract (src + 1) s.size).size := by omega
      have hbyte := getD_extract s (src + 1) pos hp'
      rw [← HL.out] at hbyte
      have r10 := rune_is _ pos hp' 10 (by decide)
      have r34 := rune_is _ pos hp' 34 (by decide)
      have r92 := rune_is _ pos hp' 92 (by decide)
      rw [hbyte] at r10 r34 r92
      have hdr := decode_rest _ pos hp'
      have hwd := width_le _ pos hp'
      have hasc : (L.getD (src + 1 + pos) 0).toNat < 128 → (Utf8.decode (s.extract (src + 1) s.size) pos).2 = 1 := fun h => by rw [← hbyte] at h; rw [decode_ascii _ pos hp' h]
      have hnxt := fun ty => Lib.run_next_any_at (P := Tryz.prog) wr w.heap.size (s.extract (src + 1) s.size) pos ty hit hp'
      obtain ⟨R, hR⟩ : ∃ R, R = (Utf8.decode (s.extract (src + 1) s.size) pos).1 := ⟨_, rfl⟩
      obtain ⟨D, hD⟩ : ∃ D, D = (Utf8.decode (s.extract (src + 1) s.size) pos).2 := ⟨_, rfl⟩
      have hit2 := Lib.iterAt_heap wr w.heap.size _ pos (pos + (Utf8.decode (s.extract (src + 1) s.size) pos).2) hit
      have hbw2 := Lib.below_iterAt hbw (k := w.heap.size) (Nat.le_refl _) (s.extract (src + 1) s.size) (pos + (Utf8.decode (s.extract (src + 1) s.size) pos).2)
      have hown2 := ownsRow_iterAt hown (k := w.heap.size) (by omega) (s.extract (src + 1) s.size) (pos + (Utf8.decode (s.extract (src + 1) s.size) pos).2)
      rw [← hR] at r10 r34 r92
      rw [← hD] at hdr hwd hasc hit2 hbw2 hown2
      simp only [← hR, ← hD] at hnxt
      obtain ⟨W1, hW1⟩ : ∃ W1, W1 = wr.iterAt w.heap.size (s.extract (src + 1) s.size) (pos + D) := ⟨_, rfl⟩
      rw [← hW1] at hit2 hbw2 hown2
      simp only [← hW1] at hnxt
      have HDR : Hid (∀ j, pos < j → j < pos + D → 128 ≤ ((s.extract (src + 1) s.size).get! j).toNat) := hdr.2
      have hd1 : src + 1 + (pos + D) ≤ s.size := by have := hdr.1; omega
      have hsz1 : w.heap.size < W1.heap.size := (Array.getElem?_eq_some_iff.1 hit2).1
      have HIT : Hid (W1.heap[w.heap.size]? = some (.stringIter (s.extract (src + 1) s.size) (pos + D))) := hit2
      have HP0 : Hid (wr.iterPos w.heap.size = pos) := hpos0
      have HASC : Hid ((L.getD (src + 1 + pos) 0).toNat < 128 → D = 1) := hasc
      have HB : Hid ((s.extract (src + 1) s.size)[pos] = L.getD (src + 1 + pos) 0) := hbyte
      clear hR hD hW1 hit hown hbw hdr hit2 hpos0 hasc hbyte
      by_cases hsk : src + 1 + pos < nx
      · clear r10 r34 r92
        go_wp2
        go_roundw
        case rel => exact ⟨pos + D, nx, acc, rfl, HIT.out, hown2, hbw2, by omega, by omega, by omega, hacc, by rw [HASC.out (HI.out.1 _ (Nat.le_refl _) hsk)]; exact HI.out.skip hsk⟩
        case measure => rw [iterPos_of HIT.out, HP0.out]; omega
      · have HAT : Hid (lit L src (src + 1) [] = lit L src (src + 1 + pos) (acc ++ (L.drop nx).take (src + 1 + pos - nx))) := HI.out.at hsk
        by_cases h10 : (L.getD (src + 1 + pos) 0).toNat = 10
        · rw [decide_eq_true h10] at r10
          have hsp : lit L src (src + 1) [] = .error (11, src) := by rw [HAT.out, lit_feed _ _ _ _ (by omega) h10]
          have HSP : Hid (lit L src (src + 1) [] = .error (11, src)) := hsp
          clear hsp h10 r34 r92
          go_wp2_with (go_at_call 154; refine (wrong_at _ _ _).mono ?_; rintro r w2 ⟨b, rfl, hlo, hwr, hb2⟩)
          go_ret3
          rw [HSP.out]
          exact .error 11 src b rfl (by omega) hwr (hbw2.trans (hb2.mono (by omega)))
        rw [decide_eq_false h10] at r10
        by_cases h34 : (L.getD (src + 1 + pos) 0).toNat = 34
        · rw [decide_eq_true h34] at r34
          have HSP : Hid (lit L src (src + 1) [] = .ok (acc ++ (L.drop nx).take (src + 1 + pos - nx), src + 1 + pos + 1)) := by
            show _ = _
            rw [HAT.out, lit_quote _ _ _ _ (by omega) h34]
          clear h10 h34 r92
          go_wp2_with (at_builtin; refine Lib.wpList_append_own_string _ rfl _ _ 82 9 rfl (w.heap.size + 1) 5 i0 Tryz.underlying82 Tryz.underlying9 hi hz0 hz1 hz2 _ _ _ rfl hown2 (s.extract nx (src + 1 + pos)) rfl (by simp; unfold maxLen; omega) (by simp; omega) (by omega) ?_; intro v' w3 hown3 hgr3 _; rw [strCells_extract, ← byteCells_append, ← HL.out] at hown3; have hcv := conv_own hown3; have HB3 : Hid (Below w.heap.size w w3) := (Below.grown hbw2 hgr3 (by omega) (fun j hj => by have := (hown2.lt _ hj).1; omega)); clear hown3 hgr3)
          go_ret3
          rw [HSP.out]
          exact .ok _ _ (by simp) HB3.out
        rw [decide_eq_false h34] at r34
        by_cases h92 : (L.getD (src + 1 + pos) 0).toNat = 92
        · rw [decide_eq_true h92] at r92
          have H92 : Hid ((L.getD (src + 1 + pos) 0).toNat = 92) := h92
          clear h10 h34 h92
          go_wp2_with (first | (go_at_call 190; refine (escape_any _ _).mono ?_; rintro r w2 ⟨b, n, rfl, hx, hb2⟩; rw [extract_end, ← HL.out] at hx; have hown2' := ownsRow_below hown2 hb2; have hbw2' : Below w.heap.size w w2 := hbw2.trans (hb2.mono (by omega)); have hit2' : Hid (w2.heap[w.heap.size]? = some (.stringIter (s.extract (src + 1) s.size) (pos + D))) := (hb2.block _ hsz1).trans HIT.out; have hsz2 : w.heap.size < w2.heap.size := (by (have := hb2.size; omega)); have hb256 : b < 256 := (by (have := esc_lt (L.drop (src + 1 + pos)); rw [← hx.out] at this; exact this)); have hnfit : src + 1 + pos + n ≤ s.size := (by (have := esc_fits (L.drop (src + 1 + pos)); rw [← hx.out] at this; simp at this; omega)); clear hb2) | (go_at_call 154; refine (wrong_at _ _ _).mono ?_; rintro r w3 ⟨b', rfl, hlo, hwr, hb3⟩) | (at_builtin; refine Lib.wpList_append_own_string _ rfl _ _ 82 9 rfl (w.heap.size + 1) 5 i0 Tryz.underlying82 Tryz.underlying9 hi hz0 hz1 hz2 _ _ _ rfl hown2' (s.extract nx (src + 1 + pos)) rfl (by simp; unfold maxLen; omega) (by simp; omega) (by omega) ?_; intro v' w3 hown3 hgr3 _; rw [strCells_extract, ← byteCells_append, ← HL.out] at hown3; have HB3 : Hid (Below w.heap.size w w3) := (Below.grown hbw2' hgr3 (by omega) (fun j hj => by have := (hown2'.lt _ hj).1; omega)); have HIT3 : Hid (w3.heap[w.heap.size]? = some (.stringIter (s.extract (src + 1) s.size) (pos + D))) := ((hgr3.block _ hsz2 (fun h => by have := (hown2'.lt _ h.symm).1; omega)).trans hit2'.out); have hsz3 : w.heap.size < w3.heap.size := (by (have := hgr3.size; omega)); clear hgr3) | (at_builtin; refine wpList_append_own _ rfl _ _ 82 rfl (w.heap.size + 1) 5 i0 (.int .u8 0) 1 1 Tryz.underlying82 hi hz0 hz1 hz2 rfl (by decide) _ _ _ rfl (hown3.alloc _) ⟨w3.heap.size, 0, none⟩ 1 1 [.int .u8 b] rfl rfl (cell_one_new _ _ _) (fun x hx => by simp at hx; subst hx; rfl) (by simp; unfold maxLen; omega) (by simp; omega) (by simp; omega) ?_; intro v4 w4 hown4 hgr4 _; have HB4 : Hid (Below w.heap.size w w4) := (Below.grown (HB3.out.alloc (by omega) _) hgr4 (by simp; omega) (fun j hj => by have := (hown3.lt _ hj).1; omega)); have HIT4 : Hid (w4.heap[w.heap.size]? = some (.stringIter (s.extract (src + 1) s.size) (pos + D))) := ((hgr4.block _ (by simp; omega) (fun h => by have := (hown3.lt _ h.symm).1; omega)).trans ((Below.heap_alloc _ _ _ hsz3).trans HIT3.out)); have HO4 : Hid (w4.ownsRow (w.heap.size + 1) 5 1 v4 _ _) := hown4; clear hgr4 hown4))
          · have hn0 : ((n : Int) == 0) = true := by assumption
            go_ret3
            have hsp : lit L src (src + 1) [] = .error (11, src + 1 + pos) := by
              rw [HAT.out, lit_none _ _ _ _ (by omega) H92.out (by rw [← hx.out]; simp at hn0; omega)]
            rw [hsp]
            exact .error 11 (src + 1 + pos) b' rfl (by omega) (by have e : ((src + 1 + pos : Nat) : Int) = (src : Int) + 1 + pos := (by omega); rw [e]; exact hwr) (hbw2'.trans (hb3.mono (by omega)))
          · have hn0 : ((n : Int) == 0) = false := by assumption
            have hn1 : n ≠ 0 := by simp at hn0; omega
            have hpl : ((L.drop nx).take (src + 1 + pos - nx)).length = src + 1 + pos - nx := by simp; omega
            have hD1 : D = 1 := HASC.out (by rw [H92.out]; decide)
            go_roundw
            case rel =>
              refine ⟨pos + D, src + 1 + pos + n, acc ++ (L.drop nx).take (src + 1 + pos - nx) ++ [UInt8.ofNat b], by go_num, HIT4.out, own_snoc HO4.out hb256, HB4.out, by omega, by omega, by omega, by rw [List.length_append, List.length_append, hpl]; simp; omega, ?_⟩
              rw [hD1]
              exact HI.out.esc hsk (by omega) H92.out hx.out hn1
            case measure => rw [iterPos_of HIT4.out, HP0.out]; omega
        · rw [decide_eq_false h92] at r92
          have HN : Hid ((L.getD (src + 1 + pos) 0).toNat ≠ 10 ∧ (L.getD (src + 1 + pos) 0).toNat ≠ 34 ∧ (L.getD (src + 1 + pos) 0).toNat ≠ 92) := ⟨h10, h34, h92⟩
          clear h10 h34 h92
          go_wp2
          go_roundw
          case rel =>
            refine ⟨pos + D, nx, acc, rfl, HIT.out, hown2, hbw2, by omega, by omega, by omega, hacc, HI.out.plain hsk (by omega) fun j h1 h2 => ?_⟩
            by_cases e : j = src + 1 + pos
            · subst e; exact HN.out
            · have h3 := HDR.out (j - (src + 1)) (by omega) (by omega)
              rw [get_bang _ _ (by omega), getD_extract s (src + 1) (j - (src + 1)) (by omega), ← HL.out, show src + 1 + (j - (src + 1)) = j by omega] at h3
              omega
          case measure => rw [iterPos_of HIT.out, HP0.out]; omega
    · have hnxt : ∀ ty, (Instr.next (.pointer (some ⟨w.heap.size, 0, none⟩)) true ty).run Tryz.prog wr = _ := fun ty => Lib.run_next_end_at wr w.heap.size _ pos ty hit (by omega)
      have hsp : lit L src (src + 1) [] = .error (11, src) := by
        rw [HI.out.at (by omega), lit_end _ _ _ _ (by omega)]
      go_wp2_with (go_at_call 154; refine (wrong_at _ _ _).mono ?_; rintro r w2 ⟨b, rfl, hlo, hwr, hb2⟩)
      go_ret3
      rw [hsp]
      have := hbw.size
      exact .error 11 src b rfl (by omega) hwr (hbw.trans (hb2.mono (by omega)))
end Go.Proofs.YthbnegggohegkaaGreatDoor
namespace Go.Proofs.YthbnegggohegkaaGreatDoor
open Go.RowKit

def textSpec (l : Bytes) (a : Nat) : Except (Nat × Nat) (Nat × Bytes × Nat) :=
  match lit l a (a + 1) [] with
  | .error e => .error e
  | .ok (t, n) => .ok (6, t, n)

set_option maxHeartbeats 1000000 in
theorem textAt_any (s : ByteArray) (a : Nat) (w : World) (ha : a < s.size) (hlim : s.size ≤ 60000) :
    Calls Tryz.prog 171 #[.string s, .int .i64 a] w fun e w' => TokRes w w' e a (textSpec s.data.toList a) := by
  have hb0 : Below w.heap.size w (w.alloc (Obj.cells #[.int .i64 0, .string ⟨#[]⟩, .int .i64 0] 169)) := (Below.refl _ _).alloc (Nat.le_refl _) _
  have HB0 : Hid (Below w.heap.size w (w.alloc (Obj.cells #[.int .i64 0, .string ⟨#[]⟩, .int .i64 0] 169))) := hb0
  clear hb0
  have HT : Hid (∀ e, lit s.data.toList a (a + 1) [] = .error e → textSpec s.data.toList a = .error e) := fun e h => by simp [textSpec, h]
  have HO : Hid (∀ t n, lit s.data.toList a (a + 1) [] = .ok (t, n) → textSpec s.data.toList a = .ok (6, t, n)) := fun t n h => by simp [textSpec, h]
  obtain ⟨sp, hsp⟩ : ∃ sp, sp = textSpec s.data.toList a := ⟨_, rfl⟩
  rw [← hsp] at HT HO ⊢
  clear hsp
  go_enter Tryz.func171, Tryz.ntmps171
  go_wp2_with fail
  refine (literalAt_any s a _ ha (by omega)).mono ?_
  intro r w2 hres
  generalize hlit : lit s.data.toList a (a + 1) [] = x at hres
  have HLIT : Hid (lit s.data.toList a (a + 1) [] = x) := hlit
  clear hlit
  cases hres with
  | ok t n he hb =>
    subst he
    obtain ⟨hc, hf⟩ := bcell hb
    have hz : w.heap.size < w2.heap.size := by have := hb.size; simp at this; omega
    go_wp2
    refine bodyPost_ret (v := .tuple #[.agg #[.int .i64 6, .string ⟨t.toArray⟩, .int .i64 a], .int .i64 n, .nilIface]) (by simp [results, Tryz.results171, go_sem, hc]) rfl ?_
    rw [HO.out t n HLIT.out]
    exact .ok 6 t n rfl ((((HB0.out.trans (hb.mono (by simp))).setCell (Nat.le_refl _) _).setCell (Nat.le_refl _) _).setCell (Nat.le_refl _) _)
  | error c p b he hlo hwr hb =>
    subst he
    obtain ⟨hc, hf⟩ := bcell hb
    have hz : w.heap.size < w2.heap.size := by have := hb.size; simp at this; omega
    have hlo' : w.heap.size < b := by simp at hlo; omega
    go_wp2
    refine bodyPost_ret (v := .tuple #[.agg #[.int .i64 0, .string ⟨#[]⟩, .int .i64 0], .int .i64 0, .iface 67 (.pointer (some ⟨b, 0, none⟩))]) (by simp [results, Tryz.results171, go_sem, hc]) rfl ?_
    rw [HT.out _ HLIT.out]
    refine .error c p b rfl (by omega) (((hwr.setCell ?_ _).setCell ?_ _).setCell ?_ _) ?_
    · show w.heap.size ≠ b; omega
    · show w.heap.size ≠ b; omega
    · show w.heap.size ≠ b; omega
    · exact (((HB0.out.trans (hb.mono (by simp))).setCell (Nat.le_refl _) _).setCell (Nat.le_refl _) _).setCell (Nat.le_refl _) _

/-- The token that begins at a, with the byte c. -/
def tokSpec (l : Bytes) (a : Nat) (c : Nat) : Except (Nat × Nat) (Nat × Bytes × Nat) :=
  if c = 59 then .ok (1, [], a + 1) else if c = 34 then textSpec l a else if letterN c then nameSpec l a else if digitN c then numSpec l a else signSpec l a

set_option maxHeartbeats 2000000 in
theorem tokenAt_any {gw ow gs os : Nat} (s : ByteArray) (a c : Nat) (R : Int) (w : World) (ht : TabsAt gw ow gs os w) (ha : a < s.size) (hlim : s.size ≤ 60000)
    (h59 : (R == 59) = decide (c = 59)) (h34 : (R == 34) = decide (c = 34)) (hle : letterI R = letterN c) (hdi : digitI R = digitN c) :
    Calls Tryz.prog 158 #[.string s, .int .i64 a, .int .i32 R] w fun e w' => TokRes w w' e a (tokSpec s.data.toList a c) := by
  have hb0 : Below w.heap.size w (w.alloc (Obj.cells #[.int .i64 0, .string ⟨#[]⟩, .int .i64 0] 169)) := (Below.refl _ _).alloc (Nat.le_refl _) _
  have ht1 := ht.below (Nat.le_refl _) hb0
  have HB0 : Hid (Below w.heap.size w (w.alloc (Obj.cells #[.int .i64 0, .string ⟨#[]⟩, .int .i64 0] 169))) := hb0
  clear hb0
  obtain ⟨l, hl⟩ : ∃ l, l = s.data.toList := ⟨_, rfl⟩
  have HL : Hid (l = s.data.toList) := hl
  rw [← hl]
  clear hl
  by_cases c59 : c = 59
  · rw [decide_eq_true c59] at h59
    have HSP : Hid (tokSpec l a c = .ok (1, [], a + 1)) := by show _ = _; rw [tokSpec, if_pos c59]
    clear c59 h34 hle hdi
    go_enter Tryz.func158, Tryz.ntmps158
    go_wp2
    refine bodyPost_ret (v := .tuple #[.agg #[.int .i64 1, .string ⟨#[]⟩, .int .i64 a], .int .i64 ((a : Int) + 1), .nilIface]) (by simp [results, Tryz.results158, go_sem]) rfl ?_
    rw [HSP.out]
    exact .ok 1 [] _ (by simp) (by first | exact (Below.refl _ _).alloc (Nat.le_refl _) _ | exact (((HB0.out.setCell (Nat.le_refl _) _).setCell (Nat.le_refl _) _).setCell (Nat.le_refl _) _))
  rw [decide_eq_false c59] at h59
  by_cases c34 : c = 34
  · rw [decide_eq_true c34] at h34
    go_enter Tryz.func158, Tryz.ntmps158
    have HSP : Hid (tokSpec l a c = textSpec l a) := by
      show _ = _
      rw [tokSpec, if_neg c59, if_pos c34]
    generalize hy : textSpec l a = y at HSP
    have hy' := hy.symm
    clear hy
    go_wp2_with (first | (go_at_call 152; refine (isLetter_any _ _).mono ?_; rintro r w1 ⟨rfl, rfl⟩) | (go_at_call 168; refine (isDigit_any _ _).mono ?_; rintro r w1 ⟨rfl, rfl⟩))
    refine (textAt_any s a _ ha hlim).mono ?_
    intro r w2 hres
    rw [← HL.out, ← hy'] at hres
    clear hy'
    cases hres with
    | ok k t n he hb =>
      subst he
      obtain ⟨hc, hf⟩ := bcell hb
      have hz : w.heap.size < w2.heap.size := by have := hb.size; simp at this; omega
      go_wp2
      refine bodyPost_ret (v := .tuple #[.agg #[.int .i64 k, .string ⟨t.toArray⟩, .int .i64 a], .int .i64 n, .nilIface]) (by simp [results, Tryz.results158, go_sem, hc]) rfl ?_
      rw [HSP.out]
      exact .ok k t n rfl ((((HB0.out.trans (hb.mono (by simp))).setCell (Nat.le_refl _) _).setCell (Nat.le_refl _) _).setCell (Nat.le_refl _) _)
    | error c' p b he hlo hwr hb =>
      subst he
      obtain ⟨hc, hf⟩ := bcell hb
      have hz : w.heap.size < w2.heap.size := by have := hb.size; simp at this; omega
      have hlo' : w.heap.size < b := by simp at hlo; omega
      go_wp2
      refine bodyPost_ret (v := .tuple #[.agg #[.int .i64 0, .string ⟨#[]⟩, .int .i64 0], .int .i64 0, .iface 67 (.pointer (some ⟨b, 0, none⟩))]) (by simp [results, Tryz.results158, go_sem, hc]) rfl ?_
      rw [HSP.out]
      refine .error c' p b rfl (by omega) (((hwr.setCell ?_ _).setCell ?_ _).setCell ?_ _) ?_
      · show w.heap.size ≠ b; omega
      · show w.heap.size ≠ b; omega
      · show w.heap.size ≠ b; omega
      · exact (((HB0.out.trans (hb.mono (by simp))).setCell (Nat.le_refl _) _).setCell (Nat.le_refl _) _).setCell (Nat.le_refl _) _
  rw [decide_eq_false c34] at h34
  cases cl : letterN c with
  | true =>
    rw [cl] at hle
    go_enter Tryz.func158, Tryz.ntmps158
    have HSP : Hid (tokSpec l a c = nameSpec l a) := by
      show _ = _
      rw [tokSpec, if_neg c59, if_neg c34, if_pos cl]
    generalize hy : nameSpec l a = y at HSP
    have hy' := hy.symm
    clear hy
    go_wp2_with (first | (go_at_call 152; refine (isLetter_any _ _).mono ?_; rintro r w1 ⟨rfl, rfl⟩) | (go_at_call 168; refine (isDigit_any _ _).mono ?_; rintro r w1 ⟨rfl, rfl⟩))
    refine (nameAt_any s a _ ht1 (by omega) hlim).mono ?_
    intro r w2 hres
    rw [← HL.out, ← hy'] at hres
    clear hy'
    cases hres with
    | ok k t n he hb =>
      subst he
      obtain ⟨hc, hf⟩ := bcell hb
      have hz : w.heap.size < w2.heap.size := by have := hb.size; simp at this; omega
      go_wp2
      refine bodyPost_ret (v := .tuple #[.agg #[.int .i64 k, .string ⟨t.toArray⟩, .int .i64 a], .int .i64 n, .nilIface]) (by simp [results, Tryz.results158, go_sem, hc]) rfl ?_
      rw [HSP.out]
      exact .ok k t n rfl ((((HB0.out.trans (hb.mono (by simp))).setCell (Nat.le_refl _) _).setCell (Nat.le_refl _) _).setCell (Nat.le_refl _) _)
    | error c' p b he hlo hwr hb =>
      subst he
      obtain ⟨hc, hf⟩ := bcell hb
      have hz : w.heap.size < w2.heap.size := by have := hb.size; simp at this; omega
      have hlo' : w.heap.size < b := by simp at hlo; omega
      go_wp2
      refine bodyPost_ret (v := .tuple #[.agg #[.int .i64 0, .string ⟨#[]⟩, .int .i64 0], .int .i64 0, .iface 67 (.pointer (some ⟨b, 0, none⟩))]) (by simp [results, Tryz.results158, go_sem, hc]) rfl ?_
      rw [HSP.out]
      refine .error c' p b rfl (by omega) (((hwr.setCell ?_ _).setCell ?_ _).setCell ?_ _) ?_
      · show w.heap.size ≠ b; omega
      · show w.heap.size ≠ b; omega
      · show w.heap.size ≠ b; omega
      · exact (((HB0.out.trans (hb.mono (by simp))).setCell (Nat.le_refl _) _).setCell (Nat.le_refl _) _).setCell (Nat.le_refl _) _
  | false =>
  rw [cl] at hle
  cases cd : digitN c with
  | true =>
    rw [cd] at hdi
    go_enter Tryz.func158, Tryz.ntmps158
    have HSP : Hid (tokSpec l a c = numSpec l a) := by
      show _ = _
      rw [tokSpec, if_neg c59, if_neg c34, if_neg (by rw [cl]; decide), if_pos cd]
    generalize hy : numSpec l a = y at HSP
    have hy' := hy.symm
    clear hy
    go_wp2_with (first | (go_at_call 152; refine (isLetter_any _ _).mono ?_; rintro r w1 ⟨rfl, rfl⟩) | (go_at_call 168; refine (isDigit_any _ _).mono ?_; rintro r w1 ⟨rfl, rfl⟩))
    refine (numberAt_any s a _ ha hlim).mono ?_
    intro r w2 hres
    rw [← HL.out, ← hy'] at hres
    clear hy'
    cases hres with
    | ok k t n he hb =>
      subst he
      obtain ⟨hc, hf⟩ := bcell hb
      have hz : w.heap.size < w2.heap.size := by have := hb.size; simp at this; omega
      go_wp2
      refine bodyPost_ret (v := .tuple #[.agg #[.int .i64 k, .string ⟨t.toArray⟩, .int .i64 a], .int .i64 n, .nilIface]) (by simp [results, Tryz.results158, go_sem, hc]) rfl ?_
      rw [HSP.out]
      exact .ok k t n rfl ((((HB0.out.trans (hb.mono (by simp))).setCell (Nat.le_refl _) _).setCell (Nat.le_refl _) _).setCell (Nat.le_refl _) _)
    | error c' p b he hlo hwr hb =>
      subst he
      obtain ⟨hc, hf⟩ := bcell hb
      have hz : w.heap.size < w2.heap.size := by have := hb.size; simp at this; omega
      have hlo' : w.heap.size < b := by simp at hlo; omega
      go_wp2
      refine bodyPost_ret (v := .tuple #[.agg #[.int .i64 0, .string ⟨#[]⟩, .int .i64 0], .int .i64 0, .iface 67 (.pointer (some ⟨b, 0, none⟩))]) (by simp [results, Tryz.results158, go_sem, hc]) rfl ?_
      rw [HSP.out]
      refine .error c' p b rfl (by omega) (((hwr.setCell ?_ _).setCell ?_ _).setCell ?_ _) ?_
      · show w.heap.size ≠ b; omega
      · show w.heap.size ≠ b; omega
      · show w.heap.size ≠ b; omega
      · exact (((HB0.out.trans (hb.mono (by simp))).setCell (Nat.le_refl _) _).setCell (Nat.le_refl _) _).setCell (Nat.le_refl _) _
  | false =>
    rw [cd] at hdi
    go_enter Tryz.func158, Tryz.ntmps158
    have HSP : Hid (tokSpec l a c = signSpec l a) := by
      show _ = _
      rw [tokSpec, if_neg c59, if_neg c34, if_neg (by rw [cl]; decide), if_neg (by rw [cd]; decide)]
    generalize hy : signSpec l a = y at HSP
    have hy' := hy.symm
    clear hy
    go_wp2_with (first | (go_at_call 152; refine (isLetter_any _ _).mono ?_; rintro r w1 ⟨rfl, rfl⟩) | (go_at_call 168; refine (isDigit_any _ _).mono ?_; rintro r w1 ⟨rfl, rfl⟩))
    refine (signAt_any s a _ ht1 (by omega) hlim).mono ?_
    intro r w2 hres
    rw [← HL.out, ← hy'] at hres
    clear hy'
    cases hres with
    | ok k t n he hb =>
      subst he
      obtain ⟨hc, hf⟩ := bcell hb
      have hz : w.heap.size < w2.heap.size := by have := hb.size; simp at this; omega
      go_wp2
      refine bodyPost_ret (v := .tuple #[.agg #[.int .i64 k, .string ⟨t.toArray⟩, .int .i64 a], .int .i64 n, .nilIface]) (by simp [results, Tryz.results158, go_sem, hc]) rfl ?_
      rw [HSP.out]
      exact .ok k t n rfl ((((HB0.out.trans (hb.mono (by simp))).setCell (Nat.le_refl _) _).setCell (Nat.le_refl _) _).setCell (Nat.le_refl _) _)
    | error c' p b he hlo hwr hb =>
      subst he
      obtain ⟨hc, hf⟩ := bcell hb
      have hz : w.heap.size < w2.heap.size := by have := hb.size; simp at this; omega
      have hlo' : w.heap.size < b := by simp at hlo; omega
      go_wp2
      refine bodyPost_ret (v := .tuple #[.agg #[.int .i64 0, .string ⟨#[]⟩, .int .i64 0], .int .i64 0, .iface 67 (.pointer (some ⟨b, 0, none⟩))]) (by simp [results, Tryz.results158, go_sem, hc]) rfl ?_
      rw [HSP.out]
      refine .error c' p b rfl (by omega) (((hwr.setCell ?_ _).setCell ?_ _).setCell ?_ _) ?_
      · show w.heap.size ≠ b; omega
      · show w.heap.size ≠ b; omega
      · show w.heap.size ≠ b; omega
      · exact (((HB0.out.trans (hb.mono (by simp))).setCell (Nat.le_refl _) _).setCell (Nat.le_refl _) _).setCell (Nat.le_refl _) _
end Go.Proofs.YthbnegggohegkaaGreatDoor
namespace Go.Proofs.YthbnegggohegkaaGreatDoor
open Go.RowKit

abbrev Tok := Nat × Bytes × Nat
def tokCell (t : Tok) : List Value := [.int .i64 t.1, .string ⟨t.2.1.toArray⟩, .int .i64 t.2.2]
def tokCells (ts : List Tok) : List Value := ts.flatMap tokCell
theorem tokCells_length (ts : List Tok) : (tokCells ts).length = ts.length * 3 := by
  induction ts with
  | nil => rfl
  | cons t ts ih =>
    rw [tokCells, List.flatMap_cons, List.length_append]
    have : (List.flatMap tokCell ts).length = ts.length * 3 := ih
    rw [this]; simp [tokCell]; omega
theorem tokCells_append (a b : List Tok) : tokCells (a ++ b) = tokCells a ++ tokCells b := by simp [tokCells]
theorem tokCells_one (t : Tok) : tokCells [t] = tokCell t := by simp [tokCells]

theorem tokCells_last (init : List Tok) (t : Tok) (j : Nat) : (tokCells (init ++ [t]))[init.length * 3 + j]? = (tokCell t)[j]? := by
  rw [tokCells_append, tokCells_one, List.getElem?_append_right (by rw [tokCells_length]; omega), tokCells_length, Nat.add_sub_cancel_left]

theorem info48 : (Tryz.prog.info? 169).map (fun i => (i.zero, i.size, i.bytes)) = some (some (.agg #[.int .i64 0, .string ⟨#[]⟩, .int .i64 0]), 3, 32) := by kernel_rfl

/-- The end that a line feed, or the text's end, makes. -/
def feed (ts : List Tok) (a : Nat) : List Tok :=
  match ts.getLast? with
  | none => ts
  | some t => if endsB t.1 t.2.1 then ts ++ [(1, [], a)] else ts

theorem feed_nil (a : Nat) : feed [] a = [] := rfl
theorem feed_snoc (init : List Tok) (t : Tok) (a : Nat) : feed (init ++ [t]) a = if endsB t.1 t.2.1 then init ++ [t] ++ [(1, [], a)] else init ++ [t] := by
  simp [feed]

theorem tok_new (w : World) (k : Nat) (t : Bytes) (a : Nat) : ∀ j u, (tokCell (k, t, a))[j]? = some u → (w.alloc (.cells #[.int .i64 k, .string ⟨t.toArray⟩, .int .i64 a] 169)).cell? ((⟨w.heap.size, 0, none⟩ : Addr).add j) = some u := by
  intro j u hj
  match j with
  | 0 => simp [tokCell] at hj; subst hj; simp [Addr.add]
  | 1 => simp [tokCell] at hj; subst hj; simp [Addr.add]
  | 2 => simp [tokCell] at hj; subst hj; simp [Addr.add]
  | j + 3 => simp [tokCell] at hj

set_option maxRecDepth 100000 in
set_option maxHeartbeats 1000000 in
theorem endLine_any {gw ow gs os : Nat} (B : Nat) (v : Value) (ts : List Tok) (a : Nat) (w : World) (ht : TabsAt gw ow gs os w) (hB : B ≤ w.heap.size) (hown : w.ownsRow B 169 3 v ts.length (tokCells ts)) (hn : ts.length ≤ 70000) :
    Calls Tryz.prog 155 #[v, .int .i64 a] w fun e w' => ∃ v', e = .returned v' ∧ w'.ownsRow B 169 3 v' (feed ts a).length (tokCells (feed ts a)) ∧ Below B w w' := by
  obtain ⟨i0, hi, hz0, hz1, hz2⟩ := info_parts info48
  rcases List.eq_nil_or_concat ts with rfl | ⟨init, t, rfl⟩
  · rcases hown.2 with ⟨rfl, _⟩ | ⟨g, cap, cur, rfl, _⟩
    · go_enter Tryz.func155, Tryz.ntmps155
      go_wp2
      go_ret
      exact ⟨_, rfl, hown, Below.refl _ _⟩
    · simp only [List.length_nil] at hown ⊢
      go_enter Tryz.func155, Tryz.ntmps155
      go_wp2
      go_ret
      exact ⟨_, rfl, hown, Below.refl _ _⟩
  · rw [List.concat_eq_append] at hown hn ⊢
    obtain ⟨k, tx, at'⟩ := t
    have c0 : (tokCells (init ++ [(k, tx, at')]))[init.length * 3]? = some (.int .i64 k) := tokCells_last init (k, tx, at') 0
    have c1 : (tokCells (init ++ [(k, tx, at')]))[init.length * 3 + 1]? = some (.string ⟨tx.toArray⟩) := tokCells_last init (k, tx, at') 1
    have c2 : (tokCells (init ++ [(k, tx, at')]))[init.length * 3 + 2]? = some (.int .i64 at') := tokCells_last init (k, tx, at') 2
    have HO : Hid (w.ownsRow B 169 3 v (init ++ [(k, tx, at')]).length (tokCells (init ++ [(k, tx, at')]))) := hown
    have hlen : (init ++ [(k, tx, at')]).length = init.length + 1 := by simp
    rw [hlen] at hown hn
    rcases hown.2 with ⟨_, h0⟩ | ⟨g, cap, cur, rfl, hg, hh, hncap, hcapm, _, _⟩
    · omega
    have d0 := (hown.cellAt (init.length * 3) (by omega)).trans c0
    have d1 := (hown.cellAt (init.length * 3 + 1) (by omega)).trans c1
    have d2 := (hown.cellAt (init.length * 3 + 2) (by omega)).trans c2
    have HE : Hid (feed (init ++ [(k, tx, at')]) a = if endsB k tx then init ++ [(k, tx, at')] ++ [(1, [], a)] else init ++ [(k, tx, at')]) := feed_snoc init (k, tx, at') a
    have htx : (ByteArray.mk tx.toArray).toList = tx := by rw [ByteArray.toList_eq]
    have hg0 : (((init.length : Int) + 1) == 0) = false := by simp; omega
    have hwr : IntKind.i64.wrap (init.length : Int) = (init.length : Int) := by rw [IntKind.wrap_i64]; omega
    have hix1 : (init.length : Int) < (init.length : Int) + 1 := by omega
    have hix0 : (0 : Int) ≤ (init.length : Int) := by omega
    have cs48 : Tryz.prog.cellsOf 169 = 3 := by kernel_rfl
    go_enter Tryz.func155, Tryz.ntmps155
    go_wp2_with (first | (go_at_call 169; refine (endsLine_any _ _ _ _ ht).mono ?_; rintro r w1 ⟨rfl, hb1⟩; have hown1 := ownsRow_below hown hb1; have hB1 : B ≤ w1.heap.size := (by (have := hb1.size; omega))) | (at_builtin; refine wpList_append_own _ rfl _ _ 165 rfl B 169 i0 (.agg #[.int .i64 0, .string ⟨#[]⟩, .int .i64 0]) 3 32 Tryz.underlying165 hi hz0 hz1 hz2 rfl (by decide) _ _ _ rfl (hown1.alloc _) ⟨w1.heap.size, 0, none⟩ 1 1 (tokCell (1, [], a)) rfl rfl (tok_new _ _ _ _) (fun x hx => by simp [tokCell] at hx; rcases hx with rfl | rfl | rfl <;> rfl) (by unfold maxLen; omega) (by omega) (by simp; omega) ?_; intro v' w3 hown3 hgr3 _))
    · have he : endsB k tx = false := by have : ¬ endsB k (ByteArray.mk tx.toArray).toList = true := (by simp_all); rw [htx] at this; simpa using this
      go_ret
      refine ⟨_, rfl, ?_, hb1.mono (by omega)⟩
      rw [HE.out, he]
      have := ownsRow_below HO.out hb1
      exact this
    · have he : endsB k tx = true := by have : endsB k (ByteArray.mk tx.toArray).toList = true := (by simp_all); rw [htx] at this; exact this
      go_ret
      refine ⟨_, rfl, ?_, Below.grown ((hb1.mono (by omega)).alloc (by omega) _) hgr3 (by simp; omega) (fun j hj => by have := (hown1.lt _ hj).1; omega)⟩
      rw [HE.out, he, if_pos rfl, tokCells_append, tokCells_one, List.length_append, hlen]
      exact hown3
end Go.Proofs.YthbnegggohegkaaGreatDoor
namespace Go.Proofs.YthbnegggohegkaaGreatDoor
open Go.RowKit

def scanGo (l : Bytes) : Nat → Nat → List Tok → Except (Nat × Nat) (List Tok)
  | 0, _, ts => .ok (feed ts l.length)
  | f + 1, k, ts =>
    if k < l.length then
      if (l.getD k 0).toNat = 32 ∨ (l.getD k 0).toNat = 9 then scanGo l f (k + 1) ts
      else if (l.getD k 0).toNat = 10 then scanGo l f (k + 1) (feed ts k)
      else if [47, 47].isPrefixOf (l.drop k) then scanGo l f (k + spanB lineN (l.drop k)) ts
      else match tokSpec l k (l.getD k 0).toNat with
        | .error e => .error e
        | .ok (kd, t, n) => scanGo l f n (ts ++ [(kd, t, k)])
    else .ok (feed ts l.length)

/-- The tokens from k on, behind those that were read. -/
def scanAt (l : Bytes) (k : Nat) (ts : List Tok) : Except (Nat × Nat) (List Tok) := scanGo l (l.length + 1) k ts
def scanSpec (l : Bytes) : Except (Nat × Nat) (List Tok) := if 60000 < l.length then .error (13, 0) else scanAt l 0 []

theorem litGo_fwd (l : Bytes) (src : Nat) : ∀ (f k : Nat) (acc t : Bytes) (n : Nat), litGo l src f k acc = .ok (t, n) → k < n ∧ n ≤ l.length ∧ (l.getD (n - 1) 0).toNat = 34 := by
  intro f
  induction f with
  | zero => intro k acc t n h; simp [litGo] at h
  | succ f ih =>
    intro k acc t n h
    simp only [litGo] at h
    by_cases hk : k < l.length
    · rw [if_pos hk] at h
      by_cases h1 : (l.getD k 0).toNat = 10
      · rw [if_pos h1] at h; cases h
      rw [if_neg h1] at h
      by_cases h2 : (l.getD k 0).toNat = 34
      · rw [if_pos h2] at h
        have := Except.ok.inj h
        have hn : k + 1 = n := congrArg Prod.snd this
        subst hn
        exact ⟨by omega, by omega, by rw [Nat.add_sub_cancel]; exact h2⟩
      rw [if_neg h2] at h
      by_cases h3 : (l.getD k 0).toNat = 92
      · rw [if_pos h3] at h
        by_cases h4 : (esc (l.drop k)).2 = 0
        · rw [if_pos h4] at h; cases h
        rw [if_neg h4] at h
        have := ih _ _ _ _ h
        exact ⟨by omega, this.2⟩
      · rw [if_neg h3] at h
        have := ih _ _ _ _ h
        exact ⟨by omega, this.2⟩
    · rw [if_neg hk] at h; cases h

theorem spanB_mem (q : Nat → Bool) (l : Bytes) (j : Nat) (h : j < spanB q l) : q (l.getD j 0).toNat = true := by
  induction l generalizing j with
  | nil => simp [spanB_nil] at h
  | cons b l ih =>
    rw [spanB_cons] at h
    by_cases hb : q b.toNat = true
    · rw [if_pos hb] at h
      cases j with
      | zero => simpa using hb
      | succ j => simpa using ih j (by omega)
    · rw [if_neg hb] at h; omega
theorem spanB_pos (q : Nat → Bool) (l : Bytes) (h : 0 < l.length) (hq : q (l.getD 0 0).toNat = true) : 0 < spanB q l := by
  cases l with
  | nil => simp at h
  | cons b l => rw [spanB_cons, if_pos (by simpa using hq)]; omega
theorem getD_drop (l : Bytes) (a j : Nat) : (l.drop a).getD j 0 = l.getD (a + j) 0 := by
  rw [List.getD_eq_getElem?_getD, List.getElem?_drop, ← List.getD_eq_getElem?_getD]

theorem letterN_lt (n : Nat) (h : letterN n = true) : n < 128 := by
  by_cases h2 : 128 ≤ n
  · rw [letterN_high n h2] at h; cases h
  · omega
theorem digitN_lt (n : Nat) (h : digitN n = true) : n < 128 := by
  by_cases h2 : 128 ≤ n
  · rw [digitN_high n h2] at h; cases h
  · omega
theorem partN_lt (n : Nat) (h : partN n = true) : n < 128 := by
  unfold partN at h
  rw [Bool.or_eq_true] at h
  exact h.elim (letterN_lt n) (digitN_lt n)

theorem signLen_last (l : Bytes) (h : signLen l ≠ 0) : (l.getD (signLen l - 1) 0).toNat < 128 := by
  have hex : ∃ x, signTab.find? (fun x => x.isPrefixOf l) = some x ∧ signLen l = x.length := by
    unfold signLen at *
    cases h1 : signTab.find? (fun x => x.isPrefixOf l) with
    | none => rw [h1] at h; simp at h
    | some x => exact ⟨x, rfl, rfl⟩
  obtain ⟨x, hx, hl⟩ := hex
  have hp := List.find?_some hx
  have hm := List.mem_of_find?_eq_some hx
  rw [List.isPrefixOf_iff_prefix] at hp
  obtain ⟨r, rfl⟩ := hp
  rw [hl] at h ⊢
  have hall : ∀ y ∈ signTab, ∀ b ∈ y, b.toNat < 128 := by decide
  have e : (x ++ r).getD (x.length - 1) 0 = x.getD (x.length - 1) 0 := by
    rw [List.getD_eq_getElem?_getD, List.getElem?_append_left (by omega), ← List.getD_eq_getElem?_getD]
  rw [e, List.getD_eq_getElem?_getD, List.getElem?_eq_getElem (show x.length - 1 < x.length by omega)]
  exact hall x hm _ (List.getElem_mem _)

/-- A token ends behind its beginning, within the text, with a byte below 128. -/
theorem tok_fwd (l : Bytes) (k kd n : Nat) (t : Bytes) (hk : k < l.length) (h : tokSpec l k (l.getD k 0).toNat = .ok (kd, t, n)) : k < n ∧ n ≤ l.length ∧ (l.getD (n - 1) 0).toNat < 128 := by
  have hdl : 0 < (l.drop k).length := by simp; omega
  have hd0 : (l.drop k).getD 0 0 = l.getD k 0 := by rw [getD_drop]; rfl
  unfold tokSpec at h
  by_cases c1 : (l.getD k 0).toNat = 59
  · rw [if_pos c1] at h
    have hn : k + 1 = n := congrArg (fun x => x.2.2) (Except.ok.inj h)
    subst hn
    exact ⟨by omega, by omega, by rw [Nat.add_sub_cancel, c1]; decide⟩
  rw [if_neg c1] at h
  by_cases c2 : (l.getD k 0).toNat = 34
  · rw [if_pos c2] at h
    unfold textSpec at h
    cases hl : lit l k (k + 1) [] with
    | error e => rw [hl] at h; cases h
    | ok p =>
      obtain ⟨t', n'⟩ := p
      rw [hl] at h
      have hn : n' = n := congrArg (fun x => x.2.2) (Except.ok.inj h)
      subst hn
      have := litGo_fwd l k _ _ _ _ _ hl
      exact ⟨by omega, this.2.1, by rw [this.2.2]; decide⟩
  rw [if_neg c2] at h
  by_cases c3 : letterN (l.getD k 0).toNat = true
  · rw [if_pos c3] at h
    have hp : 0 < spanB partN (l.drop k) := spanB_pos _ _ hdl (by rw [hd0, partN, c3]; rfl)
    have hle := spanB_le partN (l.drop k)
    simp only [nameSpec] at h
    by_cases h40 : 40 < spanB partN (l.drop k)
    · rw [if_pos h40] at h; cases h
    rw [if_neg h40] at h
    have hn : k + spanB partN (l.drop k) = n := congrArg (fun x => x.2.2) (Except.ok.inj h)
    subst hn
    refine ⟨by omega, by simp at hle; omega, ?_⟩
    have := spanB_mem partN (l.drop k) (spanB partN (l.drop k) - 1) (by omega)
    rw [getD_drop, show k + (spanB partN (l.drop k) - 1) = k + spanB partN (l.drop k) - 1 by omega] at this
    exact partN_lt _ this
  rw [if_neg c3] at h
  by_cases c4 : digitN (l.getD k 0).toNat = true
  · rw [if_pos c4] at h
    have hp : 0 < spanB digitN (l.drop k) := spanB_pos _ _ hdl (by rw [hd0]; exact c4)
    have hle := spanB_le digitN (l.drop k)
    unfold numSpec at h
    by_cases hb : numBad l k = true
    · rw [if_pos hb] at h; cases h
    rw [if_neg hb] at h
    have hn : numEnd l k = n := congrArg (fun x => x.2.2) (Except.ok.inj h)
    subst hn
    by_cases hm : 0 < partLen (l.drop (k + spanB digitN (l.drop k)))
    · have e : numEnd l k = k + spanB digitN (l.drop k) + 1 + partLen (l.drop (k + spanB digitN (l.drop k))) := if_pos hm
      have hpl := partLen_le _ hm
      rw [e]
      refine ⟨by omega, by simp at hpl; omega, ?_⟩
      have hdot : partLen (l.drop (k + spanB digitN (l.drop k))) = spanB digitN ((l.drop (k + spanB digitN (l.drop k))).drop 1) := by
        by_cases hh : (l.drop (k + spanB digitN (l.drop k))).head? = some 46
        · exact partLen_dot _ hh
        · rw [partLen_not _ hh] at hm; omega
      have := spanB_mem digitN ((l.drop (k + spanB digitN (l.drop k))).drop 1) (partLen (l.drop (k + spanB digitN (l.drop k))) - 1) (by rw [← hdot]; omega)
      rw [getD_drop, getD_drop, show k + spanB digitN (l.drop k) + (1 + (partLen (l.drop (k + spanB digitN (l.drop k))) - 1)) = k + spanB digitN (l.drop k) + 1 + partLen (l.drop (k + spanB digitN (l.drop k))) - 1 by omega] at this
      exact digitN_lt _ this
    · have e : numEnd l k = k + spanB digitN (l.drop k) := if_neg hm
      rw [e]
      refine ⟨by omega, by simp at hle; omega, ?_⟩
      have := spanB_mem digitN (l.drop k) (spanB digitN (l.drop k) - 1) (by omega)
      rw [getD_drop, show k + (spanB digitN (l.drop k) - 1) = k + spanB digitN (l.drop k) - 1 by omega] at this
      exact digitN_lt _ this
  rw [if_neg c4] at h
  simp only [signSpec] at h
  by_cases h0 : signLen (l.drop k) = 0
  · rw [if_pos h0] at h; cases h
  rw [if_neg h0] at h
  have hn : k + signLen (l.drop k) = n := congrArg (fun x => x.2.2) (Except.ok.inj h)
  subst hn
  have hle := signLen_le (l.drop k)
  refine ⟨by omega, by simp at hle; omega, ?_⟩
  have := signLen_last _ h0
  rw [getD_drop, show k + (signLen (l.drop k) - 1) = k + signLen (l.drop k) - 1 by omega] at this
  exact this

theorem slash_fwd (l : Bytes) (k : Nat) (h : [47, 47].isPrefixOf (l.drop k) = true) : 0 < spanB lineN (l.drop k) := by
  rw [List.isPrefixOf_iff_prefix] at h
  obtain ⟨r, hr⟩ := h
  rw [← hr]
  exact spanB_pos _ _ (by simp) (by simp [lineN])

theorem scanGo_fuel (l : Bytes) : ∀ (f g k : Nat) (ts : List Tok), l.length < k + f → l.length < k + g → scanGo l f k ts = scanGo l g k ts := by
  intro f
  induction f with
  | zero =>
    intro g k ts hf hg
    cases g with
    | zero => rfl
    | succ g => simp only [scanGo]; rw [if_neg (by omega)]
  | succ f ih =>
    intro g k ts hf hg
    cases g with
    | zero => simp only [scanGo]; rw [if_neg (by omega)]
    | succ g =>
      simp only [scanGo]
      by_cases hk : k < l.length
      · rw [if_pos hk, if_pos hk]
        by_cases h1 : (l.getD k 0).toNat = 32 ∨ (l.getD k 0).toNat = 9
        · rw [if_pos h1, if_pos h1]; exact ih _ _ _ (by omega) (by omega)
        rw [if_neg h1, if_neg h1]
        by_cases h2 : (l.getD k 0).toNat = 10
        · rw [if_pos h2, if_pos h2]; exact ih _ _ _ (by omega) (by omega)
        rw [if_neg h2, if_neg h2]
        by_cases h3 : [47, 47].isPrefixOf (l.drop k) = true
        · rw [if_pos h3, if_pos h3]
          have := slash_fwd l k h3
          exact ih _ _ _ (by omega) (by omega)
        rw [if_neg h3, if_neg h3]
        cases h4 : tokSpec l k (l.getD k 0).toNat with
        | error e => rfl
        | ok p =>
          obtain ⟨kd, t, n⟩ := p
          have := tok_fwd l k kd n t hk h4
          exact ih _ _ _ (by omega) (by omega)
      · rw [if_neg hk, if_neg hk]

theorem scan_end (l : Bytes) (k : Nat) (ts : List Tok) (h : ¬ k < l.length) : scanAt l k ts = .ok (feed ts l.length) := by
  rw [scanAt, scanGo, if_neg h]
theorem scan_blank (l : Bytes) (k : Nat) (ts : List Tok) (h : k < l.length) (h1 : (l.getD k 0).toNat = 32 ∨ (l.getD k 0).toNat = 9) : scanAt l k ts = scanAt l (k + 1) ts := by
  rw [scanAt, scanGo, if_pos h, if_pos h1]
  exact scanGo_fuel _ _ _ _ _ (by omega) (by omega)
theorem scan_feed (l : Bytes) (k : Nat) (ts : List Tok) (h : k < l.length) (h1 : (l.getD k 0).toNat = 10) : scanAt l k ts = scanAt l (k + 1) (feed ts k) := by
  rw [scanAt, scanGo, if_pos h, if_neg (by omega), if_pos h1]
  exact scanGo_fuel _ _ _ _ _ (by omega) (by omega)
theorem scan_remark (l : Bytes) (k : Nat) (ts : List Tok) (h : k < l.length) (h0 : ¬ ((l.getD k 0).toNat = 32 ∨ (l.getD k 0).toNat = 9)) (h1 : (l.getD k 0).toNat ≠ 10) (h2 : [47, 47].isPrefixOf (l.drop k) = true) :
    scanAt l k ts = scanAt l (k + spanB lineN (l.drop k)) ts := by
  rw [scanAt, scanGo, if_pos h, if_neg h0, if_neg h1, if_pos h2]
  have := slash_fwd l k h2
  exact scanGo_fuel _ _ _ _ _ (by omega) (by omega)
theorem scan_wrong (l : Bytes) (k : Nat) (ts : List Tok) (e : Nat × Nat) (h : k < l.length) (h0 : ¬ ((l.getD k 0).toNat = 32 ∨ (l.getD k 0).toNat = 9)) (h1 : (l.getD k 0).toNat ≠ 10) (h2 : [47, 47].isPrefixOf (l.drop k) = false)
    (h3 : tokSpec l k (l.getD k 0).toNat = .error e) : scanAt l k ts = .error e := by
  rw [scanAt, scanGo, if_pos h, if_neg h0, if_neg h1, if_neg (by rw [h2]; decide), h3]
theorem scan_tok (l : Bytes) (k kd n : Nat) (t : Bytes) (ts : List Tok) (h : k < l.length) (h0 : ¬ ((l.getD k 0).toNat = 32 ∨ (l.getD k 0).toNat = 9)) (h1 : (l.getD k 0).toNat ≠ 10) (h2 : [47, 47].isPrefixOf (l.drop k) = false)
    (h3 : tokSpec l k (l.getD k 0).toNat = .ok (kd, t, n)) : scanAt l k ts = scanAt l n (ts ++ [(kd, t, k)]) := by
  rw [scanAt, scanGo, if_pos h, if_neg h0, if_neg h1, if_neg (by rw [h2]; decide), h3]
  have := tok_fwd l k kd n t h h3
  exact scanGo_fuel _ _ _ _ _ (by omega) (by omega)

theorem feed_length (ts : List Tok) (a : Nat) : (feed ts a).length ≤ ts.length + 1 := by
  unfold feed
  split
  · omega
  · split <;> simp

/-- Where the reading by runes stands: at pos, what is ahead of nx has been read. -/
def ScInv (l : Bytes) (pos nx : Nat) (ts : List Tok) : Prop :=
  (pos < nx → nx = l.length ∨ (l.getD nx 0).toNat < 128 ∨ (l.getD (nx - 1) 0).toNat < 128) ∧ scanAt l (max pos nx) ts = scanAt l 0 []

theorem ScInv.start (l : Bytes) : ScInv l 0 0 [] := ⟨fun h => by omega, by simp⟩
theorem ScInv.at {l : Bytes} {pos nx : Nat} {ts : List Tok} (h : ScInv l pos nx ts) (hp : ¬ pos < nx) : scanAt l 0 [] = scanAt l pos ts := by
  rw [← h.2, Nat.max_eq_left (by omega)]
theorem ScInv.skip {l : Bytes} {pos nx d : Nat} {ts : List Tok} (h : ScInv l pos nx ts) (hp : pos < nx) (hd : pos + d ≤ l.length) (h1 : (l.getD pos 0).toNat < 128 → d = 1) (hr : ∀ j, pos < j → j < pos + d → 128 ≤ (l.getD j 0).toNat) : ScInv l (pos + d) nx ts := by
  have hle : pos + d ≤ nx := by
    rcases Nat.lt_or_ge nx (pos + d) with hlt | hge
    · exfalso
      rcases h.1 hp with e | e | e
      · omega
      · have := hr nx hp hlt; omega
      · by_cases hpe : pos = nx - 1
        · rw [← hpe] at e
          have := h1 e
          omega
        · have := hr (nx - 1) (by omega) (by omega); omega
    · exact hge
  refine ⟨fun _ => h.1 hp, ?_⟩
  rw [Nat.max_eq_right hle, ← h.2, Nat.max_eq_right (by omega)]
theorem ScInv.blank {l : Bytes} {pos nx : Nat} {ts : List Tok} (h : ScInv l pos nx ts) (hp : ¬ pos < nx) (hk : pos < l.length) (h1 : (l.getD pos 0).toNat = 32 ∨ (l.getD pos 0).toNat = 9) : ScInv l (pos + 1) nx ts := by
  refine ⟨fun h2 => by omega, ?_⟩
  rw [Nat.max_eq_left (by omega), h.at hp, scan_blank l pos ts hk h1]
theorem ScInv.feed {l : Bytes} {pos nx : Nat} {ts : List Tok} (h : ScInv l pos nx ts) (hp : ¬ pos < nx) (hk : pos < l.length) (h1 : (l.getD pos 0).toNat = 10) : ScInv l (pos + 1) nx (feed ts pos) := by
  refine ⟨fun h2 => by omega, ?_⟩
  rw [Nat.max_eq_left (by omega), h.at hp, scan_feed l pos ts hk h1]
theorem spanB_next (q : Nat → Bool) (l : Bytes) (h : spanB q l < l.length) : q (l.getD (spanB q l) 0).toNat = false := by
  induction l with
  | nil => simp at h
  | cons b l ih =>
    rw [spanB_cons] at h ⊢
    by_cases hb : q b.toNat = true
    · rw [if_pos hb] at h ⊢
      simpa using ih (by simpa using h)
    · rw [if_neg hb]; simpa using hb
theorem ScInv.remark {l : Bytes} {pos nx d n : Nat} {ts : List Tok} (h : ScInv l pos nx ts) (hp : ¬ pos < nx) (hk : pos < l.length) (hd : d = 1) (h0 : ¬ ((l.getD pos 0).toNat = 32 ∨ (l.getD pos 0).toNat = 9)) (h1 : (l.getD pos 0).toNat ≠ 10)
    (h2 : [47, 47].isPrefixOf (l.drop pos) = true) (hn : n = spanB lineN (l.drop pos)) : ScInv l (pos + d) (pos + n) ts := by
  have hf := slash_fwd l pos h2
  have hle := spanB_le lineN (l.drop pos)
  simp at hle
  refine ⟨fun _ => ?_, ?_⟩
  · by_cases he : pos + n = l.length
    · exact .inl he
    · have := spanB_next lineN (l.drop pos) (by simp; omega)
      rw [getD_drop, ← hn] at this
      refine .inr (.inl ?_)
      simp [lineN] at this
      rw [List.getD_eq_getElem?_getD, this]; decide
  · rw [Nat.max_eq_right (by omega), h.at hp, scan_remark l pos ts hk h0 h1 h2, hn]
theorem ScInv.tok {l : Bytes} {pos nx d kd n : Nat} {t : Bytes} {ts : List Tok} (h : ScInv l pos nx ts) (hp : ¬ pos < nx) (hk : pos < l.length) (hd : pos + d ≤ n) (h0 : ¬ ((l.getD pos 0).toNat = 32 ∨ (l.getD pos 0).toNat = 9)) (h1 : (l.getD pos 0).toNat ≠ 10)
    (h2 : [47, 47].isPrefixOf (l.drop pos) = false) (h3 : tokSpec l pos (l.getD pos 0).toNat = .ok (kd, t, n)) : ScInv l (pos + d) n (ts ++ [(kd, t, pos)]) := by
  have hf := tok_fwd l pos kd n t hk h3
  refine ⟨fun _ => .inr (.inr hf.2.2), ?_⟩
  rw [Nat.max_eq_right (by omega), h.at hp, scan_tok l pos kd n t ts hk h0 h1 h2 h3]

/-- A token begins with a byte below 128. -/
theorem tok_first (l : Bytes) (k kd n : Nat) (t : Bytes) (h : tokSpec l k (l.getD k 0).toNat = .ok (kd, t, n)) : (l.getD k 0).toNat < 128 := by
  by_cases hh : (l.getD k 0).toNat < 128
  · exact hh
  exfalso
  unfold tokSpec at h
  rw [if_neg (by omega), if_neg (by omega), if_neg (by rw [letterN_high _ (by omega)]; decide), if_neg (by rw [digitN_high _ (by omega)]; decide)] at h
  simp only [signSpec] at h
  have h0 : signLen (l.drop k) = 0 := by
    refine signLen_not _ fun j hj => ?_
    rw [Bool.eq_false_iff]
    intro h1
    rw [List.isPrefixOf_iff_prefix] at h1
    obtain ⟨r, hr⟩ := h1
    have hall : ∀ j, j < 42 → 0 < (signL j).length ∧ ((signL j).getD 0 0).toNat < 128 := by decide
    have h2 := hall j hj
    have e : (l.drop k).getD 0 0 = (signL j).getD 0 0 := by
      rw [← hr, List.getD_eq_getElem?_getD, List.getElem?_append_left h2.1, ← List.getD_eq_getElem?_getD]
    rw [getD_drop] at e
    simp only [Nat.add_zero] at e
    rw [e] at hh
    omega
  rw [if_pos h0] at h
  cases h
end Go.Proofs.YthbnegggohegkaaGreatDoor
