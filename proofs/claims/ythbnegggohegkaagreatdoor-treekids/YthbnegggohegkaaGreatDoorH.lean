/-
  The walk of lex.literalAt: what the literal says that begins at a place, and the place behind it, or what is wrong.
-/
import Derived.Test.YthbnegggohegkaaGreatDoorE
import Derived.Test.YthbnegggohegkaaGreatDoorLit
import Derived.Lib.AppendStr
import Derived.Lib.BufferRead
import Derived.Lib.OthersKept
namespace Go.Proofs.YthbnegggohegkaaGreatDoor
open Go.RowKit

/-- What a reader of a literal hands back. -/
inductive LitRes (w w' : World) (e : Ending) : Except (Nat × Nat) (Bytes × Nat) → Prop
  | ok (t : Bytes) (n : Nat) (he : e = .returned (.tuple #[.string ⟨t.toArray⟩, .int .i64 n, .nilIface])) (hb : Below w.heap.size w w') : LitRes w w' e (.ok (t, n))
  | error (c p b : Nat) (he : e = .returned (.tuple #[.string ⟨#[]⟩, .int .i64 0, .iface 67 (.pointer (some ⟨b, 0, none⟩))])) (hlo : w.heap.size ≤ b) (hw : WrongAt w' b c p) (hb : Below w.heap.size w w') : LitRes w w' e (.error (c, p))

theorem rune_is (s : ByteArray) (pos : Nat) (h : pos < s.size) (c : Nat) (hc : c < 128) : (((Utf8.decode s pos).1 : Int) == (c : Int)) = decide ((s[pos]'h).toNat = c) := by
  by_cases ha : (s[pos]'h).toNat < 128
  · rw [decode_ascii s pos h ha, Bool.eq_iff_iff]; simp; omega
  · have := (decode_high s pos h (by omega)).1
    rw [Bool.eq_iff_iff]; simp; omega

theorem getD_extract (s : ByteArray) (b pos : Nat) (h : pos < (s.extract b s.size).size) : (s.extract b s.size)[pos]'h = s.data.toList.getD (b + pos) 0 := by
  have e := getD_byte (s.extract b s.size) pos h
  rw [← e, extract_end, List.getD_eq_getElem?_getD, List.getD_eq_getElem?_getD, List.getElem?_drop]

theorem ownsRow_below {w w' : World} {base : Nat} {e : TypeId} {size : Nat} {v : Value} {n : Nat} {xs : List Value} (h : w.ownsRow base e size v n xs) (hb : Below w.heap.size w w') : w'.ownsRow base e size v n xs := by
  obtain ⟨h1, h2⟩ := h
  refine ⟨h1, ?_⟩
  rcases h2 with h2 | ⟨g, cap, cur, hv, hg, hh, r⟩
  · exact .inl h2
  · exact .inr ⟨g, cap, cur, hv, hg, by rw [hb.block g (Array.getElem?_eq_some_iff.1 hh).1]; exact hh, r⟩

theorem conv_own {w : World} {base : Nat} {v : Value} {n : Nat} {t : Bytes} (h : w.ownsRow base 5 1 v n (Lib.byteCells t)) : (convert 82 9 v).run Tryz.prog w = .ok (.string ⟨t.toArray⟩) w := by
  obtain ⟨h1, h2⟩ := h
  rw [Lib.byteCells_length, Nat.mul_one] at h1
  rcases h2 with ⟨rfl, h0⟩ | ⟨g, cap, cur, rfl, hg, hh, hn, hm, hs, ht⟩
  · obtain rfl : t = [] := List.eq_nil_of_length_eq_zero (by omega)
    exact Lib.run_convert_nil_bytes w 82 9 5 0 Tryz.underlying82 Tryz.underlying5 Tryz.underlying9
  · subst h1
    exact run_convert_bytes_back w 82 9 5 ⟨g, 0, none⟩ cap t Tryz.underlying82 Tryz.underlying5 Tryz.underlying9 (Lib.bytes_of_row hh (by rw [← ht, Nat.mul_one]))

theorem strCells_extract (s : ByteArray) (a e : Nat) : Lib.strCells (s.extract a e) = Lib.byteCells ((s.data.toList.drop a).take (e - a)) := by
  rw [Lib.strCells, Lib.extract_data]; rfl
theorem byteCells_append (a b : Bytes) : Lib.byteCells (a ++ b) = Lib.byteCells a ++ Lib.byteCells b := by simp [Lib.byteCells]

/-- Where the reading stands. -/
def LitInv (l : Bytes) (src pos nx : Nat) (acc : Bytes) : Prop :=
  (∀ j, src + 1 + pos ≤ j → j < nx → (l.getD j 0).toNat < 128) ∧ lit l src (max (src + 1 + pos) nx) (acc ++ (l.drop nx).take (src + 1 + pos - nx)) = lit l src (src + 1) []

theorem LitInv.start (l : Bytes) (src : Nat) : LitInv l src 0 (src + 1) [] := ⟨fun j h1 h2 => by omega, by simp⟩
theorem LitInv.skip {l : Bytes} {src pos nx : Nat} {acc : Bytes} (h : LitInv l src pos nx acc) (hp : src + 1 + pos < nx) : LitInv l src (pos + 1) nx acc := by
  refine ⟨fun j h1 h2 => h.1 j (by omega) h2, ?_⟩
  have := h.2
  rw [Nat.max_eq_right (by omega), show src + 1 + pos - nx = 0 by omega] at this
  rw [Nat.max_eq_right (by omega), show src + 1 + (pos + 1) - nx = 0 by omega]
  exact this
theorem LitInv.at {l : Bytes} {src pos nx : Nat} {acc : Bytes} (h : LitInv l src pos nx acc) (hp : ¬ src + 1 + pos < nx) : lit l src (src + 1) [] = lit l src (src + 1 + pos) (acc ++ (l.drop nx).take (src + 1 + pos - nx)) := by
  rw [← h.2, Nat.max_eq_left (by omega)]
theorem LitInv.plain {l : Bytes} {src pos nx d : Nat} {acc : Bytes} (h : LitInv l src pos nx acc) (hp : ¬ src + 1 + pos < nx) (hd : src + 1 + pos + d ≤ l.length)
    (hb : ∀ j, src + 1 + pos ≤ j → j < src + 1 + pos + d → (l.getD j 0).toNat ≠ 10 ∧ (l.getD j 0).toNat ≠ 34 ∧ (l.getD j 0).toNat ≠ 92) : LitInv l src (pos + d) nx acc := by
  refine ⟨fun j h1 h2 => by omega, ?_⟩
  rw [h.at hp, lit_run l src d _ _ hd hb, Nat.max_eq_left (by omega), List.append_assoc]
  have e : src + 1 + (pos + d) - nx = (src + 1 + pos - nx) + d := by omega
  rw [e, List.take_add, List.drop_drop, show nx + (src + 1 + pos - nx) = src + 1 + pos by omega, Nat.add_assoc (src + 1) pos d]
theorem LitInv.esc {l : Bytes} {src pos nx b n : Nat} {acc : Bytes} (h : LitInv l src pos nx acc) (hp : ¬ src + 1 + pos < nx) (hk : src + 1 + pos < l.length) (h92 : (l.getD (src + 1 + pos) 0).toNat = 92)
    (he : (b, n) = esc (l.drop (src + 1 + pos))) (hn : n ≠ 0) : LitInv l src (pos + 1) (src + 1 + pos + n) (acc ++ (l.drop nx).take (src + 1 + pos - nx) ++ [UInt8.ofNat b]) := by
  have hd0 : ((l.drop (src + 1 + pos)).getD 0 0).toNat = 92 := by
    rw [List.getD_eq_getElem?_getD, List.getElem?_drop, ← List.getD_eq_getElem?_getD]; exact h92
  refine ⟨fun j h1 h2 => ?_, ?_⟩
  · have := esc_ascii _ hd0 (j - (src + 1 + pos)) (by rw [← he]; show _ < n; omega)
    rw [List.getD_eq_getElem?_getD, List.getElem?_drop, ← List.getD_eq_getElem?_getD, show src + 1 + pos + (j - (src + 1 + pos)) = j by omega] at this
    exact this
  · rw [h.at hp, lit_esc l src _ b n _ hk h92 he hn, Nat.max_eq_right (by omega), show src + 1 + (pos + 1) - (src + 1 + pos + n) = 0 by omega]
    simp
end Go.Proofs.YthbnegggohegkaaGreatDoor
