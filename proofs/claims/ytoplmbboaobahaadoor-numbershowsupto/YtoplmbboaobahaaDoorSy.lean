/-
  NumberShows at any datum.
-/
import Derived.Test.YtoplmbboaobahaaDoorSx
namespace Go.Proofs.YtoplmbboaobahaaDoor
open Go.RowKit

theorem itoa_len (n : Int) (h0 : -9223372036854775808 ≤ n) (h1 : n ≤ 9223372036854775807) : (Lib.itoa n).length ≤ 20 := by
  unfold Lib.itoa
  split
  · rw [← dd_dec _ (by omega), List.length_cons]
    have := dd_len 19 n.natAbs (by omega)
    omega
  · by_cases hz : n.toNat = 0
    · rw [hz, Lib.decDigits_one (by omega)]; simp
    · rw [← dd_dec _ hz]
      have := dd_len 19 n.toNat (by omega)
      omega

theorem mk_size (l : List UInt8) : (ByteArray.mk l.toArray).size = l.length := by show l.toArray.size = _; simp

theorem shB_size (f : Int) : (shB f).size ≤ 140737488351232 := by
  unfold shB
  split
  · decide
  · rw [mk_size]; simp [dgs]

theorem showsLaw_any (k : Int) (t : ByteArray) (n f : Int) (s : ByteArray) (r0 r1 r2 r3 : Int) (p i : Value) (w : World) (ht : t.size ≤ 140737488351232) (hs : s.size ≤ 17592186044000) (hn0 : -9223372036854775808 ≤ n) (hn1 : n ≤ 9223372036854775807) (hf0 : 0 ≤ f) (hf1 : f ≤ 18446744073709551615)
    (htab : Lib.TabIs Tryd.prog w "internal/strconv.uint64pow10" .u64 Lib.pow10Tab) (hz : zAt w) :
    Calls Tryd.prog 7 #[D k t n f s r0 r1 r2 r3 p i] w fun r w' => r = .returned (.bool true) ∧ Below w.heap.size w w' := by
  have key : ∀ x, (∀ W, Below w.heap.size w W → Calls Tryd.prog 26 #[D k t n f s r0 r1 r2 r3 p i] W fun r w' => r = .returned (.string x) ∧ Below W.heap.size W w') →
      (∀ W, Calls Tryd.prog 27 #[D k t n f s r0 r1 r2 r3 p i] W fun r w' => r = .returned (.string x) ∧ Below W.heap.size W w') →
      Calls Tryd.prog 7 #[D k t n f s r0 r1 r2 r3 p i] w fun r w' => r = .returned (.bool true) ∧ Below w.heap.size w w' := fun x h1 h2 =>
    showsLaw k t n f s r0 r1 r2 r3 p i w x (nm k t) h1 h2 (fun W => name_any k t n f s r0 r1 r2 r3 p i W ht) (fun W => refName_any k t n f s r0 r1 r2 r3 p i W ht)
  by_cases k1 : k = 1
  · subst k1
    refine key _ (fun W hW => show_bool t n f s r0 r1 r2 r3 p i W ht (shT n) (by unfold shT; split <;> decide) (fun W2 _ => (formatBool_any (n != 0) W2).mono fun r w' ⟨h, e⟩ => ⟨h, e ▸ Below.refl _ _⟩)) (fun W => refShow_bool t n f s r0 r1 r2 r3 p i W ht)
  · by_cases k2 : k = 2
    · subst k2
      have hl := itoa_len n hn0 hn1
      refine key _ (fun W hW => show_int t n f s r0 r1 r2 r3 p i W ht ⟨(Lib.itoa n).toArray⟩ (by rw [mk_size]; omega) (fun W2 hW2 => itoa_b n hn0 hn1 W2 (tab_kept htab (hW.trans (hW2.mono hW.size))))) (fun W => refShow_int t n f s r0 r1 r2 r3 p i W ht ⟨(Lib.itoa n).toArray⟩ (by rw [mk_size]; omega) (fun W2 _ => refDigits_any n W2 hn0 hn1))
    · by_cases k3 : k = 3
      · subst k3
        refine key _ (fun W hW => show_flt t n f s r0 r1 r2 r3 p i W ht (shB f) (shB_size f) (fun W2 hW2 => shownBits_any f W2 hf0 hf1 (hz.kept (hW.trans (hW2.mono hW.size))))) (fun W => refShow_flt t n f s r0 r1 r2 r3 p i W ht hf0 hf1)
      · by_cases k4 : k = 4
        · subst k4
          have hl := flat_len s.data.toList
          have hsz : s.data.toList.length = s.size := by simp
          have hq : (ByteArray.mk (quoteL s.data.toList).toArray).size ≤ 140737488351232 := by
            rw [mk_size]; unfold quoteL; simp only [List.length_cons, List.length_append, List.length_nil]; omega
          refine key _ (fun W hW => show_txt t n f s r0 r1 r2 r3 p i W ht ⟨(quoteL s.data.toList).toArray⟩ hq (fun W2 _ => quote_any s W2 hs)) (fun W => refShow_txt t n f s r0 r1 r2 r3 p i W ht ⟨(quoteL s.data.toList).toArray⟩ hq (fun W2 _ => refQuote_any s W2 hs))
        · exact key _ (fun W _ => show_none k t n f s r0 r1 r2 r3 p i W k1 k2 k3 k4) (fun W => refShow_none k t n f s r0 r1 r2 r3 p i W k1 k2 k3 k4)
end Go.Proofs.YtoplmbboaobahaaDoor
