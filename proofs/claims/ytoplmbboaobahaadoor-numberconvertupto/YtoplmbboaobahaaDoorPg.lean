/-
  NumberConvert's law at every kind, name and datum.
-/
import Derived.Test.YtoplmbboaobahaaDoorPf
namespace Go.Proofs.YtoplmbboaobahaaDoor
open Go.RowKit

theorem rowless (W : World) (B : Nat) : W.ownsRow B 3 1 (.slice none 0 0) 0 (nums []) := World.ownsRow_nil _ _ _ _

section
variable (kd : Int) (u : ByteArray) (k : Int) (t : ByteArray) (a f : Int) (s : ByteArray) (r0 r1 r2 r3 : Int) (pp : Option Addr) (m c : Nat) (zs : List Int) (ip : Option Addr) (il ic : Nat) (w : World)

/-- Where a number, a text or a name is carried over. -/
theorem convertLaw_flat (hP : PathAt w w.heap.size pp m zs) (hm : m ≤ 1048576) (k' : Int) (n' f' : Int) (s' : ByteArray)
    (hU : ∀ W p i, Calls Tryd.prog 18 #[.int .i64 kd, .string u, D k t a f s r0 r1 r2 r3 p i] W fun r w' => r = .returned (.tuple #[dat k' u n' f' s', .nilIface]) ∧ Below W.heap.size W w')
    (hR : ∀ W p i, Calls Tryd.prog 19 #[.int .i64 kd, .string u, D k t a f s r0 r1 r2 r3 p i] W fun r w' => r = .returned (.tuple #[.agg #[.int .i64 k', .string u, .int .i64 n', .int .u64 f', .string s', .int .i64 0, .int .i64 0, .int .i64 0, .int .i64 0, .slice none 0 0, .slice none 0 0], .agg #[.string ⟨#[]⟩, .string ⟨#[]⟩]]) ∧ Below W.heap.size W w') :
    Calls Tryd.prog 5 #[.int .i64 kd, .string u, D k t a f s r0 r1 r2 r3 (.slice pp m c) (.slice ip il ic)] w fun r w' => r = .returned (.bool true) ∧ Below w.heap.size w w' :=
  convertLaw_good kd u k t a f s r0 r1 r2 r3 pp m c zs ip il ic w hP hm k' u n' f' s' 0 0 0 0 0 [] rfl (by omega)
    (fun W g _ _ => (hU W _ _).mono fun r w' h => ⟨none, 0, h.1, rowless _ _, fun _ => rfl, h.2⟩)
    (fun W _ => (hR W _ _).mono fun r w' h => ⟨none, 0, h.1, rowless _ _, h.2⟩)

/-- Lists, maps and funcs. -/
theorem convertLaw_path (hk : k = 5 ∨ k = 6 ∨ k = 7) (hu : u.size ≤ 140737488351232) (hP : PathAt w w.heap.size pp m zs) (hm : m ≤ 1048576) :
    Calls Tryd.prog 5 #[.int .i64 k, .string u, D k t a f s r0 r1 r2 r3 (.slice pp m c) (.slice ip il ic)] w fun r w' => r = .returned (.bool true) ∧ Below w.heap.size w w' := by
  refine convertLaw_good k u k t a f s r0 r1 r2 r3 pp m c zs ip il ic w hP hm k u 0 0 ⟨#[]⟩ r0 r1 r2 r3 m zs hP.len hm (fun W g _ hg => ?_) (fun W hW => ?_)
  · have hat : (∀ (j : Nat) (x : Value), (nums zs)[j]? = some x → W.cell? ((⟨g, 0, none⟩ : Addr).add j) = some x) ∧ ∀ j, j < m → ((⟨g, 0, none⟩ : Addr).add j).block < W.heap.size := by
      by_cases h0 : 0 < m
      · obtain ⟨ad, e, h1, h2⟩ := hg.at_ h0
        obtain rfl := Option.some.inj e
        exact ⟨h1, fun j _ => h2 j⟩
      · have hz : zs = [] := List.eq_nil_of_length_eq_zero (by have := hP.len; omega)
        exact ⟨fun j x hj => by rw [hz] at hj; simp [nums] at hj, fun j hj => by omega⟩
    refine (convert_path k hk u t a f s r0 r1 r2 r3 ⟨g, 0, none⟩ m (m + 2) zs (.slice ip il ic) W hu hP.len hat.1 hat.2 hm).mono ?_
    rintro r w' ⟨v, rfl, h1, h2, h3⟩
    obtain ⟨p, c', rfl⟩ := row_form h1
    exact ⟨p, c', rfl, h1, h2, h3⟩
  · have hP' := hP.kept hW
    by_cases h0 : 0 < m
    · obtain ⟨ad, rfl, h1, h2⟩ := hP'.at_ h0
      refine (refConvert_path k hk u t a f s r0 r1 r2 r3 ad m c zs (.slice ip il ic) W hP.len h1 (fun j _ => Nat.lt_of_lt_of_le (h2 j) hW.size) hm).mono ?_
      rintro r w' ⟨v, rfl, h1, h2, h3⟩
      obtain ⟨p, c', rfl⟩ := row_form h1
      exact ⟨p, c', rfl, h1, h3⟩
    · obtain rfl : m = 0 := by omega
      obtain rfl : zs = [] := List.eq_nil_of_length_eq_zero hP.len
      cases pp with
      | none => exact (refConvert_none k hk u t a f s r0 r1 r2 r3 c (.slice ip il ic) W).mono fun r w' h => ⟨none, 0, h.1, rowless _ _, h.2⟩
      | some ad =>
        refine (refConvert_path k hk u t a f s r0 r1 r2 r3 ad 0 c [] (.slice ip il ic) W rfl (fun j x hj => by simp [nums] at hj) (fun j hj => by omega) (by omega)).mono ?_
        rintro r w' ⟨v, rfl, h1, h2, h3⟩
        obtain ⟨p, c', rfl⟩ := row_form h1
        exact ⟨p, c', rfl, h1, h3⟩

theorem convertLaw_any (hu : u.size ≤ 140737488351232) (ht : t.size ≤ 140737488351232) (hs : s.size ≤ 140737488351232) (h0 : 0 ≤ f) (h1 : f ≤ 18446744073709551615) (hP : PathAt w w.heap.size pp m zs) (hm : m ≤ 1048576) :
    Calls Tryd.prog 5 #[.int .i64 kd, .string u, D k t a f s r0 r1 r2 r3 (.slice pp m c) (.slice ip il ic)] w fun r w' => r = .returned (.bool true) ∧ Below w.heap.size w w' := by
  by_cases hno : noCv kd k
  · exact convertLaw_bad kd u k t a f s r0 r1 r2 r3 pp m c zs ip il ic w hP hm (opd u k t) ⟨#[111, 112, 101, 114, 97, 110, 100]⟩ (by decide)
      (fun W g => convert_bad kd u k t a f s r0 r1 r2 r3 _ _ W hu ht hno) (fun W => refConvert_bad kd u k t a f s r0 r1 r2 r3 _ _ W hu ht hno)
  · by_cases h23 : kd = 2 ∧ k = 3
    · obtain ⟨rfl, rfl⟩ := h23
      exact convertLaw_flat 2 u 3 t a f s r0 r1 r2 r3 pp m c zs ip il ic w hP hm 2 _ 0 ⟨#[]⟩ (fun W p i => convert_fi_any u t a f s r0 r1 r2 r3 p i W hu h0 h1) (fun W p i => refConvert_fi u t a f s r0 r1 r2 r3 p i W h0 h1)
    · by_cases h32 : kd = 3 ∧ k = 2
      · obtain ⟨rfl, rfl⟩ := h32
        exact convertLaw_flat 3 u 2 t a f s r0 r1 r2 r3 pp m c zs ip il ic w hP hm 3 0 _ ⟨#[]⟩ (fun W p i => convert_if u t a f s r0 r1 r2 r3 p i W hu) (fun W p i => refConvert_if u t a f s r0 r1 r2 r3 p i W)
      · have hkk : kd = k ∧ 1 ≤ k ∧ k ≤ 7 := by
          by_cases e : kd = k
          · refine ⟨e, ?_⟩
            by_cases hr : 1 ≤ k ∧ k ≤ 7
            · exact hr
            · exact absurd ⟨fun _ => by omega, h23, h32⟩ hno
          · exact absurd ⟨fun e' => absurd e' e, h23, h32⟩ hno
        obtain ⟨rfl, hk1, hk7⟩ := hkk
        by_cases e1 : kd = 1
        · subst e1
          exact convertLaw_flat 1 u 1 t a f s r0 r1 r2 r3 pp m c zs ip il ic w hP hm 1 a 0 ⟨#[]⟩ (fun W p i => convert_bool u t a f s r0 r1 r2 r3 p i W hu) (fun W p i => refConvert_bool u t a f s r0 r1 r2 r3 p i W)
        by_cases e2 : kd = 2
        · subst e2
          exact convertLaw_flat 2 u 2 t a f s r0 r1 r2 r3 pp m c zs ip il ic w hP hm 2 a 0 ⟨#[]⟩ (fun W p i => convert_int u t a f s r0 r1 r2 r3 p i W hu) (fun W p i => refConvert_int u t a f s r0 r1 r2 r3 p i W)
        by_cases e3 : kd = 3
        · subst e3
          exact convertLaw_flat 3 u 3 t a f s r0 r1 r2 r3 pp m c zs ip il ic w hP hm 3 0 _ ⟨#[]⟩ (fun W p i => convert_ff u t a f s r0 r1 r2 r3 p i W hu h0 h1) (fun W p i => refConvert_flt u t a f s r0 r1 r2 r3 p i W h0 h1)
        by_cases e4 : kd = 4
        · subst e4
          exact convertLaw_flat 4 u 4 t a f s r0 r1 r2 r3 pp m c zs ip il ic w hP hm 4 0 0 s (fun W p i => convert_text u t a f s r0 r1 r2 r3 p i W hu hs) (fun W p i => refConvert_text u t a f s r0 r1 r2 r3 p i W)
        exact convertLaw_path u kd t a f s r0 r1 r2 r3 pp m c zs ip il ic w (by omega) hu hP hm
end
end Go.Proofs.YtoplmbboaobahaaDoor
