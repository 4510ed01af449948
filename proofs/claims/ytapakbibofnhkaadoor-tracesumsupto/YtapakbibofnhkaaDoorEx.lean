/-
  The chapter's examples are so.
-/
import Derived.Test.YtapakbibofnhkaaDoorV
import Derived.Test.YtapakbibofnhkaaDoorK
import Derived.Test.YtapakbibofnhkaaDoorE
namespace Go.Proofs.YtapakbibofnhkaaDoor
open Go.RowKit Go.ChangeMaps

def ex4 : List Ev := [⟨2, 0, ⟨#[109, 97, 105, 110]⟩⟩, ⟨1, 0, ⟨#[]⟩⟩, ⟨2, 3, ⟨#[102]⟩⟩, ⟨1, 2, ⟨#[]⟩⟩]
def ex5 : List Ev := [⟨2, 0, ⟨#[109, 97, 105, 110]⟩⟩, ⟨1, 0, ⟨#[]⟩⟩, ⟨2, 3, ⟨#[102]⟩⟩, ⟨1, 2, ⟨#[]⟩⟩, ⟨3, 3, ⟨#[102]⟩⟩]
theorem ex_d1 : diff ex4 ex5 = 4 := by decide +kernel
theorem ex_d2 : diff ex4 ex4 = -1 := by decide +kernel
theorem ex_n : nf [97, 10, 98] 3 = 1 := by decide +kernel
theorem ex_t : tally ⟨#[97, 10, 98]⟩ ex4 = [1, 1] := by decide +kernel
theorem ex_r : (runS (ex5.take 200000)).1 = [⟨0, ⟨#[109, 97, 105, 110]⟩, 1, false, -1⟩, ⟨3, ⟨#[102]⟩, 2, true, -1⟩] := by kernel_rfl
theorem itoa_one (d : Nat) (h : d < 10) : Lib.itoa (d : Int) = [UInt8.ofNat (48 + d)] := by
  unfold Lib.itoa
  rw [if_neg (by omega), Int.toNat_natCast, Lib.decDigits_one h]
theorem ex_c : callsB ex5 = [49, 32, 109, 97, 105, 110, 32, 33, 10, 50, 32, 102, 10] := by
  unfold callsB
  rw [ex_r]
  simp only [outB, List.flatMap_cons, List.flatMap_nil, lineB]
  rw [itoa_one 1 (by decide), itoa_one 2 (by decide)]
  decide +kernel
theorem evs_own {w : World} {B : Nat} {v : Value} {l : List Ev} (h : w.ownsRow B 33 3 v l.length (evCells l)) : ∃ p c, v = .slice p l.length c ∧ l.length ≤ c ∧ EvsAt w p l := by
  rcases h.2 with ⟨rfl, h0⟩ | ⟨g, cap, cur, rfl, hg, hh, hn, hm, hs, ht⟩
  · exact ⟨none, 0, by rw [h0], by omega, .inl (List.eq_nil_of_length_eq_zero h0)⟩
  · refine ⟨_, cap, rfl, hn, .inr ⟨g, 0, rfl, heap_lt hh, fun i hi => ?_⟩⟩
    have h1 := evCells_get l i hi
    have h2 := evCells_len l
    have h3 : ∀ j, j < (evCells l).length → w.cell? ⟨g, j, none⟩ = (evCells l)[j]? := fun j hj => by
      rw [List.getElem?_eq_getElem hj]
      exact (own_cells h j _ (List.getElem?_eq_getElem hj)).1
    simp only [Nat.zero_add]
    rw [h3 _ (by omega), h3 _ (by omega), h3 _ (by omega)]
    exact h1
theorem evs_block {w : World} {g : Nat} {l : List Ev} (h : w.heap[g]? = some (.cells (evCells l).toArray 33)) : EvsAt w (some ⟨g, 0, none⟩) l := by
  refine .inr ⟨g, 0, rfl, heap_lt h, fun i hi => ?_⟩
  have h1 := evCells_get l i hi
  have h3 := (cells_of h).1
  simp only [Nat.zero_add]
  rw [h3, h3, h3]
  simpa using h1
theorem news_block {w : World} {g : Nat} {xs : List Value} {t : TypeId} (h : w.heap[g]? = some (.cells xs.toArray t)) : ∀ j u, xs[j]? = some u → w.cell? ((⟨g, 0, none⟩ : Addr).add j) = some u := fun j u hj => by
  rw [add_flat', Nat.zero_add, (cells_of h).1]
  simpa using hj
theorem b33 (k a : Int) (t : ByteArray) (w : World) : (Instr.build 33 #[(0, .int .i64 k), (1, .int .i64 a), (2, .string t)]).run Tryd.prog w = .ok (.agg #[.int .i64 k, .int .i64 a, .string t]) w := by kernel_rfl

theorem ex_end (w w1 w2 : World) (v1 v2 : Value) (hb4 : (w.alloc (.cells #[.int .i64 2, .int .i64 0, .string ⟨#[109, 97, 105, 110]⟩, .int .i64 1, .int .i64 0, .string ⟨#[]⟩, .int .i64 2, .int .i64 3, .string ⟨#[102]⟩, .int .i64 1, .int .i64 2, .string ⟨#[]⟩] 33)).heap[w.heap.size]? = some (.cells (evCells ex4).toArray 33)) (hn1 : (w.alloc (.cells #[.int .i64 2, .int .i64 0, .string ⟨#[109, 97, 105, 110]⟩, .int .i64 1, .int .i64 0, .string ⟨#[]⟩, .int .i64 2, .int .i64 3, .string ⟨#[102]⟩, .int .i64 1, .int .i64 2, .string ⟨#[]⟩] 33)).heap.size = w.heap.size + 1) (hg1 : (w.alloc (.cells #[.int .i64 2, .int .i64 0, .string ⟨#[109, 97, 105, 110]⟩, .int .i64 1, .int .i64 0, .string ⟨#[]⟩, .int .i64 2, .int .i64 3, .string ⟨#[102]⟩, .int .i64 1, .int .i64 2, .string ⟨#[]⟩] 33)).grownBy w1 (Value.slice none 0 0).ownBlock) (ho1 : w1.ownsRow (w.heap.size + 1) 33 3 v1 4 (evCells ex4))
    (hg2 : (w1.alloc (.cells #[.int .i64 3, .int .i64 3, .string ⟨#[102]⟩] 33)).grownBy w2 v1.ownBlock) (ho2 : w2.ownsRow (w.heap.size + 1) 33 3 v2 (4 + 1) (evCells ex4 ++ evCells [(⟨3, 3, ⟨#[102]⟩⟩ : Ev)])) :
    ∃ p c, v2 = .slice p 5 c ∧ 5 ≤ c ∧ Below w.heap.size w w2 ∧ EvsAt w2 (some ⟨w.heap.size, 0, none⟩) ex4 ∧ EvsAt w2 p ex5 := by
  obtain ⟨p, c, h1, h2, h3⟩ := evs_own (l := ex5) ho2
  have s1 := hg1.size
  have k1 := (KS.of (S := fun _ => False) (below1 w (.cells #[.int .i64 2, .int .i64 0, .string ⟨#[109, 97, 105, 110]⟩, .int .i64 1, .int .i64 0, .string ⟨#[]⟩, .int .i64 2, .int .i64 3, .string ⟨#[102]⟩, .int .i64 1, .int .i64 2, .string ⟨#[]⟩] 33)))
  have k2 := KS.grown hg1
  have k3 : KS (fun _ => False) w1 (w1.alloc (.cells #[.int .i64 3, .int .i64 3, .string ⟨#[102]⟩] 33)) := KS.of (below1 w1 _)
  have k4 := KS.grown hg2
  have k5 : KS (fun b => w.heap.size + 1 ≤ b) (w.alloc (.cells #[.int .i64 2, .int .i64 0, .string ⟨#[109, 97, 105, 110]⟩, .int .i64 1, .int .i64 0, .string ⟨#[]⟩, .int .i64 2, .int .i64 3, .string ⟨#[102]⟩, .int .i64 1, .int .i64 2, .string ⟨#[]⟩] 33)) w2 := ((k2.mono (fun b _ q => by cases q)).trans k3 (fun _ _ q => q.elim)).trans k4 (fun b _ q => (ho1.lt b q).1)
  have hw2 : Below w.heap.size w w2 := (k1.below (B := w.heap.size) (fun _ q => q.elim) (Nat.le_refl _)).trans (k5.below (fun b q => by omega) (by omega))
  refine ⟨p, c, h1, h2, hw2, evs_block ((k5.block _ (by omega) (by omega)).trans hb4), h3⟩

theorem ex_lines (g : Nat) (w : World) (h : EvsAt w (some ⟨g, 0, none⟩) ex4) : Calls Tryd.prog 13 #[.string ⟨#[97, 10, 98]⟩, .slice (some ⟨g, 0, none⟩) 4 4] w fun r w' => ∃ gc, r = .returned (.slice (some ⟨gc, 0, none⟩) 2 2) ∧ Below w.heap.size w w' ∧ w'.heap[gc]? = some (.cells #[.int .i64 1, .int .i64 1] 3) := by
  refine (lines_any ⟨#[97, 10, 98]⟩ ex4 (some ⟨g, 0, none⟩) 4 w (by decide) h (by decide)).mono ?_
  rintro e w3 ⟨gc, hr, b3, _, r3, _, _⟩
  refine ⟨gc, ?_, b3, ?_⟩
  · rw [hr, show (nf (⟨#[97, 10, 98]⟩ : ByteArray).data.toList (⟨#[97, 10, 98]⟩ : ByteArray).size) = 1 from ex_n]
  · rw [r3, ex_t]; rfl
theorem ex_df1 (g c : Nat) (p : Option Addr) (w : World) (h : EvsAt w (some ⟨g, 0, none⟩) ex4) (h5 : EvsAt w p ex5) : Calls Tryd.prog 10 #[.slice (some ⟨g, 0, none⟩) 4 4, .slice p 5 c] w fun r w' => r = .returned (.int .i64 4) ∧ Below w.heap.size w w' := by
  have h1 := differ_any ex4 ex5 _ p 4 c w h h5 (by decide) (by decide)
  rw [ex_d1] at h1
  exact h1
theorem ex_df2 (g : Nat) (w : World) (h : EvsAt w (some ⟨g, 0, none⟩) ex4) : Calls Tryd.prog 10 #[.slice (some ⟨g, 0, none⟩) 4 4, .slice (some ⟨g, 0, none⟩) 4 4] w fun r w' => r = .returned (.int .i64 (-1)) ∧ Below w.heap.size w w' := by
  have h1 := differ_any ex4 ex4 _ _ 4 4 w h h (by decide) (by decide)
  rw [ex_d2] at h1
  exact h1
theorem ex_calls (c : Nat) (p : Option Addr) (w : World) (hc : 5 ≤ c) (h5 : EvsAt w p ex5) (ht : Tab w) : Calls Tryd.prog 14 #[.slice p 5 c] w fun r w' => r = .returned (.string ⟨#[49, 32, 109, 97, 105, 110, 32, 33, 10, 50, 32, 102, 10]⟩) ∧ Below w.heap.size w w' := by
  have h1 := calls_any ex5 p c w h5 (by decide) hc ht
  rw [ex_c] at h1
  exact h1

set_option maxRecDepth 100000 in
set_option maxHeartbeats 4000000 in
theorem examples_any (w : World) (htab : Tab w) :
    Calls Tryd.prog 7 #[] w fun r w' => r = .returned (.bool true) ∧ Below w.heap.size w w' := by
  obtain ⟨i0, hi, hz0, hz1, hz2⟩ := info_parts info33
  have HTAB : Hid (Tab w) := htab
  clear htab
  have HB4 : Hid ((w.alloc (.cells #[.int .i64 2, .int .i64 0, .string ⟨#[109, 97, 105, 110]⟩, .int .i64 1, .int .i64 0, .string ⟨#[]⟩, .int .i64 2, .int .i64 3, .string ⟨#[102]⟩, .int .i64 1, .int .i64 2, .string ⟨#[]⟩] 33)).heap[w.heap.size]? = some (.cells (evCells ex4).toArray 33)) := heap_alloc_new _ _
  have HN1 : Hid ((w.alloc (.cells #[.int .i64 2, .int .i64 0, .string ⟨#[109, 97, 105, 110]⟩, .int .i64 1, .int .i64 0, .string ⟨#[]⟩, .int .i64 2, .int .i64 3, .string ⟨#[102]⟩, .int .i64 1, .int .i64 2, .string ⟨#[]⟩] 33)).heap.size = w.heap.size + 1) := by show _ = _; simp
  go_enter Tryd.func7, Tryd.ntmps7
  go_wp2_with (at_builtin; first | (refine wpList_append_own _ rfl _ _ 22 rfl (w.heap.size + 1) 33 i0 _ 3 32 Tryd.underlying22 hi hz0 hz1 hz2 rfl (by decide) _ 0 [] rfl (World.ownsRow_nil _ _ _ _) ⟨w.heap.size, 0, none⟩ 4 4 (evCells ex4) rfl rfl (news_block HB4.out) (evCells_one _) (by unfold maxLen; omega) (by omega) (by simp) ?_; intro v1 w1 hown1 hgr1 _; have HO1 : Hid (w1.ownsRow (w.heap.size + 1) 33 3 v1 4 (evCells ex4)) := hown1; have HG1 : Hid _ := hgr1; clear hown1 hgr1) | (refine wpList_append_own _ rfl _ _ 22 rfl (w.heap.size + 1) 33 i0 _ 3 32 Tryd.underlying22 hi hz0 hz1 hz2 rfl (by decide) _ 4 (evCells ex4) rfl (HO1.out.alloc _) ⟨w1.heap.size, 0, none⟩ 1 1 (evCells [(⟨3, 3, ⟨#[102]⟩⟩ : Ev)]) rfl rfl (news_block (heap_alloc_new w1 _)) (evCells_one _) (by unfold maxLen; omega) (by omega) (by have := HG1.out.size; simp at this; simp; omega) ?_; intro v2 w2 hown2 hgr2 _; have HEX := ex_end w w1 w2 v1 v2 HB4.out HN1.out HG1.out HO1.out hgr2 hown2; obtain ⟨p5, c5, rfl, hc5, hw2, he4, he5⟩ := HEX; have HW2 : Hid (Below w.heap.size w w2) := hw2; have HE4 : Hid (EvsAt w2 (some ⟨w.heap.size, 0, none⟩) ex4) := he4; have HE5 : Hid (EvsAt w2 p5 ex5) := he5; clear hown2 hgr2 hw2 he4 he5 HO1 HG1))
  refine (ex_lines w.heap.size w2 HE4.out).mono ?_
  rintro _ w3 ⟨gc, rfl, b3, r3⟩
  have HB3 : Hid (Below w2.heap.size w2 w3) := b3
  have HR3 : Hid (w3.heap[gc]? = some (.cells #[.int .i64 1, .int .i64 1] 3)) := r3
  have HE43 : Hid (EvsAt w3 (some ⟨w.heap.size, 0, none⟩) ex4) := HE4.out.below b3 (Nat.le_refl _)
  have HE53 : Hid (EvsAt w3 p5 ex5) := HE5.out.below b3 (Nat.le_refl _)
  clear b3 r3
  go_wp2_with fail
  refine (ex_df1 w.heap.size c5 p5 w3 HE43.out HE53.out).mono ?_
  rintro _ w4 ⟨rfl, b4⟩
  have HB4' : Hid (Below w3.heap.size w3 w4) := b4
  have HE44 : Hid (EvsAt w4 (some ⟨w.heap.size, 0, none⟩) ex4) := HE43.out.below b4 (Nat.le_refl _)
  have HE54 : Hid (EvsAt w4 p5 ex5) := HE53.out.below b4 (Nat.le_refl _)
  clear b4
  go_wp2_with fail
  refine (ex_df2 w.heap.size w4 HE44.out).mono ?_
  rintro _ w5 ⟨rfl, b5⟩
  have hb5 : Below w.heap.size w w5 := ((HW2.out.trans (HB3.out.mono HW2.out.size)).trans (HB4'.out.mono (Nat.le_trans HW2.out.size HB3.out.size))).trans (b5.mono (Nat.le_trans (Nat.le_trans HW2.out.size HB3.out.size) HB4'.out.size))
  have HB5 : Hid (Below w.heap.size w w5) := hb5
  have HE55 : Hid (EvsAt w5 p5 ex5) := HE54.out.below b5 (Nat.le_refl _)
  have r5 := (b5.block _ (Nat.lt_of_lt_of_le (heap_lt HR3.out) HB4'.out.size)).trans ((HB4'.out.block _ (heap_lt HR3.out)).trans HR3.out)
  have HR5 : Hid (w5.heap[gc]? = some (.cells #[.int .i64 1, .int .i64 1] 3)) := r5
  clear b5 hb5 r5
  go_wp2_with fail
  refine (ex_calls c5 p5 w5 hc5 HE55.out (HTAB.out.below HB5.out (Nat.le_refl _))).mono ?_
  rintro _ w6 ⟨rfl, b6⟩
  have r6 := (b6.block _ (heap_lt HR5.out)).trans HR5.out
  have c6 := (cells_of r6).1
  have HB6 : Hid (Below w.heap.size w w6) := HB5.out.trans (b6.mono HB5.out.size)
  clear b6 r6
  go_wp2_with fail
  go_ret
  exact ⟨rfl, HB6.out⟩
end Go.Proofs.YtapakbibofnhkaaDoor
