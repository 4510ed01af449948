/-
  The calls are written: written.
-/
import Derived.Test.YtapakbibofnhkaaDoorT
namespace Go.Proofs.YtapakbibofnhkaaDoor
open Go.RowKit Go.ChangeMaps

theorem Bd.below {B b : Nat} {l : List UInt8} {w w' : World} (h : Bd B b l w) (hb : Below w.heap.size w w') : Bd B b l w' := by
  have key : ∀ p, Lib.BuilderAt 74 5 B b p (Lib.byteCells l) w → Lib.BuilderAt 74 5 B b p (Lib.byteCells l) w' := by
    rintro p ⟨h1, v, h2, h3, h4⟩
    exact ⟨h1, v, (hb.block _ (heap_lt h2)).trans h2, own_below h3 hb (Nat.le_refl _), h4⟩
  rcases h with h | h
  · exact .inl (key _ h)
  · exact .inr (key _ h)
theorem Bd.new (w : World) : Bd w.heap.size w.heap.size [] (w.alloc (.cells #[.pointer none, .slice none 0 0] 74)) :=
  .inl ⟨Nat.le_refl _, .slice none 0 0, heap_alloc_new _ _, World.ownsRow_nil _ _ _ _, by simp [Value.ownBlock]⟩
theorem outB_snoc (all : List Cl) (k : Nat) (c : Cl) (hc : all[k]? = some c) : outB (all.take (k + 1)) = outB (all.take k) ++ Lib.itoa (c.d : Int) ++ [32] ++ shownB c.t ++ (if c.e then [] else [32, 33]) ++ [10] := by
  have hk := (List.getElem?_eq_some_iff.1 hc).1
  rw [List.take_succ_eq_append_getElem hk, (List.getElem?_eq_some_iff.1 hc).2]
  simp [outB, lineB, List.append_assoc]
/-- So many calls are written. -/
def URel (all : List Cl) (w : World) (i : Value) (wr : World) : Prop := ∃ k : Nat, i = .int .i64 k ∧ k ≤ all.length ∧ Bd w.heap.size w.heap.size (outB (all.take k)) wr ∧ Below w.heap.size w wr

set_option maxRecDepth 100000 in
set_option maxHeartbeats 4000000 in
theorem written_any (B cb M : Nat) (av ov : Value) (all : List Cl) (opn : List Nat) (f : Mk → Option Nat) (w : World) (h : CAt B cb M av ov all opn f w) (hd : ∀ c ∈ all, c.d ≤ 200000) (hl : all.length ≤ 200000) (htab : Tab w) :
    Calls Tryd.prog 26 #[.pointer (some ⟨cb, 0, none⟩)] w fun r w' => r = .returned (.string ⟨(outB all).toArray⟩) ∧ Below w.heap.size w w' := by
  have HH : Hid _ := h
  have HTAB : Hid (Tab w) := htab
  have HD : Hid (∀ c ∈ all, c.d ≤ 200000) := hd
  obtain ⟨ap, ac, rfl⟩ := own_slice h.rows
  have hcs := heap_lt h.box
  have hbx := h.box
  clear h htab hd
  go_enter Tryd.func26, Tryd.ntmps26
  obtain ⟨U, hU⟩ : ∃ W, W = w.alloc (.cells #[.pointer none, .slice none 0 0] 74) := ⟨_, rfl⟩
  have u0 : Below w.heap.size w U := by rw [hU]; exact below1 w _
  have d0 : Bd w.heap.size w.heap.size [] U := by rw [hU]; exact Bd.new w
  have bx := (u0.block _ hcs).trans hbx
  have bc := (cells_of bx).1
  rw [hU] at bc
  go_wp2_with fail
  rw [← hU]
  have H0 : Hid (URel all w (.int .i64 0) U) := ⟨0, rfl, Nat.zero_le _, d0, u0⟩
  have hyU := u0.size
  clear hU bc bx u0 d0 hbx
  go_loopw [11] (fun i wr => URel all w i wr) (fun i _ => all.length - (intOf i).toNat)
  case atStart => exact H0.out
  case round =>
    obtain ⟨k, rfl, hk, hbd, hbw⟩ := hrel
    have HBW : Hid (Below w.heap.size w wr) := hbw
    have HBD : Hid (Bd w.heap.size w.heap.size (outB (all.take k)) wr) := hbd
    have hyr := hbw.size
    clear hbd hbw H0
    by_cases hlt : k < all.length
    · have i1 : (k : Int) < all.length := by omega
      obtain ⟨c, hc⟩ : ∃ c, all[k]? = some c := ⟨_, List.getElem?_eq_getElem hlt⟩
      have hdc := HD.out c (List.mem_of_getElem? hc)
      obtain ⟨ga, ac', hav, _⟩ := own_form HH.out.rows (by omega)
      simp only [Value.slice.injEq, true_and] at hav
      obtain ⟨rfl, rfl⟩ := hav
      have rows' := own_below HH.out.rows HBW.out (Nat.le_refl _)
      have hg5 := fun j (hj : j < 5) => flat_get cl5_len all k c hc j hj
      have a0 := (own_cells rows' (k * 5) (.int .i64 c.a) (by have := hg5 0 (by decide); rwa [Nat.add_zero] at this)).1
      have a1 := (own_cells rows' (k * 5 + 1) (.string c.t) (hg5 1 (by decide))).1
      have a2 := (own_cells rows' (k * 5 + 2) (.int .i64 (c.d : Int)) (hg5 2 (by decide))).1
      have a3 := (own_cells rows' (k * 5 + 3) (.bool c.e) (hg5 3 (by decide))).1
      have a4 := (own_cells rows' (k * 5 + 4) (.int .i64 c.r) (hg5 4 (by decide))).1
      have hol : (outB (all.take k)).length ≤ 22400000 := by
        have h1 := outB_len (all.take k) (fun x hx => by have := HD.out x (List.mem_of_mem_take hx); omega)
        have : (all.take k).length ≤ 200000 := by simp; omega
        omega
      have hil := itoa_len c.d (by omega)
      have hsl := shownB_len c.t
      have HOUT : Hid _ := outB_snoc all k c hc
      have HIT : Hid (∀ W, Below w.heap.size w W → Calls Tryd.prog 36 #[.int .i64 (c.d : Int)] W fun r w' => r = .returned (.string ⟨(Lib.itoa (c.d : Int)).toArray⟩) ∧ Below W.heap.size W w') := fun W hW => itoa_b (c.d : Int) (by omega) (by omega) W (HTAB.out.below hW (Nat.le_refl _))
      generalize hO : outB (all.take k) = O at HBD hol HOUT
      clear rows' hg5 hc hO
      go_wp2_with fail
      obtain ⟨V0, hV0⟩ : ∃ W, W = wr.alloc (.cells #[.int .i64 c.a, .string c.t, .int .i64 (c.d : Int), .bool c.e, .int .i64 c.r] 69) := ⟨_, rfl⟩
      rw [← hV0]
      have b0 : Below wr.heap.size wr V0 := by rw [hV0]; exact below1 wr _
      have r0 : V0.heap[wr.heap.size]? = some (.cells #[.int .i64 c.a, .string c.t, .int .i64 (c.d : Int), .bool c.e, .int .i64 c.r] 69) := by rw [hV0]; exact heap_alloc_new _ _
      have g0 := HBD.out.below b0
      have z0 : Below w.heap.size w V0 := HBW.out.trans (b0.mono hyr)
      clear hV0
      refine (HIT.out V0 z0).mono ?_
      rintro _ V1 ⟨rfl, e1⟩
      have r1 : V1.heap[wr.heap.size]? = some (.cells #[.int .i64 c.a, .string c.t, .int .i64 (c.d : Int), .bool c.e, .int .i64 c.r] 69) := (e1.block _ (heap_lt r0)).trans r0
      have g1 := g0.below e1
      have y0 := b0.size
      have z1 : Below w.heap.size w V1 := z0.trans (e1.mono (by omega))
      have y1 : w.heap.size ≤ V1.heap.size := z1.size
      have c1 := (cells_of r1).1
      have b1 := e1
      have o1 := True.intro
      clear e1 g0 r0 z0 b0 y0 a0 a1 a2 a3 a4
      go_wp2_with fail
      refine (wStr w.heap.size w.heap.size O ⟨(Lib.itoa (c.d : Int)).toArray⟩ V1 g1 (by rw [show (⟨(Lib.itoa (c.d : Int)).toArray⟩ : ByteArray).size = (Lib.itoa (c.d : Int)).length by simp [ByteArray.size]]; omega) y1).mono ?_
      rintro _ V2 ⟨rfl, g2, b2, o2⟩
      have r2 : V2.heap[wr.heap.size]? = some (.cells #[.int .i64 c.a, .string c.t, .int .i64 (c.d : Int), .bool c.e, .int .i64 c.r] 69) := o2 _ _ _ _ r1 (by decide) (by decide)
      have y2 : w.heap.size ≤ V2.heap.size := by have := b2.size; omega
      have z2 : Below w.heap.size w V2 := z1.trans b2
      have c2 := (cells_of r2).1
      clear g1 b1 o1 r1 c1 z1 y1
      have e2 : (⟨(Lib.itoa (c.d : Int)).toArray⟩ : ByteArray).data.toList = Lib.itoa (c.d : Int) := by simp
      rw [e2] at g2
      clear e2
      go_wp2_with fail
      refine (wByte w.heap.size w.heap.size _ 32 V2 g2 (by simp; omega) y2).mono ?_
      rintro _ V3 ⟨rfl, g3, b3, o3⟩
      have r3 : V3.heap[wr.heap.size]? = some (.cells #[.int .i64 c.a, .string c.t, .int .i64 (c.d : Int), .bool c.e, .int .i64 c.r] 69) := o3 _ _ _ _ r2 (by decide) (by decide)
      have y3 : w.heap.size ≤ V3.heap.size := by have := b3.size; omega
      have z3 : Below w.heap.size w V3 := z2.trans b3
      have c3 := (cells_of r3).1
      clear g2 b2 o2 r2 c2 z2 y2
      go_wp2_with fail
      refine (writeText_any w.heap.size w.heap.size _ c.t V3 g3 (by simp; omega) y3).mono ?_
      rintro _ V4 ⟨rfl, g4, b4, o4⟩
      have r4 : V4.heap[wr.heap.size]? = some (.cells #[.int .i64 c.a, .string c.t, .int .i64 (c.d : Int), .bool c.e, .int .i64 c.r] 69) := o4 _ _ _ _ r3 (by decide) (by decide)
      have y4 : w.heap.size ≤ V4.heap.size := by have := b4.size; omega
      have z4 : Below w.heap.size w V4 := z3.trans b4
      have c4 := (cells_of r4).1
      clear g3 b3 o3 r3 c3 z3 y3
      obtain ⟨ce, hce⟩ : ∃ e, c.e = e := ⟨_, rfl⟩
      rw [hce] at HOUT
      rw [hce] at c4 r4
      clear hce
      cases ce
      · go_wp2_with fail
        refine (wStr w.heap.size w.heap.size _ ⟨#[32, 33]⟩ V4 g4 (by simp [ByteArray.size]; omega) y4).mono ?_
        rintro _ V5 ⟨rfl, g5, b5, o5⟩
        have r5 : V5.heap[wr.heap.size]? = some (.cells #[.int .i64 c.a, .string c.t, .int .i64 (c.d : Int), .bool false, .int .i64 c.r] 69) := o5 _ _ _ _ r4 (by decide) (by decide)
        have y5 : w.heap.size ≤ V5.heap.size := by have := b5.size; omega
        have z5 : Below w.heap.size w V5 := z4.trans b5
        have c5 := (cells_of r5).1
        clear g4 b4 o4 r4 c4 z4 y4
        go_wp2_with fail
        refine (wByte w.heap.size w.heap.size _ 10 V5 g5 (by simp; omega) y5).mono ?_
        rintro _ V6 ⟨rfl, g6, b6, o6⟩
        have r6 : V6.heap[wr.heap.size]? = some (.cells #[.int .i64 c.a, .string c.t, .int .i64 (c.d : Int), .bool false, .int .i64 c.r] 69) := o6 _ _ _ _ r5 (by decide) (by decide)
        have y6 : w.heap.size ≤ V6.heap.size := by have := b6.size; omega
        have z6 : Below w.heap.size w V6 := z5.trans b6
        have c6 := (cells_of r6).1
        clear g5 b5 o5 r5 c5 z5 y5
        have HF : Hid (URel all w (.int .i64 ((k : Int) + 1)) V6) := ⟨k + 1, by simp, hlt, by rw [HOUT.out]; simpa using g6, z6⟩
        clear g6 b6 o6 r6 c6 z6 y6
        go_wp2_with fail
        exact ⟨HF.out, by simp [intOf]; omega⟩
      · go_wp2_with fail
        refine (wByte w.heap.size w.heap.size _ 10 V4 g4 (by simp; omega) y4).mono ?_
        rintro _ V5 ⟨rfl, g5, b5, o5⟩
        have r5 : V5.heap[wr.heap.size]? = some (.cells #[.int .i64 c.a, .string c.t, .int .i64 (c.d : Int), .bool true, .int .i64 c.r] 69) := o5 _ _ _ _ r4 (by decide) (by decide)
        have y5 : w.heap.size ≤ V5.heap.size := by have := b5.size; omega
        have z5 : Below w.heap.size w V5 := z4.trans b5
        have c5 := (cells_of r5).1
        clear g4 b4 o4 r4 c4 z4 y4
        have HF : Hid (URel all w (.int .i64 ((k : Int) + 1)) V5) := ⟨k + 1, by simp, hlt, by rw [HOUT.out]; simpa using g5, z5⟩
        clear g5 b5 o5 r5 c5 z5 y5
        go_wp2_with fail
        exact ⟨HF.out, by simp [intOf]; omega⟩
    · obtain rfl : k = all.length := by omega
      have hB2 := HBD.out
      rw [List.take_length] at hB2
      have HB2 : Hid (Lib.IsBuilder 74 5 w.heap.size w.heap.size (Lib.byteCells (outB all)) wr) := hB2
      clear hB2
      go_wp2_with fail
      refine (Builder_String_any w.heap.size w.heap.size (outB all) wr HB2.out hyr).mono ?_
      rintro _ X ⟨rfl, hx⟩
      have HX : Hid (Below w.heap.size w X) := HBW.out.trans hx
      clear hx
      go_wp2_with fail
      go_ret
      exact ⟨rfl, HX.out⟩
end Go.Proofs.YtapakbibofnhkaaDoor
