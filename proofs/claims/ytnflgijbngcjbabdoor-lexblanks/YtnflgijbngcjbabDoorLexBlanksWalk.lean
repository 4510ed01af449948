/-
  The walk of the law LexBlanks: it answers true at every text and every list of numbers, in every memory that holds the two tables.
-/
import Derived.Test.YtnflgijbngcjbabDoorBq
namespace Go.Proofs.YtnflgijbngcjbabDoor
open Go.RowKit

theorem beq_of_ne {c k : Nat} (h : ¬ c = k) : ((c : Int) == (k : Int)) = false := by simp; omega

theorem two_new (w : World) (t : TypeId) (x y : Value) : ∀ j u, [x, y][j]? = some u → (w.alloc (.cells #[x, y] t)).cell? ((⟨w.heap.size, 0, none⟩ : Addr).add j) = some u := by
  intro j u hj
  match j with
  | 0 => simp at hj; subst hj; simp [Addr.add]
  | 1 => simp at hj; subst hj; simp [Addr.add]
  | j + 2 => simp at hj

theorem three_new (w : World) (t : TypeId) (x0 x1 x2 : Value) : ∀ j u, [x0, x1, x2][j]? = some u → (w.alloc (.cells #[x0, x1, x2] t)).cell? ((⟨w.heap.size, 0, none⟩ : Addr).add j) = some u := by
  intro j u hj
  match j with
  | 0 => simp at hj; subst hj; simp [Addr.add]
  | 1 => simp at hj; subst hj; simp [Addr.add]
  | 2 => simp at hj; subst hj; simp [Addr.add]
  | j + 3 => simp at hj

theorem strCells_lit (a : Array UInt8) : Lib.strCells ⟨a⟩ = Lib.byteCells a.toList := by simp [Lib.strCells, Lib.byteCells]

theorem row_not {w : World} {b : Nat} {e e' : TypeId} {sz : Nat} {v : Value} {n : Nat} {xs : List Value} (h : w.ownsRow b e sz v n xs) {T : Nat} {cs : Array Value} (hT : w.heap[T]? = some (.cells cs e')) (hne : e ≠ e') : some T ≠ v.ownBlock := by
  rcases h.2 with ⟨rfl, -⟩ | ⟨g, c, cur, rfl, -, hh, -⟩
  · intro he; cases he
  · intro he
    have : T = g := Option.some.inj he
    subst this
    rw [hh] at hT
    have := Option.some.inj hT
    injection this with _ h4
    exact hne h4

set_option maxRecDepth 100000 in
set_option maxHeartbeats 20000000 in
theorem lexBlanks_main {gw ow gs os : Nat} (s : ByteArray) (A : Addr) (n cap : Nat) (R : Nat → Int) (w : World) (ht : TabsAt gw ow gs os w) (hA : A.block < w.heap.size) (hn0 : 0 < n) (hnm : n ≤ 9223372036854775807) (hR : ∀ j, j < n → w.cell? (A.add j) = some (.int .i64 (R j)) ∧ -9223372036854775808 ≤ R j ∧ R j ≤ 9223372036854775807)
    (ts : List Tok) (hts : scanSpec s.data.toList = .ok ts) (h20 : s.size ≤ 20000) :
    Calls Tryd.prog 3 #[.string s, .slice (some A) n cap] w fun e w' => e = .returned (.bool true) ∧ Below w.heap.size w w' := by
  obtain ⟨i5, hi5, hz50, hz51, hz52⟩ := info_parts info5
  obtain ⟨i0, hi, hz0, hz1, hz2⟩ := info_parts info48
  have HX : Hid (scanSpec s.data.toList = .ok ts) := hts
  have HLs : Hid (s.data.toList.length = s.size) := by show _ = _; simp
  have HR0 : Hid (∀ j, j < n → w.cell? (A.add j) = some (.int .i64 (R j)) ∧ -9223372036854775808 ≤ R j ∧ R j ≤ 9223372036854775807) := hR
  obtain ⟨f, hf⟩ : ∃ f, f = insF s.data.toList ts R n := ⟨_, rfl⟩
  have HF : Hid (f = insF s.data.toList ts R n) := hf
  have HG : Hid (∀ j t, ts[j]? = some t → InsOk (s.data.toList.drop t.2.2) (f j)) := by rw [hf]; exact insF_ok _ _ _ _
  clear hts hR hf
  have hq0 : ((n : Int) == 0) = false := beq_of_ne (k := 0) (by omega)
  go_enter Tryd.func3, Tryd.ntmps3
  go_wp2_with fail
  refine (known_any _ ht).mono ?_
  rintro r w1 ⟨rfl, hb1⟩
  have hz1' := hb1.size
  have ht1 := ht.below (Nat.le_refl _) hb1
  go_wp2_with fail
  refine (scan_any s _ ht1).mono ?_
  intro r w2 hres
  rw [HX.out] at hres
  cases hres with
  | ok _ v he hown hn hb2 =>
    subst he
    have hz2' := hb2.size
    obtain ⟨pv, capt, rfl⟩ := ownsRow_form hown
    have HB2 : Hid (Below w.heap.size w w2) := hb1.trans (hb2.mono hz1')
    have HT2 : Hid (TabsAt gw ow gs os w2) := ht1.below (Nat.le_refl _) hb2
    have HO2 : Hid (w2.ownsRow w1.heap.size 31 3 (.slice pv ts.length capt) ts.length (tokCells ts)) := hown
    have HS0 : Hid (∃ a, 0 ≤ a ∧ a ≤ s.data.toList.length ∧ St s.data.toList a (ts.drop 0)) := ⟨0, by omega, by omega, st_spec _ ts HX.out⟩
    obtain ⟨N, hN⟩ : ∃ N, N = ts.length := ⟨_, rfl⟩
    have HN : Hid (N = ts.length) := hN
    rw [← hN] at HO2 hn ⊢
    clear hN hb1 hb2 ht ht1 hown
    go_wp2_with fail
    go_loopw [8, 9, 10, 11] (fun bv wv fv iv wr => ∃ (k frm : Nat) (B : Bytes) (us : List Tok), fv = .int .i64 frm ∧ iv = .int .i64 k ∧ k ≤ N ∧ frm ≤ s.size ∧ wr.ownsRow w2.heap.size 5 1 bv B.length (Lib.byteCells B) ∧ wr.ownsRow w2.heap.size 31 3 wv us.length (tokCells us) ∧ us.length = k ∧ B.length ≤ frm + 6 * k ∧ Below w2.heap.size w2 wr ∧ Hid (∃ a, frm ≤ a ∧ a ≤ s.data.toList.length ∧ St s.data.toList a (ts.drop k)) ∧ Hid (B ++ woven f (s.data.toList.drop frm) frm k (ts.drop k) = woven f s.data.toList 0 0 ts) ∧ Hid (us ++ wovenT f frm B.length k (ts.drop k) = wovenT f 0 0 0 ts)) (fun _ _ _ iv _ => N - (intOf iv).toNat)
    case atStart => exact ⟨0, 0, [], [], rfl, rfl, by omega, by omega, World.ownsRow_nil _ _ _ _, World.ownsRow_nil _ _ _ _, rfl, by simp, Below.refl _ _, HS0, rfl, rfl⟩
    case round =>
      obtain ⟨k, frm, B, us, rfl, rfl, hkN, hfs, hob, how, hus, hBl, hbr, HST, HW, HV⟩ := hrel
      have hzr := hbr.size
      by_cases hlt : k < N
      · have hkl : k < ts.length := by have := HN.out; omega
        obtain ⟨t, htk⟩ : ∃ t, t = ts[k] := ⟨_, rfl⟩
        obtain ⟨a, hfa, hal, hst⟩ := HST.out
        have hdk : ts.drop k = t :: ts.drop (k + 1) := by rw [List.drop_eq_getElem_cons hkl, ← htk]
        rw [hdk] at hst
        obtain ⟨hap, hps, -, nn, -, hpn, hrest⟩ := st_next _ _ _ hst hal t _ rfl
        have HLB : Hid (f k = insOf (pickZ (R (k % n))) (lineB s.data.toList t)) := by
          show _ = _
          rw [HF.out, insF, List.getD_eq_getElem?_getD, List.getElem?_eq_getElem hkl, ← htk]; rfl
        have hor := ownsRow_below HO2.out hbr
        obtain ⟨g, rfl, -, hg, hcap, -⟩ := ownsRow_some hor (by omega)
        have a0 := (hor.cellAt (k * 3) (by omega)).trans (tokCells_at ts k hkl 0 (by omega))
        have a1 := (hor.cellAt (k * 3 + 1) (by omega)).trans (tokCells_at ts k hkl 1 (by omega))
        have a2 := (hor.cellAt (k * 3 + 2) (by omega)).trans (tokCells_at ts k hkl 2 (by omega))
        rw [← htk] at a0 a1 a2
        obtain ⟨kd, tx, p⟩ := t
        simp only [tokCell, List.getElem?_cons_zero, List.getElem?_cons_succ] at a0 a1 a2 hap hps hpn hrest
        rw [HLs.out] at hps
        have HDK : Hid (ts.drop k = (kd, tx, p) :: ts.drop (k + 1)) := hdk
        have HST' : Hid (∃ a, p ≤ a ∧ a ≤ s.data.toList.length ∧ St s.data.toList a (ts.drop (k + 1))) := ⟨p + nn, by omega, hpn, hrest⟩
        have hfp : frm ≤ p := by omega
        have i1 : (k : Int) < N := by omega
        have hmod : ((k : Int).tmod (n : Int)) = ((k % n : Nat) : Int) := by rw [Int.tmod_eq_emod_of_nonneg (by omega)]; exact (Int.natCast_emod k n).symm
        have hmn : k % n < n := Nat.mod_lt _ hn0
        have hbW : Below w.heap.size w wr := HB2.out.trans (hbr.mono (by omega))
        have hAb : (A.add (k % n)).block < w.heap.size := by unfold Addr.add; split <;> exact hA
        have HBW : Hid (Below w.heap.size w wr) := hbW
        have HRC : Hid (w.cell? (A.add (k % n)) = some (.int .i64 (R (k % n)))) := (HR0.out _ hmn).1
        have HRB : Hid (-9223372036854775808 ≤ R (k % n) ∧ R (k % n) ≤ 9223372036854775807) := (HR0.out _ hmn).2
        clear htk hst hdk hor hrest hpn HST hap hfa hal hbW
        obtain ⟨T, hT⟩ : ∃ T, T = ByteArray.mk tx.toArray := ⟨_, rfl⟩
        rw [← hT] at a1
        have HT : Hid (T = ByteArray.mk tx.toArray) := hT
        clear hT
        obtain ⟨B1, hB1⟩ : ∃ B1, B1 = B ++ (s.data.toList.drop frm).take (p - frm) := ⟨_, rfl⟩
        have hB1l : B1.length = B.length + (p - frm) := by rw [hB1, List.length_append, List.length_take, List.length_drop, HLs.out]; omega
        have HB1 : Hid (B1 = B ++ (s.data.toList.drop frm).take (p - frm)) := hB1
        have hB1b : B1.length ≤ p + 6 * k := by omega
        clear hB1 hB1l
        have HSW : Hid (∀ r : Int, ∀ B4 : Bytes, pickZ (R (k % n)) = r → B4 = B1 ++ insOf r (lineB s.data.toList (kd, tx, p)) → B4 ++ woven f (s.data.toList.drop p) p (k + 1) (ts.drop (k + 1)) = woven f s.data.toList 0 0 ts ∧ (us ++ [(kd, tx, B4.length)]) ++ wovenT f p B4.length (k + 1) (ts.drop (k + 1)) = wovenT f 0 0 0 ts ∧ B4.length ≤ B1.length + 6) := fun r B4 hr h4 => by
          have hfk : f k = insOf r (lineB s.data.toList (kd, tx, p)) := by rw [← hr]; exact HLB.out
          have := weave_step f s.data.toList ts k frm kd tx p _ B us _ _ HDK.out hfp (by rw [HLs.out]; exact hps) HW.out HV.out B4 (by rw [h4, hfk, HB1.out])
          refine ⟨this.1, this.2.1, ?_⟩
          have h6 := insOf_le r (lineB s.data.toList (kd, tx, p))
          rw [h4, List.length_append]; omega
        have HOB : Hid (wr.ownsRow w2.heap.size 5 1 u8 B.length (Lib.byteCells B)) := hob
        have HOW : Hid (wr.ownsRow w2.heap.size 31 3 u9 us.length (tokCells us)) := how
        have hobL : ∀ g, u8.ownBlock = some g → w2.heap.size ≤ g ∧ g < wr.heap.size := fun g hg => hob.lt g hg
        have howL : Hid (∀ g, u9.ownBlock = some g → w2.heap.size ≤ g ∧ g < wr.heap.size) := fun g hg => how.lt g hg
        have HOBL : Hid (∀ g, u8.ownBlock = some g → w2.heap.size ≤ g ∧ g < wr.heap.size) := hobL
        clear hob how hobL HLB HW HV
        by_cases c1 : kd = 1
        · have q1 : ((kd : Int) == 1) = true := by rw [c1]; rfl
          by_cases cp : p = s.size
          · have ql : ((p : Int) == (s.size : Int)) = true := by rw [cp]; simp
            have HLN : Hid (lineB s.data.toList (kd, tx, p) = true) := by show _ = _; unfold lineB; rw [HLs.out]; simp [c1, cp]
            clear c1 cp
            go_wp2_with (at_builtin; refine Lib.wpList_append_own_string _ rfl _ _ 29 9 rfl w2.heap.size 5 i5 Tryd.underlying29 Tryd.underlying9 hi5 hz50 hz51 hz52 _ _ _ rfl (HOB.out.alloc _) (s.extract frm p) rfl (by simp; unfold maxLen; omega) (by simp; omega) (by simp; omega) ?_; intro v1 w3 hown3 hgr3 _; obtain ⟨hc3, hf3⟩ := grown_cells hgr3 (T := wr.heap.size) (by simp) (fun e => by have := (HOBL.out _ e.symm).2; omega); have HB3 : Hid (Below w2.heap.size w2 w3) := (Below.grown (hbr.alloc (by omega) _) hgr3 (by simp; omega) (fun j hj => (HOBL.out _ hj).1)); have hrc3 : w3.cell? (A.add (k % n)) = some (.int .i64 (R (k % n))) := (Below.cell (HB2.out.trans (HB3.out.mono (by omega))) hAb).trans HRC.out)
            have HO3 : Hid (w3.ownsRow w2.heap.size 5 1 v1 B1.length (Lib.byteCells B1)) := (by show World.ownsRow _ _ _ _ _ _ _; rw [HB1.out, byteCells_append, ← strCells_extract, List.length_append, List.length_take, List.length_drop, HLs.out, Nat.min_eq_left (by omega)]; simpa [Nat.min_eq_left hps] using hown3)
            have HT3 : Hid (w3.heap[wr.heap.size]? = some (.cells #[.int .i64 kd, .string T, .int .i64 p] 31)) := (hgr3.block _ (by simp) (fun e => by have := (HOBL.out _ e.symm).2; omega)).trans (heap_alloc_new wr _)
            have HOW3 : Hid (w3.ownsRow w2.heap.size 31 3 u9 us.length (tokCells us)) := (HOW.out.alloc _).kept hgr3 (rows_apart HOW.out HOB.out (by decide))
            have hz3 : wr.heap.size < w3.heap.size := (Array.getElem?_eq_some_iff.1 HT3.out).1
            obtain ⟨pb, cb, rfl⟩ := ownsRow_form HO3.out
            clear hown3 hgr3
            refine (pick_any _ _ HRB.out.1 HRB.out.2).mono ?_
            rintro _ w3q ⟨r, hr6, rfl, HPK, hw3q⟩
            have hw3r := hw3q.symm
            subst hw3r
            clear hw3q
            have y0 : w3.cell? ⟨wr.heap.size, 0, none⟩ = some (.int .i64 kd) := by simp [World.cell?, HT3.out]
            have y1 : w3.cell? ⟨wr.heap.size, 1, none⟩ = some (.string T) := by simp [World.cell?, HT3.out]
            have y2 : w3.cell? ⟨wr.heap.size, 2, none⟩ = some (.int .i64 p) := by simp [World.cell?, HT3.out]
            have yf : ∀ o, w3.frozen? ⟨wr.heap.size, o, none⟩ = false := fun o => by simp [World.frozen?, HT3.out]
            clear hc3 hf3 hrc3
            have hr : r = 0 ∨ r = 1 ∨ r = 2 ∨ r = 3 ∨ r = 4 ∨ r = 5 := by omega
            rcases hr with rfl | rfl | rfl | rfl | rfl | rfl
            · have HE := HSW.out 0 B1 HPK.out (by rw [HLN.out]; exact (List.append_nil B1).symm)
              have HE : Hid _ := HE
              have HOW5 : Hid ((w3.setCell ⟨wr.heap.size, 2, none⟩ (.int .i64 B1.length)).ownsRow w2.heap.size 31 3 u9 us.length (tokCells us)) := ownsRow_setCell_other HOW3.out (fun e => by have := (howL.out _ e).2; simp at this) _
              have HO5 : Hid ((w3.setCell ⟨wr.heap.size, 2, none⟩ (.int .i64 B1.length)).ownsRow w2.heap.size 5 1 (.slice pb B1.length cb) B1.length (Lib.byteCells B1)) := ownsRow_setCell_other HO3.out (fun e => row_not HO3.out HT3.out (by decide) e.symm) _
              have HB5 : Hid (Below w2.heap.size w2 (w3.setCell ⟨wr.heap.size, 2, none⟩ (.int .i64 B1.length))) := HB3.out.setCell (show w2.heap.size ≤ wr.heap.size from hzr) _
              go_wp2_with (at_builtin; refine wpList_append_own _ rfl _ _ 24 rfl w2.heap.size 31 i0 (.agg #[.int .i64 0, .string ⟨#[]⟩, .int .i64 0]) 3 32 Tryd.underlying24 hi hz0 hz1 hz2 rfl (by decide) _ _ _ rfl (HOW5.out.alloc _) ⟨w3.heap.size, 0, none⟩ 1 1 [.int .i64 kd, .string T, .int .i64 B1.length] rfl rfl (by simpa using three_new (w3.setCell ⟨wr.heap.size, 2, none⟩ (.int .i64 B1.length)) 31 (.int .i64 kd) (.string T) (.int .i64 B1.length)) (fun x hx => by simp at hx; rcases hx with rfl | rfl | rfl <;> rfl) (by unfold maxLen; omega) (by omega) (by simp; omega) ?_; intro v6 w6 hown6 hgr6 _)
              obtain ⟨e1, e2, e3⟩ := HE.out
              have hb6 : Below w2.heap.size w2 w6 := Below.grown (HB5.out.alloc (by simp; omega) _) hgr6 (by simp; omega) (fun j hj => (howL.out _ hj).1)
              have ho6 : w6.ownsRow w2.heap.size 5 1 (.slice pb B1.length cb) B1.length (Lib.byteCells B1) := (HO5.out.alloc _).kept hgr6 (rows_apart HO5.out HOW5.out (by decide))
              have how6 : w6.ownsRow w2.heap.size 31 3 v6 (us ++ [(kd, tx, B1.length)]).length (tokCells (us ++ [(kd, tx, B1.length)])) := by
                rw [tokCells_append, tokCells_one, List.length_append, tokCell, ← HT.out]
                exact hown6
              exact ⟨⟨k + 1, p, B1, us ++ [(kd, tx, B1.length)], rfl, by go_num, by omega, hps, ho6, how6, by simp; omega, by omega, hb6, HST', e1, e2⟩, by simp [intOf]; omega⟩
            · obtain ⟨B4, hB4⟩ : ∃ B4, B4 = B1 ++ [32] := ⟨_, rfl⟩
              have HE := HSW.out 1 B4 HPK.out (by rw [HLN.out]; exact hB4)
              have HE : Hid _ := HE
              have hB4l : B4.length = B1.length + 1 := by rw [hB4, List.length_append]; rfl
              have HB4 : Hid (B4 = B1 ++ [32]) := hB4
              have HB4l : Hid (B4.length = B1.length + 1) := hB4l
              have hB4b : B4.length ≤ B1.length + 6 := by omega
              clear hB4 hB4l
              go_wp2_with (first | (at_builtin; refine wpList_append_own _ rfl _ _ 24 rfl w2.heap.size 31 i0 (.agg #[.int .i64 0, .string ⟨#[]⟩, .int .i64 0]) 3 32 Tryd.underlying24 hi hz0 hz1 hz2 rfl (by decide) _ _ _ rfl (HOW5.out.alloc _) ⟨w4.heap.size, 0, none⟩ 1 1 [.int .i64 kd, .string T, .int .i64 B4.length] rfl rfl (by simpa using three_new (w4.setCell ⟨wr.heap.size, 2, none⟩ (.int .i64 B4.length)) 31 (.int .i64 kd) (.string T) (.int .i64 B4.length)) (fun x hx => by simp at hx; rcases hx with rfl | rfl | rfl <;> rfl) (by unfold maxLen; omega) (by omega) (by simp; omega) ?_; intro v6 w6 hown6 hgr6 _) | (at_builtin; refine wpList_append_own _ rfl _ _ 29 rfl w2.heap.size 5 i5 (.int .u8 0) 1 1 Tryd.underlying29 hi5 hz50 hz51 hz52 rfl (by decide) _ _ _ rfl (HO3.out.alloc _) ⟨w3.heap.size, 0, none⟩ 1 1 [.int .u8 32] rfl rfl (own_bytes1 _ 32) (fun x hx => by simp at hx; subst hx; rfl) (by unfold maxLen; omega) (by omega) (by simp; omega) ?_; intro v4 w4 hown4 hgr4 _; have ho4 : w4.ownsRow w2.heap.size 5 1 v4 B4.length (Lib.byteCells B4) := (by rw [HB4l.out, HB4.out, byteCells_append]; exact hown4); have HOW4 : Hid (w4.ownsRow w2.heap.size 31 3 u9 us.length (tokCells us)) := (HOW3.out.alloc _).kept hgr4 (rows_apart HOW3.out HO3.out (by decide)); have hT4 : w4.heap[wr.heap.size]? = some (.cells #[.int .i64 kd, .string T, .int .i64 p] 31) := (hgr4.block _ (by simp; omega) (row_not HO3.out HT3.out (by decide))).trans ((Below.heap_alloc _ _ _ hz3).trans HT3.out); have HT4 : Hid (w4.heap[wr.heap.size]? = some (.cells #[.int .i64 kd, .string T, .int .i64 p] 31)) := hT4; have x0 : w4.cell? ⟨wr.heap.size, 0, none⟩ = some (.int .i64 kd) := (by simp [World.cell?, hT4]); have x1 : w4.cell? ⟨wr.heap.size, 1, none⟩ = some (.string T) := (by simp [World.cell?, hT4]); have x2 : w4.cell? ⟨wr.heap.size, 2, none⟩ = some (.int .i64 p) := (by simp [World.cell?, hT4]); have xf : ∀ o, w4.frozen? ⟨wr.heap.size, o, none⟩ = false := (fun o => by simp [World.frozen?, hT4]); have HB4' : Hid (Below w2.heap.size w2 w4) := Below.grown (HB3.out.alloc (by omega) _) hgr4 (by simp; omega) (fun j hj => (HO3.out.lt _ hj).1); have hz4 : w3.heap.size ≤ w4.heap.size := (by have := hgr4.size; simp at this; omega); obtain ⟨pb4, cb4, rfl⟩ := ownsRow_form ho4; have HO4 : Hid (w4.ownsRow w2.heap.size 5 1 (.slice pb4 B4.length cb4) B4.length (Lib.byteCells B4)) := ho4; clear hown4 hgr4 ho4 hT4; have HOW5 : Hid ((w4.setCell ⟨wr.heap.size, 2, none⟩ (.int .i64 B4.length)).ownsRow w2.heap.size 31 3 u9 us.length (tokCells us)) := ownsRow_setCell_other HOW4.out (fun e => by have := (howL.out _ e).2; simp at this) _; have HO5 : Hid ((w4.setCell ⟨wr.heap.size, 2, none⟩ (.int .i64 B4.length)).ownsRow w2.heap.size 5 1 (.slice pb4 B4.length cb4) B4.length (Lib.byteCells B4)) := ownsRow_setCell_other HO4.out (fun e => row_not HO4.out HT4.out (by decide) e.symm) _; have HB5 : Hid (Below w2.heap.size w2 (w4.setCell ⟨wr.heap.size, 2, none⟩ (.int .i64 B4.length))) := HB4'.out.setCell (show w2.heap.size ≤ wr.heap.size from hzr) _))
              obtain ⟨e1, e2, e3⟩ := HE.out
              have hb6 : Below w2.heap.size w2 w6 := Below.grown (HB5.out.alloc (by simp; omega) _) hgr6 (by simp; omega) (fun j hj => (howL.out _ hj).1)
              have ho6 : w6.ownsRow w2.heap.size 5 1 (.slice pb4 B4.length cb4) B4.length (Lib.byteCells B4) := (HO5.out.alloc _).kept hgr6 (rows_apart HO5.out HOW5.out (by decide))
              have how6 : w6.ownsRow w2.heap.size 31 3 v6 (us ++ [(kd, tx, B4.length)]).length (tokCells (us ++ [(kd, tx, B4.length)])) := by
                rw [tokCells_append, tokCells_one, List.length_append, tokCell, ← HT.out]
                exact hown6
              exact ⟨⟨k + 1, p, B4, us ++ [(kd, tx, B4.length)], rfl, by go_num, by omega, hps, ho6, how6, by simp; omega, by omega, hb6, HST', e1, e2⟩, by simp [intOf]; omega⟩
            · obtain ⟨B4, hB4⟩ : ∃ B4, B4 = B1 ++ [9, 32] := ⟨_, rfl⟩
              have HE := HSW.out 2 B4 HPK.out (by rw [HLN.out]; exact hB4)
              have HE : Hid _ := HE
              have hB4l : B4.length = B1.length + 2 := by rw [hB4, List.length_append]; rfl
              have HB4 : Hid (B4 = B1 ++ [9, 32]) := hB4
              have HB4l : Hid (B4.length = B1.length + 2) := hB4l
              have hB4b : B4.length ≤ B1.length + 6 := by omega
              clear hB4 hB4l
              go_wp2_with (first | (at_builtin; refine wpList_append_own _ rfl _ _ 24 rfl w2.heap.size 31 i0 (.agg #[.int .i64 0, .string ⟨#[]⟩, .int .i64 0]) 3 32 Tryd.underlying24 hi hz0 hz1 hz2 rfl (by decide) _ _ _ rfl (HOW5.out.alloc _) ⟨w4.heap.size, 0, none⟩ 1 1 [.int .i64 kd, .string T, .int .i64 B4.length] rfl rfl (by simpa using three_new (w4.setCell ⟨wr.heap.size, 2, none⟩ (.int .i64 B4.length)) 31 (.int .i64 kd) (.string T) (.int .i64 B4.length)) (fun x hx => by simp at hx; rcases hx with rfl | rfl | rfl <;> rfl) (by unfold maxLen; omega) (by omega) (by simp; omega) ?_; intro v6 w6 hown6 hgr6 _) | (at_builtin; refine wpList_append_own _ rfl _ _ 29 rfl w2.heap.size 5 i5 (.int .u8 0) 1 1 Tryd.underlying29 hi5 hz50 hz51 hz52 rfl (by decide) _ _ _ rfl (HO3.out.alloc _) ⟨w3.heap.size, 0, none⟩ 2 2 [.int .u8 9, .int .u8 32] rfl rfl (two_new _ _ _ _) (fun x hx => by simp at hx; rcases hx with rfl | rfl <;> rfl) (by unfold maxLen; omega) (by omega) (by simp; omega) ?_; intro v4 w4 hown4 hgr4 _; have ho4 : w4.ownsRow w2.heap.size 5 1 v4 B4.length (Lib.byteCells B4) := (by rw [HB4l.out, HB4.out, byteCells_append]; exact hown4); have HOW4 : Hid (w4.ownsRow w2.heap.size 31 3 u9 us.length (tokCells us)) := (HOW3.out.alloc _).kept hgr4 (rows_apart HOW3.out HO3.out (by decide)); have hT4 : w4.heap[wr.heap.size]? = some (.cells #[.int .i64 kd, .string T, .int .i64 p] 31) := (hgr4.block _ (by simp; omega) (row_not HO3.out HT3.out (by decide))).trans ((Below.heap_alloc _ _ _ hz3).trans HT3.out); have HT4 : Hid (w4.heap[wr.heap.size]? = some (.cells #[.int .i64 kd, .string T, .int .i64 p] 31)) := hT4; have x0 : w4.cell? ⟨wr.heap.size, 0, none⟩ = some (.int .i64 kd) := (by simp [World.cell?, hT4]); have x1 : w4.cell? ⟨wr.heap.size, 1, none⟩ = some (.string T) := (by simp [World.cell?, hT4]); have x2 : w4.cell? ⟨wr.heap.size, 2, none⟩ = some (.int .i64 p) := (by simp [World.cell?, hT4]); have xf : ∀ o, w4.frozen? ⟨wr.heap.size, o, none⟩ = false := (fun o => by simp [World.frozen?, hT4]); have HB4' : Hid (Below w2.heap.size w2 w4) := Below.grown (HB3.out.alloc (by omega) _) hgr4 (by simp; omega) (fun j hj => (HO3.out.lt _ hj).1); have hz4 : w3.heap.size ≤ w4.heap.size := (by have := hgr4.size; simp at this; omega); obtain ⟨pb4, cb4, rfl⟩ := ownsRow_form ho4; have HO4 : Hid (w4.ownsRow w2.heap.size 5 1 (.slice pb4 B4.length cb4) B4.length (Lib.byteCells B4)) := ho4; clear hown4 hgr4 ho4 hT4; have HOW5 : Hid ((w4.setCell ⟨wr.heap.size, 2, none⟩ (.int .i64 B4.length)).ownsRow w2.heap.size 31 3 u9 us.length (tokCells us)) := ownsRow_setCell_other HOW4.out (fun e => by have := (howL.out _ e).2; simp at this) _; have HO5 : Hid ((w4.setCell ⟨wr.heap.size, 2, none⟩ (.int .i64 B4.length)).ownsRow w2.heap.size 5 1 (.slice pb4 B4.length cb4) B4.length (Lib.byteCells B4)) := ownsRow_setCell_other HO4.out (fun e => row_not HO4.out HT4.out (by decide) e.symm) _; have HB5 : Hid (Below w2.heap.size w2 (w4.setCell ⟨wr.heap.size, 2, none⟩ (.int .i64 B4.length))) := HB4'.out.setCell (show w2.heap.size ≤ wr.heap.size from hzr) _))
              obtain ⟨e1, e2, e3⟩ := HE.out
              have hb6 : Below w2.heap.size w2 w6 := Below.grown (HB5.out.alloc (by simp; omega) _) hgr6 (by simp; omega) (fun j hj => (howL.out _ hj).1)
              have ho6 : w6.ownsRow w2.heap.size 5 1 (.slice pb4 B4.length cb4) B4.length (Lib.byteCells B4) := (HO5.out.alloc _).kept hgr6 (rows_apart HO5.out HOW5.out (by decide))
              have how6 : w6.ownsRow w2.heap.size 31 3 v6 (us ++ [(kd, tx, B4.length)]).length (tokCells (us ++ [(kd, tx, B4.length)])) := by
                rw [tokCells_append, tokCells_one, List.length_append, tokCell, ← HT.out]
                exact hown6
              exact ⟨⟨k + 1, p, B4, us ++ [(kd, tx, B4.length)], rfl, by go_num, by omega, hps, ho6, how6, by simp; omega, by omega, hb6, HST', e1, e2⟩, by simp [intOf]; omega⟩
            · obtain ⟨B4, hB4⟩ : ∃ B4, B4 = B1 ++ ins3 := ⟨_, rfl⟩
              have HE := HSW.out 3 B4 HPK.out (by rw [HLN.out]; exact hB4)
              have HE : Hid _ := HE
              have hB4l : B4.length = B1.length + 6 := by rw [hB4, List.length_append]; rfl
              have HB4 : Hid (B4 = B1 ++ ins3) := hB4
              have HB4l : Hid (B4.length = B1.length + 6) := hB4l
              have hB4b : B4.length ≤ B1.length + 6 := by omega
              clear hB4 hB4l
              go_wp2_with (first | (at_builtin; refine wpList_append_own _ rfl _ _ 24 rfl w2.heap.size 31 i0 (.agg #[.int .i64 0, .string ⟨#[]⟩, .int .i64 0]) 3 32 Tryd.underlying24 hi hz0 hz1 hz2 rfl (by decide) _ _ _ rfl (HOW5.out.alloc _) ⟨w4.heap.size, 0, none⟩ 1 1 [.int .i64 kd, .string T, .int .i64 B4.length] rfl rfl (by simpa using three_new (w4.setCell ⟨wr.heap.size, 2, none⟩ (.int .i64 B4.length)) 31 (.int .i64 kd) (.string T) (.int .i64 B4.length)) (fun x hx => by simp at hx; rcases hx with rfl | rfl | rfl <;> rfl) (by unfold maxLen; omega) (by omega) (by simp; omega) ?_; intro v6 w6 hown6 hgr6 _) | (at_builtin; refine Lib.wpList_append_own_string _ rfl _ _ 29 9 rfl w2.heap.size 5 i5 Tryd.underlying29 Tryd.underlying9 hi5 hz50 hz51 hz52 _ _ _ rfl HO3.out ⟨#[32, 47, 47, 32, 34, 120]⟩ rfl (by show B1.length + 6 ≤ maxLen; unfold maxLen; omega) (by show B1.length + 6 ≤ _; omega) (by omega) ?_; intro v4 w4 hown4 hgr4 _; have ho4 : w4.ownsRow w2.heap.size 5 1 v4 B4.length (Lib.byteCells B4) := (by rw [HB4l.out, HB4.out, byteCells_append]; exact (by rw [strCells_lit] at hown4; exact hown4)); have HOW4 : Hid (w4.ownsRow w2.heap.size 31 3 u9 us.length (tokCells us)) := (HOW3.out).kept hgr4 (rows_apart HOW3.out HO3.out (by decide)); have hT4 : w4.heap[wr.heap.size]? = some (.cells #[.int .i64 kd, .string T, .int .i64 p] 31) := (hgr4.block _ (by omega) (row_not HO3.out HT3.out (by decide))).trans HT3.out; have HT4 : Hid (w4.heap[wr.heap.size]? = some (.cells #[.int .i64 kd, .string T, .int .i64 p] 31)) := hT4; have x0 : w4.cell? ⟨wr.heap.size, 0, none⟩ = some (.int .i64 kd) := (by simp [World.cell?, hT4]); have x1 : w4.cell? ⟨wr.heap.size, 1, none⟩ = some (.string T) := (by simp [World.cell?, hT4]); have x2 : w4.cell? ⟨wr.heap.size, 2, none⟩ = some (.int .i64 p) := (by simp [World.cell?, hT4]); have xf : ∀ o, w4.frozen? ⟨wr.heap.size, o, none⟩ = false := (fun o => by simp [World.frozen?, hT4]); have HB4' : Hid (Below w2.heap.size w2 w4) := Below.grown HB3.out hgr4 (by omega) (fun j hj => (HO3.out.lt _ hj).1); have hz4 : w3.heap.size ≤ w4.heap.size := (by have := hgr4.size; omega); obtain ⟨pb4, cb4, rfl⟩ := ownsRow_form ho4; have HO4 : Hid (w4.ownsRow w2.heap.size 5 1 (.slice pb4 B4.length cb4) B4.length (Lib.byteCells B4)) := ho4; clear hown4 hgr4 ho4 hT4; have HOW5 : Hid ((w4.setCell ⟨wr.heap.size, 2, none⟩ (.int .i64 B4.length)).ownsRow w2.heap.size 31 3 u9 us.length (tokCells us)) := ownsRow_setCell_other HOW4.out (fun e => by have := (howL.out _ e).2; simp at this) _; have HO5 : Hid ((w4.setCell ⟨wr.heap.size, 2, none⟩ (.int .i64 B4.length)).ownsRow w2.heap.size 5 1 (.slice pb4 B4.length cb4) B4.length (Lib.byteCells B4)) := ownsRow_setCell_other HO4.out (fun e => row_not HO4.out HT4.out (by decide) e.symm) _; have HB5 : Hid (Below w2.heap.size w2 (w4.setCell ⟨wr.heap.size, 2, none⟩ (.int .i64 B4.length))) := HB4'.out.setCell (show w2.heap.size ≤ wr.heap.size from hzr) _))
              obtain ⟨e1, e2, e3⟩ := HE.out
              have hb6 : Below w2.heap.size w2 w6 := Below.grown (HB5.out.alloc (by simp; omega) _) hgr6 (by simp; omega) (fun j hj => (howL.out _ hj).1)
              have ho6 : w6.ownsRow w2.heap.size 5 1 (.slice pb4 B4.length cb4) B4.length (Lib.byteCells B4) := (HO5.out.alloc _).kept hgr6 (rows_apart HO5.out HOW5.out (by decide))
              have how6 : w6.ownsRow w2.heap.size 31 3 v6 (us ++ [(kd, tx, B4.length)]).length (tokCells (us ++ [(kd, tx, B4.length)])) := by
                rw [tokCells_append, tokCells_one, List.length_append, tokCell, ← HT.out]
                exact hown6
              exact ⟨⟨k + 1, p, B4, us ++ [(kd, tx, B4.length)], rfl, by go_num, by omega, hps, ho6, how6, by simp; omega, by omega, hb6, HST', e1, e2⟩, by simp [intOf]; omega⟩
            · obtain ⟨B4, hB4⟩ : ∃ B4, B4 = B1 ++ ins4 := ⟨_, rfl⟩
              have HE := HSW.out 4 B4 HPK.out (by rw [HLN.out]; exact hB4)
              have HE : Hid _ := HE
              have hB4l : B4.length = B1.length + 3 := by rw [hB4, List.length_append]; rfl
              have HB4 : Hid (B4 = B1 ++ ins4) := hB4
              have HB4l : Hid (B4.length = B1.length + 3) := hB4l
              have hB4b : B4.length ≤ B1.length + 6 := by omega
              clear hB4 hB4l
              go_wp2_with (first | (at_builtin; refine wpList_append_own _ rfl _ _ 24 rfl w2.heap.size 31 i0 (.agg #[.int .i64 0, .string ⟨#[]⟩, .int .i64 0]) 3 32 Tryd.underlying24 hi hz0 hz1 hz2 rfl (by decide) _ _ _ rfl (HOW5.out.alloc _) ⟨w4.heap.size, 0, none⟩ 1 1 [.int .i64 kd, .string T, .int .i64 B4.length] rfl rfl (by simpa using three_new (w4.setCell ⟨wr.heap.size, 2, none⟩ (.int .i64 B4.length)) 31 (.int .i64 kd) (.string T) (.int .i64 B4.length)) (fun x hx => by simp at hx; rcases hx with rfl | rfl | rfl <;> rfl) (by unfold maxLen; omega) (by omega) (by simp; omega) ?_; intro v6 w6 hown6 hgr6 _) | (at_builtin; refine Lib.wpList_append_own_string _ rfl _ _ 29 9 rfl w2.heap.size 5 i5 Tryd.underlying29 Tryd.underlying9 hi5 hz50 hz51 hz52 _ _ _ rfl HO3.out ⟨#[47, 47, 47]⟩ rfl (by show B1.length + 3 ≤ maxLen; unfold maxLen; omega) (by show B1.length + 3 ≤ _; omega) (by omega) ?_; intro v4 w4 hown4 hgr4 _; have ho4 : w4.ownsRow w2.heap.size 5 1 v4 B4.length (Lib.byteCells B4) := (by rw [HB4l.out, HB4.out, byteCells_append]; exact (by rw [strCells_lit] at hown4; exact hown4)); have HOW4 : Hid (w4.ownsRow w2.heap.size 31 3 u9 us.length (tokCells us)) := (HOW3.out).kept hgr4 (rows_apart HOW3.out HO3.out (by decide)); have hT4 : w4.heap[wr.heap.size]? = some (.cells #[.int .i64 kd, .string T, .int .i64 p] 31) := (hgr4.block _ (by omega) (row_not HO3.out HT3.out (by decide))).trans HT3.out; have HT4 : Hid (w4.heap[wr.heap.size]? = some (.cells #[.int .i64 kd, .string T, .int .i64 p] 31)) := hT4; have x0 : w4.cell? ⟨wr.heap.size, 0, none⟩ = some (.int .i64 kd) := (by simp [World.cell?, hT4]); have x1 : w4.cell? ⟨wr.heap.size, 1, none⟩ = some (.string T) := (by simp [World.cell?, hT4]); have x2 : w4.cell? ⟨wr.heap.size, 2, none⟩ = some (.int .i64 p) := (by simp [World.cell?, hT4]); have xf : ∀ o, w4.frozen? ⟨wr.heap.size, o, none⟩ = false := (fun o => by simp [World.frozen?, hT4]); have HB4' : Hid (Below w2.heap.size w2 w4) := Below.grown HB3.out hgr4 (by omega) (fun j hj => (HO3.out.lt _ hj).1); have hz4 : w3.heap.size ≤ w4.heap.size := (by have := hgr4.size; omega); obtain ⟨pb4, cb4, rfl⟩ := ownsRow_form ho4; have HO4 : Hid (w4.ownsRow w2.heap.size 5 1 (.slice pb4 B4.length cb4) B4.length (Lib.byteCells B4)) := ho4; clear hown4 hgr4 ho4 hT4; have HOW5 : Hid ((w4.setCell ⟨wr.heap.size, 2, none⟩ (.int .i64 B4.length)).ownsRow w2.heap.size 31 3 u9 us.length (tokCells us)) := ownsRow_setCell_other HOW4.out (fun e => by have := (howL.out _ e).2; simp at this) _; have HO5 : Hid ((w4.setCell ⟨wr.heap.size, 2, none⟩ (.int .i64 B4.length)).ownsRow w2.heap.size 5 1 (.slice pb4 B4.length cb4) B4.length (Lib.byteCells B4)) := ownsRow_setCell_other HO4.out (fun e => row_not HO4.out HT4.out (by decide) e.symm) _; have HB5 : Hid (Below w2.heap.size w2 (w4.setCell ⟨wr.heap.size, 2, none⟩ (.int .i64 B4.length))) := HB4'.out.setCell (show w2.heap.size ≤ wr.heap.size from hzr) _))
              obtain ⟨e1, e2, e3⟩ := HE.out
              have hb6 : Below w2.heap.size w2 w6 := Below.grown (HB5.out.alloc (by simp; omega) _) hgr6 (by simp; omega) (fun j hj => (howL.out _ hj).1)
              have ho6 : w6.ownsRow w2.heap.size 5 1 (.slice pb4 B4.length cb4) B4.length (Lib.byteCells B4) := (HO5.out.alloc _).kept hgr6 (rows_apart HO5.out HOW5.out (by decide))
              have how6 : w6.ownsRow w2.heap.size 31 3 v6 (us ++ [(kd, tx, B4.length)]).length (tokCells (us ++ [(kd, tx, B4.length)])) := by
                rw [tokCells_append, tokCells_one, List.length_append, tokCell, ← HT.out]
                exact hown6
              exact ⟨⟨k + 1, p, B4, us ++ [(kd, tx, B4.length)], rfl, by go_num, by omega, hps, ho6, how6, by simp; omega, by omega, hb6, HST', e1, e2⟩, by simp [intOf]; omega⟩
            · have HE := HSW.out 5 B1 HPK.out (by rw [HLN.out]; exact (List.append_nil B1).symm)
              have HE : Hid _ := HE
              have HOW5 : Hid ((w3.setCell ⟨wr.heap.size, 2, none⟩ (.int .i64 B1.length)).ownsRow w2.heap.size 31 3 u9 us.length (tokCells us)) := ownsRow_setCell_other HOW3.out (fun e => by have := (howL.out _ e).2; simp at this) _
              have HO5 : Hid ((w3.setCell ⟨wr.heap.size, 2, none⟩ (.int .i64 B1.length)).ownsRow w2.heap.size 5 1 (.slice pb B1.length cb) B1.length (Lib.byteCells B1)) := ownsRow_setCell_other HO3.out (fun e => row_not HO3.out HT3.out (by decide) e.symm) _
              have HB5 : Hid (Below w2.heap.size w2 (w3.setCell ⟨wr.heap.size, 2, none⟩ (.int .i64 B1.length))) := HB3.out.setCell (show w2.heap.size ≤ wr.heap.size from hzr) _
              go_wp2_with (at_builtin; refine wpList_append_own _ rfl _ _ 24 rfl w2.heap.size 31 i0 (.agg #[.int .i64 0, .string ⟨#[]⟩, .int .i64 0]) 3 32 Tryd.underlying24 hi hz0 hz1 hz2 rfl (by decide) _ _ _ rfl (HOW5.out.alloc _) ⟨w3.heap.size, 0, none⟩ 1 1 [.int .i64 kd, .string T, .int .i64 B1.length] rfl rfl (by simpa using three_new (w3.setCell ⟨wr.heap.size, 2, none⟩ (.int .i64 B1.length)) 31 (.int .i64 kd) (.string T) (.int .i64 B1.length)) (fun x hx => by simp at hx; rcases hx with rfl | rfl | rfl <;> rfl) (by unfold maxLen; omega) (by omega) (by simp; omega) ?_; intro v6 w6 hown6 hgr6 _)
              obtain ⟨e1, e2, e3⟩ := HE.out
              have hb6 : Below w2.heap.size w2 w6 := Below.grown (HB5.out.alloc (by simp; omega) _) hgr6 (by simp; omega) (fun j hj => (howL.out _ hj).1)
              have ho6 : w6.ownsRow w2.heap.size 5 1 (.slice pb B1.length cb) B1.length (Lib.byteCells B1) := (HO5.out.alloc _).kept hgr6 (rows_apart HO5.out HOW5.out (by decide))
              have how6 : w6.ownsRow w2.heap.size 31 3 v6 (us ++ [(kd, tx, B1.length)]).length (tokCells (us ++ [(kd, tx, B1.length)])) := by
                rw [tokCells_append, tokCells_one, List.length_append, tokCell, ← HT.out]
                exact hown6
              exact ⟨⟨k + 1, p, B1, us ++ [(kd, tx, B1.length)], rfl, by go_num, by omega, hps, ho6, how6, by simp; omega, by omega, hb6, HST', e1, e2⟩, by simp [intOf]; omega⟩
          · have ql : ((p : Int) == (s.size : Int)) = false := beq_of_ne cp
            have hpl : p < s.size := by omega
            by_cases cb : (s[p]'hpl).toNat = 10
            · have qb : (((s[p]'hpl).toNat : Int) == 10) = true := by rw [cb]; rfl
              have HLN : Hid (lineB s.data.toList (kd, tx, p) = true) := by show _ = _; unfold lineB; rw [getD_byte s p hpl]; simp [c1, cb]
              clear c1 cp cb
              go_wp2_with (at_builtin; refine Lib.wpList_append_own_string _ rfl _ _ 29 9 rfl w2.heap.size 5 i5 Tryd.underlying29 Tryd.underlying9 hi5 hz50 hz51 hz52 _ _ _ rfl (HOB.out.alloc _) (s.extract frm p) rfl (by simp; unfold maxLen; omega) (by simp; omega) (by simp; omega) ?_; intro v1 w3 hown3 hgr3 _; obtain ⟨hc3, hf3⟩ := grown_cells hgr3 (T := wr.heap.size) (by simp) (fun e => by have := (HOBL.out _ e.symm).2; omega); have HB3 : Hid (Below w2.heap.size w2 w3) := (Below.grown (hbr.alloc (by omega) _) hgr3 (by simp; omega) (fun j hj => (HOBL.out _ hj).1)); have hrc3 : w3.cell? (A.add (k % n)) = some (.int .i64 (R (k % n))) := (Below.cell (HB2.out.trans (HB3.out.mono (by omega))) hAb).trans HRC.out)
              have HO3 : Hid (w3.ownsRow w2.heap.size 5 1 v1 B1.length (Lib.byteCells B1)) := (by show World.ownsRow _ _ _ _ _ _ _; rw [HB1.out, byteCells_append, ← strCells_extract, List.length_append, List.length_take, List.length_drop, HLs.out, Nat.min_eq_left (by omega)]; simpa [Nat.min_eq_left hps] using hown3)
              have HT3 : Hid (w3.heap[wr.heap.size]? = some (.cells #[.int .i64 kd, .string T, .int .i64 p] 31)) := (hgr3.block _ (by simp) (fun e => by have := (HOBL.out _ e.symm).2; omega)).trans (heap_alloc_new wr _)
              have HOW3 : Hid (w3.ownsRow w2.heap.size 31 3 u9 us.length (tokCells us)) := (HOW.out.alloc _).kept hgr3 (rows_apart HOW.out HOB.out (by decide))
              have hz3 : wr.heap.size < w3.heap.size := (Array.getElem?_eq_some_iff.1 HT3.out).1
              obtain ⟨pb, cb, rfl⟩ := ownsRow_form HO3.out
              clear hown3 hgr3
              refine (pick_any _ _ HRB.out.1 HRB.out.2).mono ?_
              rintro _ w3q ⟨r, hr6, rfl, HPK, hw3q⟩
              have hw3r := hw3q.symm
              subst hw3r
              clear hw3q
              have y0 : w3.cell? ⟨wr.heap.size, 0, none⟩ = some (.int .i64 kd) := by simp [World.cell?, HT3.out]
              have y1 : w3.cell? ⟨wr.heap.size, 1, none⟩ = some (.string T) := by simp [World.cell?, HT3.out]
              have y2 : w3.cell? ⟨wr.heap.size, 2, none⟩ = some (.int .i64 p) := by simp [World.cell?, HT3.out]
              have yf : ∀ o, w3.frozen? ⟨wr.heap.size, o, none⟩ = false := fun o => by simp [World.frozen?, HT3.out]
              clear hc3 hf3 hrc3
              have hr : r = 0 ∨ r = 1 ∨ r = 2 ∨ r = 3 ∨ r = 4 ∨ r = 5 := by omega
              rcases hr with rfl | rfl | rfl | rfl | rfl | rfl
              · have HE := HSW.out 0 B1 HPK.out (by rw [HLN.out]; exact (List.append_nil B1).symm)
                have HE : Hid _ := HE
                have HOW5 : Hid ((w3.setCell ⟨wr.heap.size, 2, none⟩ (.int .i64 B1.length)).ownsRow w2.heap.size 31 3 u9 us.length (tokCells us)) := ownsRow_setCell_other HOW3.out (fun e => by have := (howL.out _ e).2; simp at this) _
                have HO5 : Hid ((w3.setCell ⟨wr.heap.size, 2, none⟩ (.int .i64 B1.length)).ownsRow w2.heap.size 5 1 (.slice pb B1.length cb) B1.length (Lib.byteCells B1)) := ownsRow_setCell_other HO3.out (fun e => row_not HO3.out HT3.out (by decide) e.symm) _
                have HB5 : Hid (Below w2.heap.size w2 (w3.setCell ⟨wr.heap.size, 2, none⟩ (.int .i64 B1.length))) := HB3.out.setCell (show w2.heap.size ≤ wr.heap.size from hzr) _
                go_wp2_with (at_builtin; refine wpList_append_own _ rfl _ _ 24 rfl w2.heap.size 31 i0 (.agg #[.int .i64 0, .string ⟨#[]⟩, .int .i64 0]) 3 32 Tryd.underlying24 hi hz0 hz1 hz2 rfl (by decide) _ _ _ rfl (HOW5.out.alloc _) ⟨w3.heap.size, 0, none⟩ 1 1 [.int .i64 kd, .string T, .int .i64 B1.length] rfl rfl (by simpa using three_new (w3.setCell ⟨wr.heap.size, 2, none⟩ (.int .i64 B1.length)) 31 (.int .i64 kd) (.string T) (.int .i64 B1.length)) (fun x hx => by simp at hx; rcases hx with rfl | rfl | rfl <;> rfl) (by unfold maxLen; omega) (by omega) (by simp; omega) ?_; intro v6 w6 hown6 hgr6 _)
                obtain ⟨e1, e2, e3⟩ := HE.out
                have hb6 : Below w2.heap.size w2 w6 := Below.grown (HB5.out.alloc (by simp; omega) _) hgr6 (by simp; omega) (fun j hj => (howL.out _ hj).1)
                have ho6 : w6.ownsRow w2.heap.size 5 1 (.slice pb B1.length cb) B1.length (Lib.byteCells B1) := (HO5.out.alloc _).kept hgr6 (rows_apart HO5.out HOW5.out (by decide))
                have how6 : w6.ownsRow w2.heap.size 31 3 v6 (us ++ [(kd, tx, B1.length)]).length (tokCells (us ++ [(kd, tx, B1.length)])) := by
                  rw [tokCells_append, tokCells_one, List.length_append, tokCell, ← HT.out]
                  exact hown6
                exact ⟨⟨k + 1, p, B1, us ++ [(kd, tx, B1.length)], rfl, by go_num, by omega, hps, ho6, how6, by simp; omega, by omega, hb6, HST', e1, e2⟩, by simp [intOf]; omega⟩
              · obtain ⟨B4, hB4⟩ : ∃ B4, B4 = B1 ++ [32] := ⟨_, rfl⟩
                have HE := HSW.out 1 B4 HPK.out (by rw [HLN.out]; exact hB4)
                have HE : Hid _ := HE
                have hB4l : B4.length = B1.length + 1 := by rw [hB4, List.length_append]; rfl
                have HB4 : Hid (B4 = B1 ++ [32]) := hB4
                have HB4l : Hid (B4.length = B1.length + 1) := hB4l
                have hB4b : B4.length ≤ B1.length + 6 := by omega
                clear hB4 hB4l
                go_wp2_with (first | (at_builtin; refine wpList_append_own _ rfl _ _ 24 rfl w2.heap.size 31 i0 (.agg #[.int .i64 0, .string ⟨#[]⟩, .int .i64 0]) 3 32 Tryd.underlying24 hi hz0 hz1 hz2 rfl (by decide) _ _ _ rfl (HOW5.out.alloc _) ⟨w4.heap.size, 0, none⟩ 1 1 [.int .i64 kd, .string T, .int .i64 B4.length] rfl rfl (by simpa using three_new (w4.setCell ⟨wr.heap.size, 2, none⟩ (.int .i64 B4.length)) 31 (.int .i64 kd) (.string T) (.int .i64 B4.length)) (fun x hx => by simp at hx; rcases hx with rfl | rfl | rfl <;> rfl) (by unfold maxLen; omega) (by omega) (by simp; omega) ?_; intro v6 w6 hown6 hgr6 _) | (at_builtin; refine wpList_append_own _ rfl _ _ 29 rfl w2.heap.size 5 i5 (.int .u8 0) 1 1 Tryd.underlying29 hi5 hz50 hz51 hz52 rfl (by decide) _ _ _ rfl (HO3.out.alloc _) ⟨w3.heap.size, 0, none⟩ 1 1 [.int .u8 32] rfl rfl (own_bytes1 _ 32) (fun x hx => by simp at hx; subst hx; rfl) (by unfold maxLen; omega) (by omega) (by simp; omega) ?_; intro v4 w4 hown4 hgr4 _; have ho4 : w4.ownsRow w2.heap.size 5 1 v4 B4.length (Lib.byteCells B4) := (by rw [HB4l.out, HB4.out, byteCells_append]; exact hown4); have HOW4 : Hid (w4.ownsRow w2.heap.size 31 3 u9 us.length (tokCells us)) := (HOW3.out.alloc _).kept hgr4 (rows_apart HOW3.out HO3.out (by decide)); have hT4 : w4.heap[wr.heap.size]? = some (.cells #[.int .i64 kd, .string T, .int .i64 p] 31) := (hgr4.block _ (by simp; omega) (row_not HO3.out HT3.out (by decide))).trans ((Below.heap_alloc _ _ _ hz3).trans HT3.out); have HT4 : Hid (w4.heap[wr.heap.size]? = some (.cells #[.int .i64 kd, .string T, .int .i64 p] 31)) := hT4; have x0 : w4.cell? ⟨wr.heap.size, 0, none⟩ = some (.int .i64 kd) := (by simp [World.cell?, hT4]); have x1 : w4.cell? ⟨wr.heap.size, 1, none⟩ = some (.string T) := (by simp [World.cell?, hT4]); have x2 : w4.cell? ⟨wr.heap.size, 2, none⟩ = some (.int .i64 p) := (by simp [World.cell?, hT4]); have xf : ∀ o, w4.frozen? ⟨wr.heap.size, o, none⟩ = false := (fun o => by simp [World.frozen?, hT4]); have HB4' : Hid (Below w2.heap.size w2 w4) := Below.grown (HB3.out.alloc (by omega) _) hgr4 (by simp; omega) (fun j hj => (HO3.out.lt _ hj).1); have hz4 : w3.heap.size ≤ w4.heap.size := (by have := hgr4.size; simp at this; omega); obtain ⟨pb4, cb4, rfl⟩ := ownsRow_form ho4; have HO4 : Hid (w4.ownsRow w2.heap.size 5 1 (.slice pb4 B4.length cb4) B4.length (Lib.byteCells B4)) := ho4; clear hown4 hgr4 ho4 hT4; have HOW5 : Hid ((w4.setCell ⟨wr.heap.size, 2, none⟩ (.int .i64 B4.length)).ownsRow w2.heap.size 31 3 u9 us.length (tokCells us)) := ownsRow_setCell_other HOW4.out (fun e => by have := (howL.out _ e).2; simp at this) _; have HO5 : Hid ((w4.setCell ⟨wr.heap.size, 2, none⟩ (.int .i64 B4.length)).ownsRow w2.heap.size 5 1 (.slice pb4 B4.length cb4) B4.length (Lib.byteCells B4)) := ownsRow_setCell_other HO4.out (fun e => row_not HO4.out HT4.out (by decide) e.symm) _; have HB5 : Hid (Below w2.heap.size w2 (w4.setCell ⟨wr.heap.size, 2, none⟩ (.int .i64 B4.length))) := HB4'.out.setCell (show w2.heap.size ≤ wr.heap.size from hzr) _))
                obtain ⟨e1, e2, e3⟩ := HE.out
                have hb6 : Below w2.heap.size w2 w6 := Below.grown (HB5.out.alloc (by simp; omega) _) hgr6 (by simp; omega) (fun j hj => (howL.out _ hj).1)
                have ho6 : w6.ownsRow w2.heap.size 5 1 (.slice pb4 B4.length cb4) B4.length (Lib.byteCells B4) := (HO5.out.alloc _).kept hgr6 (rows_apart HO5.out HOW5.out (by decide))
                have how6 : w6.ownsRow w2.heap.size 31 3 v6 (us ++ [(kd, tx, B4.length)]).length (tokCells (us ++ [(kd, tx, B4.length)])) := by
                  rw [tokCells_append, tokCells_one, List.length_append, tokCell, ← HT.out]
                  exact hown6
                exact ⟨⟨k + 1, p, B4, us ++ [(kd, tx, B4.length)], rfl, by go_num, by omega, hps, ho6, how6, by simp; omega, by omega, hb6, HST', e1, e2⟩, by simp [intOf]; omega⟩
              · obtain ⟨B4, hB4⟩ : ∃ B4, B4 = B1 ++ [9, 32] := ⟨_, rfl⟩
                have HE := HSW.out 2 B4 HPK.out (by rw [HLN.out]; exact hB4)
                have HE : Hid _ := HE
                have hB4l : B4.length = B1.length + 2 := by rw [hB4, List.length_append]; rfl
                have HB4 : Hid (B4 = B1 ++ [9, 32]) := hB4
                have HB4l : Hid (B4.length = B1.length + 2) := hB4l
                have hB4b : B4.length ≤ B1.length + 6 := by omega
                clear hB4 hB4l
                go_wp2_with (first | (at_builtin; refine wpList_append_own _ rfl _ _ 24 rfl w2.heap.size 31 i0 (.agg #[.int .i64 0, .string ⟨#[]⟩, .int .i64 0]) 3 32 Tryd.underlying24 hi hz0 hz1 hz2 rfl (by decide) _ _ _ rfl (HOW5.out.alloc _) ⟨w4.heap.size, 0, none⟩ 1 1 [.int .i64 kd, .string T, .int .i64 B4.length] rfl rfl (by simpa using three_new (w4.setCell ⟨wr.heap.size, 2, none⟩ (.int .i64 B4.length)) 31 (.int .i64 kd) (.string T) (.int .i64 B4.length)) (fun x hx => by simp at hx; rcases hx with rfl | rfl | rfl <;> rfl) (by unfold maxLen; omega) (by omega) (by simp; omega) ?_; intro v6 w6 hown6 hgr6 _) | (at_builtin; refine wpList_append_own _ rfl _ _ 29 rfl w2.heap.size 5 i5 (.int .u8 0) 1 1 Tryd.underlying29 hi5 hz50 hz51 hz52 rfl (by decide) _ _ _ rfl (HO3.out.alloc _) ⟨w3.heap.size, 0, none⟩ 2 2 [.int .u8 9, .int .u8 32] rfl rfl (two_new _ _ _ _) (fun x hx => by simp at hx; rcases hx with rfl | rfl <;> rfl) (by unfold maxLen; omega) (by omega) (by simp; omega) ?_; intro v4 w4 hown4 hgr4 _; have ho4 : w4.ownsRow w2.heap.size 5 1 v4 B4.length (Lib.byteCells B4) := (by rw [HB4l.out, HB4.out, byteCells_append]; exact hown4); have HOW4 : Hid (w4.ownsRow w2.heap.size 31 3 u9 us.length (tokCells us)) := (HOW3.out.alloc _).kept hgr4 (rows_apart HOW3.out HO3.out (by decide)); have hT4 : w4.heap[wr.heap.size]? = some (.cells #[.int .i64 kd, .string T, .int .i64 p] 31) := (hgr4.block _ (by simp; omega) (row_not HO3.out HT3.out (by decide))).trans ((Below.heap_alloc _ _ _ hz3).trans HT3.out); have HT4 : Hid (w4.heap[wr.heap.size]? = some (.cells #[.int .i64 kd, .string T, .int .i64 p] 31)) := hT4; have x0 : w4.cell? ⟨wr.heap.size, 0, none⟩ = some (.int .i64 kd) := (by simp [World.cell?, hT4]); have x1 : w4.cell? ⟨wr.heap.size, 1, none⟩ = some (.string T) := (by simp [World.cell?, hT4]); have x2 : w4.cell? ⟨wr.heap.size, 2, none⟩ = some (.int .i64 p) := (by simp [World.cell?, hT4]); have xf : ∀ o, w4.frozen? ⟨wr.heap.size, o, none⟩ = false := (fun o => by simp [World.frozen?, hT4]); have HB4' : Hid (Below w2.heap.size w2 w4) := Below.grown (HB3.out.alloc (by omega) _) hgr4 (by simp; omega) (fun j hj => (HO3.out.lt _ hj).1); have hz4 : w3.heap.size ≤ w4.heap.size := (by have := hgr4.size; simp at this; omega); obtain ⟨pb4, cb4, rfl⟩ := ownsRow_form ho4; have HO4 : Hid (w4.ownsRow w2.heap.size 5 1 (.slice pb4 B4.length cb4) B4.length (Lib.byteCells B4)) := ho4; clear hown4 hgr4 ho4 hT4; have HOW5 : Hid ((w4.setCell ⟨wr.heap.size, 2, none⟩ (.int .i64 B4.length)).ownsRow w2.heap.size 31 3 u9 us.length (tokCells us)) := ownsRow_setCell_other HOW4.out (fun e => by have := (howL.out _ e).2; simp at this) _; have HO5 : Hid ((w4.setCell ⟨wr.heap.size, 2, none⟩ (.int .i64 B4.length)).ownsRow w2.heap.size 5 1 (.slice pb4 B4.length cb4) B4.length (Lib.byteCells B4)) := ownsRow_setCell_other HO4.out (fun e => row_not HO4.out HT4.out (by decide) e.symm) _; have HB5 : Hid (Below w2.heap.size w2 (w4.setCell ⟨wr.heap.size, 2, none⟩ (.int .i64 B4.length))) := HB4'.out.setCell (show w2.heap.size ≤ wr.heap.size from hzr) _))
                obtain ⟨e1, e2, e3⟩ := HE.out
                have hb6 : Below w2.heap.size w2 w6 := Below.grown (HB5.out.alloc (by simp; omega) _) hgr6 (by simp; omega) (fun j hj => (howL.out _ hj).1)
                have ho6 : w6.ownsRow w2.heap.size 5 1 (.slice pb4 B4.length cb4) B4.length (Lib.byteCells B4) := (HO5.out.alloc _).kept hgr6 (rows_apart HO5.out HOW5.out (by decide))
                have how6 : w6.ownsRow w2.heap.size 31 3 v6 (us ++ [(kd, tx, B4.length)]).length (tokCells (us ++ [(kd, tx, B4.length)])) := by
                  rw [tokCells_append, tokCells_one, List.length_append, tokCell, ← HT.out]
                  exact hown6
                exact ⟨⟨k + 1, p, B4, us ++ [(kd, tx, B4.length)], rfl, by go_num, by omega, hps, ho6, how6, by simp; omega, by omega, hb6, HST', e1, e2⟩, by simp [intOf]; omega⟩
              · obtain ⟨B4, hB4⟩ : ∃ B4, B4 = B1 ++ ins3 := ⟨_, rfl⟩
                have HE := HSW.out 3 B4 HPK.out (by rw [HLN.out]; exact hB4)
                have HE : Hid _ := HE
                have hB4l : B4.length = B1.length + 6 := by rw [hB4, List.length_append]; rfl
                have HB4 : Hid (B4 = B1 ++ ins3) := hB4
                have HB4l : Hid (B4.length = B1.length + 6) := hB4l
                have hB4b : B4.length ≤ B1.length + 6 := by omega
                clear hB4 hB4l
                go_wp2_with (first | (at_builtin; refine wpList_append_own _ rfl _ _ 24 rfl w2.heap.size 31 i0 (.agg #[.int .i64 0, .string ⟨#[]⟩, .int .i64 0]) 3 32 Tryd.underlying24 hi hz0 hz1 hz2 rfl (by decide) _ _ _ rfl (HOW5.out.alloc _) ⟨w4.heap.size, 0, none⟩ 1 1 [.int .i64 kd, .string T, .int .i64 B4.length] rfl rfl (by simpa using three_new (w4.setCell ⟨wr.heap.size, 2, none⟩ (.int .i64 B4.length)) 31 (.int .i64 kd) (.string T) (.int .i64 B4.length)) (fun x hx => by simp at hx; rcases hx with rfl | rfl | rfl <;> rfl) (by unfold maxLen; omega) (by omega) (by simp; omega) ?_; intro v6 w6 hown6 hgr6 _) | (at_builtin; refine Lib.wpList_append_own_string _ rfl _ _ 29 9 rfl w2.heap.size 5 i5 Tryd.underlying29 Tryd.underlying9 hi5 hz50 hz51 hz52 _ _ _ rfl HO3.out ⟨#[32, 47, 47, 32, 34, 120]⟩ rfl (by show B1.length + 6 ≤ maxLen; unfold maxLen; omega) (by show B1.length + 6 ≤ _; omega) (by omega) ?_; intro v4 w4 hown4 hgr4 _; have ho4 : w4.ownsRow w2.heap.size 5 1 v4 B4.length (Lib.byteCells B4) := (by rw [HB4l.out, HB4.out, byteCells_append]; exact (by rw [strCells_lit] at hown4; exact hown4)); have HOW4 : Hid (w4.ownsRow w2.heap.size 31 3 u9 us.length (tokCells us)) := (HOW3.out).kept hgr4 (rows_apart HOW3.out HO3.out (by decide)); have hT4 : w4.heap[wr.heap.size]? = some (.cells #[.int .i64 kd, .string T, .int .i64 p] 31) := (hgr4.block _ (by omega) (row_not HO3.out HT3.out (by decide))).trans HT3.out; have HT4 : Hid (w4.heap[wr.heap.size]? = some (.cells #[.int .i64 kd, .string T, .int .i64 p] 31)) := hT4; have x0 : w4.cell? ⟨wr.heap.size, 0, none⟩ = some (.int .i64 kd) := (by simp [World.cell?, hT4]); have x1 : w4.cell? ⟨wr.heap.size, 1, none⟩ = some (.string T) := (by simp [World.cell?, hT4]); have x2 : w4.cell? ⟨wr.heap.size, 2, none⟩ = some (.int .i64 p) := (by simp [World.cell?, hT4]); have xf : ∀ o, w4.frozen? ⟨wr.heap.size, o, none⟩ = false := (fun o => by simp [World.frozen?, hT4]); have HB4' : Hid (Below w2.heap.size w2 w4) := Below.grown HB3.out hgr4 (by omega) (fun j hj => (HO3.out.lt _ hj).1); have hz4 : w3.heap.size ≤ w4.heap.size := (by have := hgr4.size; omega); obtain ⟨pb4, cb4, rfl⟩ := ownsRow_form ho4; have HO4 : Hid (w4.ownsRow w2.heap.size 5 1 (.slice pb4 B4.length cb4) B4.length (Lib.byteCells B4)) := ho4; clear hown4 hgr4 ho4 hT4; have HOW5 : Hid ((w4.setCell ⟨wr.heap.size, 2, none⟩ (.int .i64 B4.length)).ownsRow w2.heap.size 31 3 u9 us.length (tokCells us)) := ownsRow_setCell_other HOW4.out (fun e => by have := (howL.out _ e).2; simp at this) _; have HO5 : Hid ((w4.setCell ⟨wr.heap.size, 2, none⟩ (.int .i64 B4.length)).ownsRow w2.heap.size 5 1 (.slice pb4 B4.length cb4) B4.length (Lib.byteCells B4)) := ownsRow_setCell_other HO4.out (fun e => row_not HO4.out HT4.out (by decide) e.symm) _; have HB5 : Hid (Below w2.heap.size w2 (w4.setCell ⟨wr.heap.size, 2, none⟩ (.int .i64 B4.length))) := HB4'.out.setCell (show w2.heap.size ≤ wr.heap.size from hzr) _))
                obtain ⟨e1, e2, e3⟩ := HE.out
                have hb6 : Below w2.heap.size w2 w6 := Below.grown (HB5.out.alloc (by simp; omega) _) hgr6 (by simp; omega) (fun j hj => (howL.out _ hj).1)
                have ho6 : w6.ownsRow w2.heap.size 5 1 (.slice pb4 B4.length cb4) B4.length (Lib.byteCells B4) := (HO5.out.alloc _).kept hgr6 (rows_apart HO5.out HOW5.out (by decide))
                have how6 : w6.ownsRow w2.heap.size 31 3 v6 (us ++ [(kd, tx, B4.length)]).length (tokCells (us ++ [(kd, tx, B4.length)])) := by
                  rw [tokCells_append, tokCells_one, List.length_append, tokCell, ← HT.out]
                  exact hown6
                exact ⟨⟨k + 1, p, B4, us ++ [(kd, tx, B4.length)], rfl, by go_num, by omega, hps, ho6, how6, by simp; omega, by omega, hb6, HST', e1, e2⟩, by simp [intOf]; omega⟩
              · obtain ⟨B4, hB4⟩ : ∃ B4, B4 = B1 ++ ins4 := ⟨_, rfl⟩
                have HE := HSW.out 4 B4 HPK.out (by rw [HLN.out]; exact hB4)
                have HE : Hid _ := HE
                have hB4l : B4.length = B1.length + 3 := by rw [hB4, List.length_append]; rfl
                have HB4 : Hid (B4 = B1 ++ ins4) := hB4
                have HB4l : Hid (B4.length = B1.length + 3) := hB4l
                have hB4b : B4.length ≤ B1.length + 6 := by omega
                clear hB4 hB4l
                go_wp2_with (first | (at_builtin; refine wpList_append_own _ rfl _ _ 24 rfl w2.heap.size 31 i0 (.agg #[.int .i64 0, .string ⟨#[]⟩, .int .i64 0]) 3 32 Tryd.underlying24 hi hz0 hz1 hz2 rfl (by decide) _ _ _ rfl (HOW5.out.alloc _) ⟨w4.heap.size, 0, none⟩ 1 1 [.int .i64 kd, .string T, .int .i64 B4.length] rfl rfl (by simpa using three_new (w4.setCell ⟨wr.heap.size, 2, none⟩ (.int .i64 B4.length)) 31 (.int .i64 kd) (.string T) (.int .i64 B4.length)) (fun x hx => by simp at hx; rcases hx with rfl | rfl | rfl <;> rfl) (by unfold maxLen; omega) (by omega) (by simp; omega) ?_; intro v6 w6 hown6 hgr6 _) | (at_builtin; refine Lib.wpList_append_own_string _ rfl _ _ 29 9 rfl w2.heap.size 5 i5 Tryd.underlying29 Tryd.underlying9 hi5 hz50 hz51 hz52 _ _ _ rfl HO3.out ⟨#[47, 47, 47]⟩ rfl (by show B1.length + 3 ≤ maxLen; unfold maxLen; omega) (by show B1.length + 3 ≤ _; omega) (by omega) ?_; intro v4 w4 hown4 hgr4 _; have ho4 : w4.ownsRow w2.heap.size 5 1 v4 B4.length (Lib.byteCells B4) := (by rw [HB4l.out, HB4.out, byteCells_append]; exact (by rw [strCells_lit] at hown4; exact hown4)); have HOW4 : Hid (w4.ownsRow w2.heap.size 31 3 u9 us.length (tokCells us)) := (HOW3.out).kept hgr4 (rows_apart HOW3.out HO3.out (by decide)); have hT4 : w4.heap[wr.heap.size]? = some (.cells #[.int .i64 kd, .string T, .int .i64 p] 31) := (hgr4.block _ (by omega) (row_not HO3.out HT3.out (by decide))).trans HT3.out; have HT4 : Hid (w4.heap[wr.heap.size]? = some (.cells #[.int .i64 kd, .string T, .int .i64 p] 31)) := hT4; have x0 : w4.cell? ⟨wr.heap.size, 0, none⟩ = some (.int .i64 kd) := (by simp [World.cell?, hT4]); have x1 : w4.cell? ⟨wr.heap.size, 1, none⟩ = some (.string T) := (by simp [World.cell?, hT4]); have x2 : w4.cell? ⟨wr.heap.size, 2, none⟩ = some (.int .i64 p) := (by simp [World.cell?, hT4]); have xf : ∀ o, w4.frozen? ⟨wr.heap.size, o, none⟩ = false := (fun o => by simp [World.frozen?, hT4]); have HB4' : Hid (Below w2.heap.size w2 w4) := Below.grown HB3.out hgr4 (by omega) (fun j hj => (HO3.out.lt _ hj).1); have hz4 : w3.heap.size ≤ w4.heap.size := (by have := hgr4.size; omega); obtain ⟨pb4, cb4, rfl⟩ := ownsRow_form ho4; have HO4 : Hid (w4.ownsRow w2.heap.size 5 1 (.slice pb4 B4.length cb4) B4.length (Lib.byteCells B4)) := ho4; clear hown4 hgr4 ho4 hT4; have HOW5 : Hid ((w4.setCell ⟨wr.heap.size, 2, none⟩ (.int .i64 B4.length)).ownsRow w2.heap.size 31 3 u9 us.length (tokCells us)) := ownsRow_setCell_other HOW4.out (fun e => by have := (howL.out _ e).2; simp at this) _; have HO5 : Hid ((w4.setCell ⟨wr.heap.size, 2, none⟩ (.int .i64 B4.length)).ownsRow w2.heap.size 5 1 (.slice pb4 B4.length cb4) B4.length (Lib.byteCells B4)) := ownsRow_setCell_other HO4.out (fun e => row_not HO4.out HT4.out (by decide) e.symm) _; have HB5 : Hid (Below w2.heap.size w2 (w4.setCell ⟨wr.heap.size, 2, none⟩ (.int .i64 B4.length))) := HB4'.out.setCell (show w2.heap.size ≤ wr.heap.size from hzr) _))
                obtain ⟨e1, e2, e3⟩ := HE.out
                have hb6 : Below w2.heap.size w2 w6 := Below.grown (HB5.out.alloc (by simp; omega) _) hgr6 (by simp; omega) (fun j hj => (howL.out _ hj).1)
                have ho6 : w6.ownsRow w2.heap.size 5 1 (.slice pb4 B4.length cb4) B4.length (Lib.byteCells B4) := (HO5.out.alloc _).kept hgr6 (rows_apart HO5.out HOW5.out (by decide))
                have how6 : w6.ownsRow w2.heap.size 31 3 v6 (us ++ [(kd, tx, B4.length)]).length (tokCells (us ++ [(kd, tx, B4.length)])) := by
                  rw [tokCells_append, tokCells_one, List.length_append, tokCell, ← HT.out]
                  exact hown6
                exact ⟨⟨k + 1, p, B4, us ++ [(kd, tx, B4.length)], rfl, by go_num, by omega, hps, ho6, how6, by simp; omega, by omega, hb6, HST', e1, e2⟩, by simp [intOf]; omega⟩
              · have HE := HSW.out 5 B1 HPK.out (by rw [HLN.out]; exact (List.append_nil B1).symm)
                have HE : Hid _ := HE
                have HOW5 : Hid ((w3.setCell ⟨wr.heap.size, 2, none⟩ (.int .i64 B1.length)).ownsRow w2.heap.size 31 3 u9 us.length (tokCells us)) := ownsRow_setCell_other HOW3.out (fun e => by have := (howL.out _ e).2; simp at this) _
                have HO5 : Hid ((w3.setCell ⟨wr.heap.size, 2, none⟩ (.int .i64 B1.length)).ownsRow w2.heap.size 5 1 (.slice pb B1.length cb) B1.length (Lib.byteCells B1)) := ownsRow_setCell_other HO3.out (fun e => row_not HO3.out HT3.out (by decide) e.symm) _
                have HB5 : Hid (Below w2.heap.size w2 (w3.setCell ⟨wr.heap.size, 2, none⟩ (.int .i64 B1.length))) := HB3.out.setCell (show w2.heap.size ≤ wr.heap.size from hzr) _
                go_wp2_with (at_builtin; refine wpList_append_own _ rfl _ _ 24 rfl w2.heap.size 31 i0 (.agg #[.int .i64 0, .string ⟨#[]⟩, .int .i64 0]) 3 32 Tryd.underlying24 hi hz0 hz1 hz2 rfl (by decide) _ _ _ rfl (HOW5.out.alloc _) ⟨w3.heap.size, 0, none⟩ 1 1 [.int .i64 kd, .string T, .int .i64 B1.length] rfl rfl (by simpa using three_new (w3.setCell ⟨wr.heap.size, 2, none⟩ (.int .i64 B1.length)) 31 (.int .i64 kd) (.string T) (.int .i64 B1.length)) (fun x hx => by simp at hx; rcases hx with rfl | rfl | rfl <;> rfl) (by unfold maxLen; omega) (by omega) (by simp; omega) ?_; intro v6 w6 hown6 hgr6 _)
                obtain ⟨e1, e2, e3⟩ := HE.out
                have hb6 : Below w2.heap.size w2 w6 := Below.grown (HB5.out.alloc (by simp; omega) _) hgr6 (by simp; omega) (fun j hj => (howL.out _ hj).1)
                have ho6 : w6.ownsRow w2.heap.size 5 1 (.slice pb B1.length cb) B1.length (Lib.byteCells B1) := (HO5.out.alloc _).kept hgr6 (rows_apart HO5.out HOW5.out (by decide))
                have how6 : w6.ownsRow w2.heap.size 31 3 v6 (us ++ [(kd, tx, B1.length)]).length (tokCells (us ++ [(kd, tx, B1.length)])) := by
                  rw [tokCells_append, tokCells_one, List.length_append, tokCell, ← HT.out]
                  exact hown6
                exact ⟨⟨k + 1, p, B1, us ++ [(kd, tx, B1.length)], rfl, by go_num, by omega, hps, ho6, how6, by simp; omega, by omega, hb6, HST', e1, e2⟩, by simp [intOf]; omega⟩
            · have qb : (((s[p]'hpl).toNat : Int) == 10) = false := beq_of_ne cb
              have HLN : Hid (lineB s.data.toList (kd, tx, p) = false) := by show _ = _; unfold lineB; rw [getD_byte s p hpl, HLs.out]; simp [cp, cb]
              clear c1 cp cb
              go_wp2_with (at_builtin; refine Lib.wpList_append_own_string _ rfl _ _ 29 9 rfl w2.heap.size 5 i5 Tryd.underlying29 Tryd.underlying9 hi5 hz50 hz51 hz52 _ _ _ rfl (HOB.out.alloc _) (s.extract frm p) rfl (by simp; unfold maxLen; omega) (by simp; omega) (by simp; omega) ?_; intro v1 w3 hown3 hgr3 _; obtain ⟨hc3, hf3⟩ := grown_cells hgr3 (T := wr.heap.size) (by simp) (fun e => by have := (HOBL.out _ e.symm).2; omega); have HB3 : Hid (Below w2.heap.size w2 w3) := (Below.grown (hbr.alloc (by omega) _) hgr3 (by simp; omega) (fun j hj => (HOBL.out _ hj).1)); have hrc3 : w3.cell? (A.add (k % n)) = some (.int .i64 (R (k % n))) := (Below.cell (HB2.out.trans (HB3.out.mono (by omega))) hAb).trans HRC.out)
              have HO3 : Hid (w3.ownsRow w2.heap.size 5 1 v1 B1.length (Lib.byteCells B1)) := (by show World.ownsRow _ _ _ _ _ _ _; rw [HB1.out, byteCells_append, ← strCells_extract, List.length_append, List.length_take, List.length_drop, HLs.out, Nat.min_eq_left (by omega)]; simpa [Nat.min_eq_left hps] using hown3)
              have HT3 : Hid (w3.heap[wr.heap.size]? = some (.cells #[.int .i64 kd, .string T, .int .i64 p] 31)) := (hgr3.block _ (by simp) (fun e => by have := (HOBL.out _ e.symm).2; omega)).trans (heap_alloc_new wr _)
              have HOW3 : Hid (w3.ownsRow w2.heap.size 31 3 u9 us.length (tokCells us)) := (HOW.out.alloc _).kept hgr3 (rows_apart HOW.out HOB.out (by decide))
              have hz3 : wr.heap.size < w3.heap.size := (Array.getElem?_eq_some_iff.1 HT3.out).1
              obtain ⟨pb, cb, rfl⟩ := ownsRow_form HO3.out
              clear hown3 hgr3
              refine (pick_any _ _ HRB.out.1 HRB.out.2).mono ?_
              rintro _ w3q ⟨r, hr6, rfl, HPK, hw3q⟩
              have hw3r := hw3q.symm
              subst hw3r
              clear hw3q
              have y0 : w3.cell? ⟨wr.heap.size, 0, none⟩ = some (.int .i64 kd) := by simp [World.cell?, HT3.out]
              have y1 : w3.cell? ⟨wr.heap.size, 1, none⟩ = some (.string T) := by simp [World.cell?, HT3.out]
              have y2 : w3.cell? ⟨wr.heap.size, 2, none⟩ = some (.int .i64 p) := by simp [World.cell?, HT3.out]
              have yf : ∀ o, w3.frozen? ⟨wr.heap.size, o, none⟩ = false := fun o => by simp [World.frozen?, HT3.out]
              clear hc3 hf3 hrc3
              have hr : r = 0 ∨ r = 1 ∨ r = 2 ∨ r = 3 ∨ r = 4 ∨ r = 5 := by omega
              rcases hr with rfl | rfl | rfl | rfl | rfl | rfl
              · have HE := HSW.out 0 B1 HPK.out (by rw [HLN.out]; exact (List.append_nil B1).symm)
                have HE : Hid _ := HE
                have HOW5 : Hid ((w3.setCell ⟨wr.heap.size, 2, none⟩ (.int .i64 B1.length)).ownsRow w2.heap.size 31 3 u9 us.length (tokCells us)) := ownsRow_setCell_other HOW3.out (fun e => by have := (howL.out _ e).2; simp at this) _
                have HO5 : Hid ((w3.setCell ⟨wr.heap.size, 2, none⟩ (.int .i64 B1.length)).ownsRow w2.heap.size 5 1 (.slice pb B1.length cb) B1.length (Lib.byteCells B1)) := ownsRow_setCell_other HO3.out (fun e => row_not HO3.out HT3.out (by decide) e.symm) _
                have HB5 : Hid (Below w2.heap.size w2 (w3.setCell ⟨wr.heap.size, 2, none⟩ (.int .i64 B1.length))) := HB3.out.setCell (show w2.heap.size ≤ wr.heap.size from hzr) _
                go_wp2_with (at_builtin; refine wpList_append_own _ rfl _ _ 24 rfl w2.heap.size 31 i0 (.agg #[.int .i64 0, .string ⟨#[]⟩, .int .i64 0]) 3 32 Tryd.underlying24 hi hz0 hz1 hz2 rfl (by decide) _ _ _ rfl (HOW5.out.alloc _) ⟨w3.heap.size, 0, none⟩ 1 1 [.int .i64 kd, .string T, .int .i64 B1.length] rfl rfl (by simpa using three_new (w3.setCell ⟨wr.heap.size, 2, none⟩ (.int .i64 B1.length)) 31 (.int .i64 kd) (.string T) (.int .i64 B1.length)) (fun x hx => by simp at hx; rcases hx with rfl | rfl | rfl <;> rfl) (by unfold maxLen; omega) (by omega) (by simp; omega) ?_; intro v6 w6 hown6 hgr6 _)
                obtain ⟨e1, e2, e3⟩ := HE.out
                have hb6 : Below w2.heap.size w2 w6 := Below.grown (HB5.out.alloc (by simp; omega) _) hgr6 (by simp; omega) (fun j hj => (howL.out _ hj).1)
                have ho6 : w6.ownsRow w2.heap.size 5 1 (.slice pb B1.length cb) B1.length (Lib.byteCells B1) := (HO5.out.alloc _).kept hgr6 (rows_apart HO5.out HOW5.out (by decide))
                have how6 : w6.ownsRow w2.heap.size 31 3 v6 (us ++ [(kd, tx, B1.length)]).length (tokCells (us ++ [(kd, tx, B1.length)])) := by
                  rw [tokCells_append, tokCells_one, List.length_append, tokCell, ← HT.out]
                  exact hown6
                exact ⟨⟨k + 1, p, B1, us ++ [(kd, tx, B1.length)], rfl, by go_num, by omega, hps, ho6, how6, by simp; omega, by omega, hb6, HST', e1, e2⟩, by simp [intOf]; omega⟩
              · obtain ⟨B4, hB4⟩ : ∃ B4, B4 = B1 ++ [32] := ⟨_, rfl⟩
                have HE := HSW.out 1 B4 HPK.out (by rw [HLN.out]; exact hB4)
                have HE : Hid _ := HE
                have hB4l : B4.length = B1.length + 1 := by rw [hB4, List.length_append]; rfl
                have HB4 : Hid (B4 = B1 ++ [32]) := hB4
                have HB4l : Hid (B4.length = B1.length + 1) := hB4l
                have hB4b : B4.length ≤ B1.length + 6 := by omega
                clear hB4 hB4l
                go_wp2_with (first | (at_builtin; refine wpList_append_own _ rfl _ _ 24 rfl w2.heap.size 31 i0 (.agg #[.int .i64 0, .string ⟨#[]⟩, .int .i64 0]) 3 32 Tryd.underlying24 hi hz0 hz1 hz2 rfl (by decide) _ _ _ rfl (HOW5.out.alloc _) ⟨w4.heap.size, 0, none⟩ 1 1 [.int .i64 kd, .string T, .int .i64 B4.length] rfl rfl (by simpa using three_new (w4.setCell ⟨wr.heap.size, 2, none⟩ (.int .i64 B4.length)) 31 (.int .i64 kd) (.string T) (.int .i64 B4.length)) (fun x hx => by simp at hx; rcases hx with rfl | rfl | rfl <;> rfl) (by unfold maxLen; omega) (by omega) (by simp; omega) ?_; intro v6 w6 hown6 hgr6 _) | (at_builtin; refine wpList_append_own _ rfl _ _ 29 rfl w2.heap.size 5 i5 (.int .u8 0) 1 1 Tryd.underlying29 hi5 hz50 hz51 hz52 rfl (by decide) _ _ _ rfl (HO3.out.alloc _) ⟨w3.heap.size, 0, none⟩ 1 1 [.int .u8 32] rfl rfl (own_bytes1 _ 32) (fun x hx => by simp at hx; subst hx; rfl) (by unfold maxLen; omega) (by omega) (by simp; omega) ?_; intro v4 w4 hown4 hgr4 _; have ho4 : w4.ownsRow w2.heap.size 5 1 v4 B4.length (Lib.byteCells B4) := (by rw [HB4l.out, HB4.out, byteCells_append]; exact hown4); have HOW4 : Hid (w4.ownsRow w2.heap.size 31 3 u9 us.length (tokCells us)) := (HOW3.out.alloc _).kept hgr4 (rows_apart HOW3.out HO3.out (by decide)); have hT4 : w4.heap[wr.heap.size]? = some (.cells #[.int .i64 kd, .string T, .int .i64 p] 31) := (hgr4.block _ (by simp; omega) (row_not HO3.out HT3.out (by decide))).trans ((Below.heap_alloc _ _ _ hz3).trans HT3.out); have HT4 : Hid (w4.heap[wr.heap.size]? = some (.cells #[.int .i64 kd, .string T, .int .i64 p] 31)) := hT4; have x0 : w4.cell? ⟨wr.heap.size, 0, none⟩ = some (.int .i64 kd) := (by simp [World.cell?, hT4]); have x1 : w4.cell? ⟨wr.heap.size, 1, none⟩ = some (.string T) := (by simp [World.cell?, hT4]); have x2 : w4.cell? ⟨wr.heap.size, 2, none⟩ = some (.int .i64 p) := (by simp [World.cell?, hT4]); have xf : ∀ o, w4.frozen? ⟨wr.heap.size, o, none⟩ = false := (fun o => by simp [World.frozen?, hT4]); have HB4' : Hid (Below w2.heap.size w2 w4) := Below.grown (HB3.out.alloc (by omega) _) hgr4 (by simp; omega) (fun j hj => (HO3.out.lt _ hj).1); have hz4 : w3.heap.size ≤ w4.heap.size := (by have := hgr4.size; simp at this; omega); obtain ⟨pb4, cb4, rfl⟩ := ownsRow_form ho4; have HO4 : Hid (w4.ownsRow w2.heap.size 5 1 (.slice pb4 B4.length cb4) B4.length (Lib.byteCells B4)) := ho4; clear hown4 hgr4 ho4 hT4; have HOW5 : Hid ((w4.setCell ⟨wr.heap.size, 2, none⟩ (.int .i64 B4.length)).ownsRow w2.heap.size 31 3 u9 us.length (tokCells us)) := ownsRow_setCell_other HOW4.out (fun e => by have := (howL.out _ e).2; simp at this) _; have HO5 : Hid ((w4.setCell ⟨wr.heap.size, 2, none⟩ (.int .i64 B4.length)).ownsRow w2.heap.size 5 1 (.slice pb4 B4.length cb4) B4.length (Lib.byteCells B4)) := ownsRow_setCell_other HO4.out (fun e => row_not HO4.out HT4.out (by decide) e.symm) _; have HB5 : Hid (Below w2.heap.size w2 (w4.setCell ⟨wr.heap.size, 2, none⟩ (.int .i64 B4.length))) := HB4'.out.setCell (show w2.heap.size ≤ wr.heap.size from hzr) _))
                obtain ⟨e1, e2, e3⟩ := HE.out
                have hb6 : Below w2.heap.size w2 w6 := Below.grown (HB5.out.alloc (by simp; omega) _) hgr6 (by simp; omega) (fun j hj => (howL.out _ hj).1)
                have ho6 : w6.ownsRow w2.heap.size 5 1 (.slice pb4 B4.length cb4) B4.length (Lib.byteCells B4) := (HO5.out.alloc _).kept hgr6 (rows_apart HO5.out HOW5.out (by decide))
                have how6 : w6.ownsRow w2.heap.size 31 3 v6 (us ++ [(kd, tx, B4.length)]).length (tokCells (us ++ [(kd, tx, B4.length)])) := by
                  rw [tokCells_append, tokCells_one, List.length_append, tokCell, ← HT.out]
                  exact hown6
                exact ⟨⟨k + 1, p, B4, us ++ [(kd, tx, B4.length)], rfl, by go_num, by omega, hps, ho6, how6, by simp; omega, by omega, hb6, HST', e1, e2⟩, by simp [intOf]; omega⟩
              · obtain ⟨B4, hB4⟩ : ∃ B4, B4 = B1 ++ [9, 32] := ⟨_, rfl⟩
                have HE := HSW.out 2 B4 HPK.out (by rw [HLN.out]; exact hB4)
                have HE : Hid _ := HE
                have hB4l : B4.length = B1.length + 2 := by rw [hB4, List.length_append]; rfl
                have HB4 : Hid (B4 = B1 ++ [9, 32]) := hB4
                have HB4l : Hid (B4.length = B1.length + 2) := hB4l
                have hB4b : B4.length ≤ B1.length + 6 := by omega
                clear hB4 hB4l
                go_wp2_with (first | (at_builtin; refine wpList_append_own _ rfl _ _ 24 rfl w2.heap.size 31 i0 (.agg #[.int .i64 0, .string ⟨#[]⟩, .int .i64 0]) 3 32 Tryd.underlying24 hi hz0 hz1 hz2 rfl (by decide) _ _ _ rfl (HOW5.out.alloc _) ⟨w4.heap.size, 0, none⟩ 1 1 [.int .i64 kd, .string T, .int .i64 B4.length] rfl rfl (by simpa using three_new (w4.setCell ⟨wr.heap.size, 2, none⟩ (.int .i64 B4.length)) 31 (.int .i64 kd) (.string T) (.int .i64 B4.length)) (fun x hx => by simp at hx; rcases hx with rfl | rfl | rfl <;> rfl) (by unfold maxLen; omega) (by omega) (by simp; omega) ?_; intro v6 w6 hown6 hgr6 _) | (at_builtin; refine wpList_append_own _ rfl _ _ 29 rfl w2.heap.size 5 i5 (.int .u8 0) 1 1 Tryd.underlying29 hi5 hz50 hz51 hz52 rfl (by decide) _ _ _ rfl (HO3.out.alloc _) ⟨w3.heap.size, 0, none⟩ 2 2 [.int .u8 9, .int .u8 32] rfl rfl (two_new _ _ _ _) (fun x hx => by simp at hx; rcases hx with rfl | rfl <;> rfl) (by unfold maxLen; omega) (by omega) (by simp; omega) ?_; intro v4 w4 hown4 hgr4 _; have ho4 : w4.ownsRow w2.heap.size 5 1 v4 B4.length (Lib.byteCells B4) := (by rw [HB4l.out, HB4.out, byteCells_append]; exact hown4); have HOW4 : Hid (w4.ownsRow w2.heap.size 31 3 u9 us.length (tokCells us)) := (HOW3.out.alloc _).kept hgr4 (rows_apart HOW3.out HO3.out (by decide)); have hT4 : w4.heap[wr.heap.size]? = some (.cells #[.int .i64 kd, .string T, .int .i64 p] 31) := (hgr4.block _ (by simp; omega) (row_not HO3.out HT3.out (by decide))).trans ((Below.heap_alloc _ _ _ hz3).trans HT3.out); have HT4 : Hid (w4.heap[wr.heap.size]? = some (.cells #[.int .i64 kd, .string T, .int .i64 p] 31)) := hT4; have x0 : w4.cell? ⟨wr.heap.size, 0, none⟩ = some (.int .i64 kd) := (by simp [World.cell?, hT4]); have x1 : w4.cell? ⟨wr.heap.size, 1, none⟩ = some (.string T) := (by simp [World.cell?, hT4]); have x2 : w4.cell? ⟨wr.heap.size, 2, none⟩ = some (.int .i64 p) := (by simp [World.cell?, hT4]); have xf : ∀ o, w4.frozen? ⟨wr.heap.size, o, none⟩ = false := (fun o => by simp [World.frozen?, hT4]); have HB4' : Hid (Below w2.heap.size w2 w4) := Below.grown (HB3.out.alloc (by omega) _) hgr4 (by simp; omega) (fun j hj => (HO3.out.lt _ hj).1); have hz4 : w3.heap.size ≤ w4.heap.size := (by have := hgr4.size; simp at this; omega); obtain ⟨pb4, cb4, rfl⟩ := ownsRow_form ho4; have HO4 : Hid (w4.ownsRow w2.heap.size 5 1 (.slice pb4 B4.length cb4) B4.length (Lib.byteCells B4)) := ho4; clear hown4 hgr4 ho4 hT4; have HOW5 : Hid ((w4.setCell ⟨wr.heap.size, 2, none⟩ (.int .i64 B4.length)).ownsRow w2.heap.size 31 3 u9 us.length (tokCells us)) := ownsRow_setCell_other HOW4.out (fun e => by have := (howL.out _ e).2; simp at this) _; have HO5 : Hid ((w4.setCell ⟨wr.heap.size, 2, none⟩ (.int .i64 B4.length)).ownsRow w2.heap.size 5 1 (.slice pb4 B4.length cb4) B4.length (Lib.byteCells B4)) := ownsRow_setCell_other HO4.out (fun e => row_not HO4.out HT4.out (by decide) e.symm) _; have HB5 : Hid (Below w2.heap.size w2 (w4.setCell ⟨wr.heap.size, 2, none⟩ (.int .i64 B4.length))) := HB4'.out.setCell (show w2.heap.size ≤ wr.heap.size from hzr) _))
                obtain ⟨e1, e2, e3⟩ := HE.out
                have hb6 : Below w2.heap.size w2 w6 := Below.grown (HB5.out.alloc (by simp; omega) _) hgr6 (by simp; omega) (fun j hj => (howL.out _ hj).1)
                have ho6 : w6.ownsRow w2.heap.size 5 1 (.slice pb4 B4.length cb4) B4.length (Lib.byteCells B4) := (HO5.out.alloc _).kept hgr6 (rows_apart HO5.out HOW5.out (by decide))
                have how6 : w6.ownsRow w2.heap.size 31 3 v6 (us ++ [(kd, tx, B4.length)]).length (tokCells (us ++ [(kd, tx, B4.length)])) := by
                  rw [tokCells_append, tokCells_one, List.length_append, tokCell, ← HT.out]
                  exact hown6
                exact ⟨⟨k + 1, p, B4, us ++ [(kd, tx, B4.length)], rfl, by go_num, by omega, hps, ho6, how6, by simp; omega, by omega, hb6, HST', e1, e2⟩, by simp [intOf]; omega⟩
              · have HE := HSW.out 3 B1 HPK.out (by rw [HLN.out]; exact (List.append_nil B1).symm)
                have HE : Hid _ := HE
                have HOW5 : Hid ((w3.setCell ⟨wr.heap.size, 2, none⟩ (.int .i64 B1.length)).ownsRow w2.heap.size 31 3 u9 us.length (tokCells us)) := ownsRow_setCell_other HOW3.out (fun e => by have := (howL.out _ e).2; simp at this) _
                have HO5 : Hid ((w3.setCell ⟨wr.heap.size, 2, none⟩ (.int .i64 B1.length)).ownsRow w2.heap.size 5 1 (.slice pb B1.length cb) B1.length (Lib.byteCells B1)) := ownsRow_setCell_other HO3.out (fun e => row_not HO3.out HT3.out (by decide) e.symm) _
                have HB5 : Hid (Below w2.heap.size w2 (w3.setCell ⟨wr.heap.size, 2, none⟩ (.int .i64 B1.length))) := HB3.out.setCell (show w2.heap.size ≤ wr.heap.size from hzr) _
                go_wp2_with (at_builtin; refine wpList_append_own _ rfl _ _ 24 rfl w2.heap.size 31 i0 (.agg #[.int .i64 0, .string ⟨#[]⟩, .int .i64 0]) 3 32 Tryd.underlying24 hi hz0 hz1 hz2 rfl (by decide) _ _ _ rfl (HOW5.out.alloc _) ⟨w3.heap.size, 0, none⟩ 1 1 [.int .i64 kd, .string T, .int .i64 B1.length] rfl rfl (by simpa using three_new (w3.setCell ⟨wr.heap.size, 2, none⟩ (.int .i64 B1.length)) 31 (.int .i64 kd) (.string T) (.int .i64 B1.length)) (fun x hx => by simp at hx; rcases hx with rfl | rfl | rfl <;> rfl) (by unfold maxLen; omega) (by omega) (by simp; omega) ?_; intro v6 w6 hown6 hgr6 _)
                obtain ⟨e1, e2, e3⟩ := HE.out
                have hb6 : Below w2.heap.size w2 w6 := Below.grown (HB5.out.alloc (by simp; omega) _) hgr6 (by simp; omega) (fun j hj => (howL.out _ hj).1)
                have ho6 : w6.ownsRow w2.heap.size 5 1 (.slice pb B1.length cb) B1.length (Lib.byteCells B1) := (HO5.out.alloc _).kept hgr6 (rows_apart HO5.out HOW5.out (by decide))
                have how6 : w6.ownsRow w2.heap.size 31 3 v6 (us ++ [(kd, tx, B1.length)]).length (tokCells (us ++ [(kd, tx, B1.length)])) := by
                  rw [tokCells_append, tokCells_one, List.length_append, tokCell, ← HT.out]
                  exact hown6
                exact ⟨⟨k + 1, p, B1, us ++ [(kd, tx, B1.length)], rfl, by go_num, by omega, hps, ho6, how6, by simp; omega, by omega, hb6, HST', e1, e2⟩, by simp [intOf]; omega⟩
              · have HE := HSW.out 4 B1 HPK.out (by rw [HLN.out]; exact (List.append_nil B1).symm)
                have HE : Hid _ := HE
                have HOW5 : Hid ((w3.setCell ⟨wr.heap.size, 2, none⟩ (.int .i64 B1.length)).ownsRow w2.heap.size 31 3 u9 us.length (tokCells us)) := ownsRow_setCell_other HOW3.out (fun e => by have := (howL.out _ e).2; simp at this) _
                have HO5 : Hid ((w3.setCell ⟨wr.heap.size, 2, none⟩ (.int .i64 B1.length)).ownsRow w2.heap.size 5 1 (.slice pb B1.length cb) B1.length (Lib.byteCells B1)) := ownsRow_setCell_other HO3.out (fun e => row_not HO3.out HT3.out (by decide) e.symm) _
                have HB5 : Hid (Below w2.heap.size w2 (w3.setCell ⟨wr.heap.size, 2, none⟩ (.int .i64 B1.length))) := HB3.out.setCell (show w2.heap.size ≤ wr.heap.size from hzr) _
                go_wp2_with (at_builtin; refine wpList_append_own _ rfl _ _ 24 rfl w2.heap.size 31 i0 (.agg #[.int .i64 0, .string ⟨#[]⟩, .int .i64 0]) 3 32 Tryd.underlying24 hi hz0 hz1 hz2 rfl (by decide) _ _ _ rfl (HOW5.out.alloc _) ⟨w3.heap.size, 0, none⟩ 1 1 [.int .i64 kd, .string T, .int .i64 B1.length] rfl rfl (by simpa using three_new (w3.setCell ⟨wr.heap.size, 2, none⟩ (.int .i64 B1.length)) 31 (.int .i64 kd) (.string T) (.int .i64 B1.length)) (fun x hx => by simp at hx; rcases hx with rfl | rfl | rfl <;> rfl) (by unfold maxLen; omega) (by omega) (by simp; omega) ?_; intro v6 w6 hown6 hgr6 _)
                obtain ⟨e1, e2, e3⟩ := HE.out
                have hb6 : Below w2.heap.size w2 w6 := Below.grown (HB5.out.alloc (by simp; omega) _) hgr6 (by simp; omega) (fun j hj => (howL.out _ hj).1)
                have ho6 : w6.ownsRow w2.heap.size 5 1 (.slice pb B1.length cb) B1.length (Lib.byteCells B1) := (HO5.out.alloc _).kept hgr6 (rows_apart HO5.out HOW5.out (by decide))
                have how6 : w6.ownsRow w2.heap.size 31 3 v6 (us ++ [(kd, tx, B1.length)]).length (tokCells (us ++ [(kd, tx, B1.length)])) := by
                  rw [tokCells_append, tokCells_one, List.length_append, tokCell, ← HT.out]
                  exact hown6
                exact ⟨⟨k + 1, p, B1, us ++ [(kd, tx, B1.length)], rfl, by go_num, by omega, hps, ho6, how6, by simp; omega, by omega, hb6, HST', e1, e2⟩, by simp [intOf]; omega⟩
              · have HE := HSW.out 5 B1 HPK.out (by rw [HLN.out]; exact (List.append_nil B1).symm)
                have HE : Hid _ := HE
                have HOW5 : Hid ((w3.setCell ⟨wr.heap.size, 2, none⟩ (.int .i64 B1.length)).ownsRow w2.heap.size 31 3 u9 us.length (tokCells us)) := ownsRow_setCell_other HOW3.out (fun e => by have := (howL.out _ e).2; simp at this) _
                have HO5 : Hid ((w3.setCell ⟨wr.heap.size, 2, none⟩ (.int .i64 B1.length)).ownsRow w2.heap.size 5 1 (.slice pb B1.length cb) B1.length (Lib.byteCells B1)) := ownsRow_setCell_other HO3.out (fun e => row_not HO3.out HT3.out (by decide) e.symm) _
                have HB5 : Hid (Below w2.heap.size w2 (w3.setCell ⟨wr.heap.size, 2, none⟩ (.int .i64 B1.length))) := HB3.out.setCell (show w2.heap.size ≤ wr.heap.size from hzr) _
                go_wp2_with (at_builtin; refine wpList_append_own _ rfl _ _ 24 rfl w2.heap.size 31 i0 (.agg #[.int .i64 0, .string ⟨#[]⟩, .int .i64 0]) 3 32 Tryd.underlying24 hi hz0 hz1 hz2 rfl (by decide) _ _ _ rfl (HOW5.out.alloc _) ⟨w3.heap.size, 0, none⟩ 1 1 [.int .i64 kd, .string T, .int .i64 B1.length] rfl rfl (by simpa using three_new (w3.setCell ⟨wr.heap.size, 2, none⟩ (.int .i64 B1.length)) 31 (.int .i64 kd) (.string T) (.int .i64 B1.length)) (fun x hx => by simp at hx; rcases hx with rfl | rfl | rfl <;> rfl) (by unfold maxLen; omega) (by omega) (by simp; omega) ?_; intro v6 w6 hown6 hgr6 _)
                obtain ⟨e1, e2, e3⟩ := HE.out
                have hb6 : Below w2.heap.size w2 w6 := Below.grown (HB5.out.alloc (by simp; omega) _) hgr6 (by simp; omega) (fun j hj => (howL.out _ hj).1)
                have ho6 : w6.ownsRow w2.heap.size 5 1 (.slice pb B1.length cb) B1.length (Lib.byteCells B1) := (HO5.out.alloc _).kept hgr6 (rows_apart HO5.out HOW5.out (by decide))
                have how6 : w6.ownsRow w2.heap.size 31 3 v6 (us ++ [(kd, tx, B1.length)]).length (tokCells (us ++ [(kd, tx, B1.length)])) := by
                  rw [tokCells_append, tokCells_one, List.length_append, tokCell, ← HT.out]
                  exact hown6
                exact ⟨⟨k + 1, p, B1, us ++ [(kd, tx, B1.length)], rfl, by go_num, by omega, hps, ho6, how6, by simp; omega, by omega, hb6, HST', e1, e2⟩, by simp [intOf]; omega⟩
        · have q1 : ((kd : Int) == 1) = false := beq_of_ne (k := 1) c1
          have HLN : Hid (lineB s.data.toList (kd, tx, p) = false) := by show _ = _; unfold lineB; simp [c1]
          clear c1
          go_wp2_with (at_builtin; refine Lib.wpList_append_own_string _ rfl _ _ 29 9 rfl w2.heap.size 5 i5 Tryd.underlying29 Tryd.underlying9 hi5 hz50 hz51 hz52 _ _ _ rfl (HOB.out.alloc _) (s.extract frm p) rfl (by simp; unfold maxLen; omega) (by simp; omega) (by simp; omega) ?_; intro v1 w3 hown3 hgr3 _; obtain ⟨hc3, hf3⟩ := grown_cells hgr3 (T := wr.heap.size) (by simp) (fun e => by have := (HOBL.out _ e.symm).2; omega); have HB3 : Hid (Below w2.heap.size w2 w3) := (Below.grown (hbr.alloc (by omega) _) hgr3 (by simp; omega) (fun j hj => (HOBL.out _ hj).1)); have hrc3 : w3.cell? (A.add (k % n)) = some (.int .i64 (R (k % n))) := (Below.cell (HB2.out.trans (HB3.out.mono (by omega))) hAb).trans HRC.out)
          have HO3 : Hid (w3.ownsRow w2.heap.size 5 1 v1 B1.length (Lib.byteCells B1)) := (by show World.ownsRow _ _ _ _ _ _ _; rw [HB1.out, byteCells_append, ← strCells_extract, List.length_append, List.length_take, List.length_drop, HLs.out, Nat.min_eq_left (by omega)]; simpa [Nat.min_eq_left hps] using hown3)
          have HT3 : Hid (w3.heap[wr.heap.size]? = some (.cells #[.int .i64 kd, .string T, .int .i64 p] 31)) := (hgr3.block _ (by simp) (fun e => by have := (HOBL.out _ e.symm).2; omega)).trans (heap_alloc_new wr _)
          have HOW3 : Hid (w3.ownsRow w2.heap.size 31 3 u9 us.length (tokCells us)) := (HOW.out.alloc _).kept hgr3 (rows_apart HOW.out HOB.out (by decide))
          have hz3 : wr.heap.size < w3.heap.size := (Array.getElem?_eq_some_iff.1 HT3.out).1
          obtain ⟨pb, cb, rfl⟩ := ownsRow_form HO3.out
          clear hown3 hgr3
          refine (pick_any _ _ HRB.out.1 HRB.out.2).mono ?_
          rintro _ w3q ⟨r, hr6, rfl, HPK, hw3q⟩
          have hw3r := hw3q.symm
          subst hw3r
          clear hw3q
          have y0 : w3.cell? ⟨wr.heap.size, 0, none⟩ = some (.int .i64 kd) := by simp [World.cell?, HT3.out]
          have y1 : w3.cell? ⟨wr.heap.size, 1, none⟩ = some (.string T) := by simp [World.cell?, HT3.out]
          have y2 : w3.cell? ⟨wr.heap.size, 2, none⟩ = some (.int .i64 p) := by simp [World.cell?, HT3.out]
          have yf : ∀ o, w3.frozen? ⟨wr.heap.size, o, none⟩ = false := fun o => by simp [World.frozen?, HT3.out]
          clear hc3 hf3 hrc3
          have hr : r = 0 ∨ r = 1 ∨ r = 2 ∨ r = 3 ∨ r = 4 ∨ r = 5 := by omega
          rcases hr with rfl | rfl | rfl | rfl | rfl | rfl
          · have HE := HSW.out 0 B1 HPK.out (by rw [HLN.out]; exact (List.append_nil B1).symm)
            have HE : Hid _ := HE
            have HOW5 : Hid ((w3.setCell ⟨wr.heap.size, 2, none⟩ (.int .i64 B1.length)).ownsRow w2.heap.size 31 3 u9 us.length (tokCells us)) := ownsRow_setCell_other HOW3.out (fun e => by have := (howL.out _ e).2; simp at this) _
            have HO5 : Hid ((w3.setCell ⟨wr.heap.size, 2, none⟩ (.int .i64 B1.length)).ownsRow w2.heap.size 5 1 (.slice pb B1.length cb) B1.length (Lib.byteCells B1)) := ownsRow_setCell_other HO3.out (fun e => row_not HO3.out HT3.out (by decide) e.symm) _
            have HB5 : Hid (Below w2.heap.size w2 (w3.setCell ⟨wr.heap.size, 2, none⟩ (.int .i64 B1.length))) := HB3.out.setCell (show w2.heap.size ≤ wr.heap.size from hzr) _
            go_wp2_with (at_builtin; refine wpList_append_own _ rfl _ _ 24 rfl w2.heap.size 31 i0 (.agg #[.int .i64 0, .string ⟨#[]⟩, .int .i64 0]) 3 32 Tryd.underlying24 hi hz0 hz1 hz2 rfl (by decide) _ _ _ rfl (HOW5.out.alloc _) ⟨w3.heap.size, 0, none⟩ 1 1 [.int .i64 kd, .string T, .int .i64 B1.length] rfl rfl (by simpa using three_new (w3.setCell ⟨wr.heap.size, 2, none⟩ (.int .i64 B1.length)) 31 (.int .i64 kd) (.string T) (.int .i64 B1.length)) (fun x hx => by simp at hx; rcases hx with rfl | rfl | rfl <;> rfl) (by unfold maxLen; omega) (by omega) (by simp; omega) ?_; intro v6 w6 hown6 hgr6 _)
            obtain ⟨e1, e2, e3⟩ := HE.out
            have hb6 : Below w2.heap.size w2 w6 := Below.grown (HB5.out.alloc (by simp; omega) _) hgr6 (by simp; omega) (fun j hj => (howL.out _ hj).1)
            have ho6 : w6.ownsRow w2.heap.size 5 1 (.slice pb B1.length cb) B1.length (Lib.byteCells B1) := (HO5.out.alloc _).kept hgr6 (rows_apart HO5.out HOW5.out (by decide))
            have how6 : w6.ownsRow w2.heap.size 31 3 v6 (us ++ [(kd, tx, B1.length)]).length (tokCells (us ++ [(kd, tx, B1.length)])) := by
              rw [tokCells_append, tokCells_one, List.length_append, tokCell, ← HT.out]
              exact hown6
            exact ⟨⟨k + 1, p, B1, us ++ [(kd, tx, B1.length)], rfl, by go_num, by omega, hps, ho6, how6, by simp; omega, by omega, hb6, HST', e1, e2⟩, by simp [intOf]; omega⟩
          · obtain ⟨B4, hB4⟩ : ∃ B4, B4 = B1 ++ [32] := ⟨_, rfl⟩
            have HE := HSW.out 1 B4 HPK.out (by rw [HLN.out]; exact hB4)
            have HE : Hid _ := HE
            have hB4l : B4.length = B1.length + 1 := by rw [hB4, List.length_append]; rfl
            have HB4 : Hid (B4 = B1 ++ [32]) := hB4
            have HB4l : Hid (B4.length = B1.length + 1) := hB4l
            have hB4b : B4.length ≤ B1.length + 6 := by omega
            clear hB4 hB4l
            go_wp2_with (first | (at_builtin; refine wpList_append_own _ rfl _ _ 24 rfl w2.heap.size 31 i0 (.agg #[.int .i64 0, .string ⟨#[]⟩, .int .i64 0]) 3 32 Tryd.underlying24 hi hz0 hz1 hz2 rfl (by decide) _ _ _ rfl (HOW5.out.alloc _) ⟨w4.heap.size, 0, none⟩ 1 1 [.int .i64 kd, .string T, .int .i64 B4.length] rfl rfl (by simpa using three_new (w4.setCell ⟨wr.heap.size, 2, none⟩ (.int .i64 B4.length)) 31 (.int .i64 kd) (.string T) (.int .i64 B4.length)) (fun x hx => by simp at hx; rcases hx with rfl | rfl | rfl <;> rfl) (by unfold maxLen; omega) (by omega) (by simp; omega) ?_; intro v6 w6 hown6 hgr6 _) | (at_builtin; refine wpList_append_own _ rfl _ _ 29 rfl w2.heap.size 5 i5 (.int .u8 0) 1 1 Tryd.underlying29 hi5 hz50 hz51 hz52 rfl (by decide) _ _ _ rfl (HO3.out.alloc _) ⟨w3.heap.size, 0, none⟩ 1 1 [.int .u8 32] rfl rfl (own_bytes1 _ 32) (fun x hx => by simp at hx; subst hx; rfl) (by unfold maxLen; omega) (by omega) (by simp; omega) ?_; intro v4 w4 hown4 hgr4 _; have ho4 : w4.ownsRow w2.heap.size 5 1 v4 B4.length (Lib.byteCells B4) := (by rw [HB4l.out, HB4.out, byteCells_append]; exact hown4); have HOW4 : Hid (w4.ownsRow w2.heap.size 31 3 u9 us.length (tokCells us)) := (HOW3.out.alloc _).kept hgr4 (rows_apart HOW3.out HO3.out (by decide)); have hT4 : w4.heap[wr.heap.size]? = some (.cells #[.int .i64 kd, .string T, .int .i64 p] 31) := (hgr4.block _ (by simp; omega) (row_not HO3.out HT3.out (by decide))).trans ((Below.heap_alloc _ _ _ hz3).trans HT3.out); have HT4 : Hid (w4.heap[wr.heap.size]? = some (.cells #[.int .i64 kd, .string T, .int .i64 p] 31)) := hT4; have x0 : w4.cell? ⟨wr.heap.size, 0, none⟩ = some (.int .i64 kd) := (by simp [World.cell?, hT4]); have x1 : w4.cell? ⟨wr.heap.size, 1, none⟩ = some (.string T) := (by simp [World.cell?, hT4]); have x2 : w4.cell? ⟨wr.heap.size, 2, none⟩ = some (.int .i64 p) := (by simp [World.cell?, hT4]); have xf : ∀ o, w4.frozen? ⟨wr.heap.size, o, none⟩ = false := (fun o => by simp [World.frozen?, hT4]); have HB4' : Hid (Below w2.heap.size w2 w4) := Below.grown (HB3.out.alloc (by omega) _) hgr4 (by simp; omega) (fun j hj => (HO3.out.lt _ hj).1); have hz4 : w3.heap.size ≤ w4.heap.size := (by have := hgr4.size; simp at this; omega); obtain ⟨pb4, cb4, rfl⟩ := ownsRow_form ho4; have HO4 : Hid (w4.ownsRow w2.heap.size 5 1 (.slice pb4 B4.length cb4) B4.length (Lib.byteCells B4)) := ho4; clear hown4 hgr4 ho4 hT4; have HOW5 : Hid ((w4.setCell ⟨wr.heap.size, 2, none⟩ (.int .i64 B4.length)).ownsRow w2.heap.size 31 3 u9 us.length (tokCells us)) := ownsRow_setCell_other HOW4.out (fun e => by have := (howL.out _ e).2; simp at this) _; have HO5 : Hid ((w4.setCell ⟨wr.heap.size, 2, none⟩ (.int .i64 B4.length)).ownsRow w2.heap.size 5 1 (.slice pb4 B4.length cb4) B4.length (Lib.byteCells B4)) := ownsRow_setCell_other HO4.out (fun e => row_not HO4.out HT4.out (by decide) e.symm) _; have HB5 : Hid (Below w2.heap.size w2 (w4.setCell ⟨wr.heap.size, 2, none⟩ (.int .i64 B4.length))) := HB4'.out.setCell (show w2.heap.size ≤ wr.heap.size from hzr) _))
            obtain ⟨e1, e2, e3⟩ := HE.out
            have hb6 : Below w2.heap.size w2 w6 := Below.grown (HB5.out.alloc (by simp; omega) _) hgr6 (by simp; omega) (fun j hj => (howL.out _ hj).1)
            have ho6 : w6.ownsRow w2.heap.size 5 1 (.slice pb4 B4.length cb4) B4.length (Lib.byteCells B4) := (HO5.out.alloc _).kept hgr6 (rows_apart HO5.out HOW5.out (by decide))
            have how6 : w6.ownsRow w2.heap.size 31 3 v6 (us ++ [(kd, tx, B4.length)]).length (tokCells (us ++ [(kd, tx, B4.length)])) := by
              rw [tokCells_append, tokCells_one, List.length_append, tokCell, ← HT.out]
              exact hown6
            exact ⟨⟨k + 1, p, B4, us ++ [(kd, tx, B4.length)], rfl, by go_num, by omega, hps, ho6, how6, by simp; omega, by omega, hb6, HST', e1, e2⟩, by simp [intOf]; omega⟩
          · obtain ⟨B4, hB4⟩ : ∃ B4, B4 = B1 ++ [9, 32] := ⟨_, rfl⟩
            have HE := HSW.out 2 B4 HPK.out (by rw [HLN.out]; exact hB4)
            have HE : Hid _ := HE
            have hB4l : B4.length = B1.length + 2 := by rw [hB4, List.length_append]; rfl
            have HB4 : Hid (B4 = B1 ++ [9, 32]) := hB4
            have HB4l : Hid (B4.length = B1.length + 2) := hB4l
            have hB4b : B4.length ≤ B1.length + 6 := by omega
            clear hB4 hB4l
            go_wp2_with (first | (at_builtin; refine wpList_append_own _ rfl _ _ 24 rfl w2.heap.size 31 i0 (.agg #[.int .i64 0, .string ⟨#[]⟩, .int .i64 0]) 3 32 Tryd.underlying24 hi hz0 hz1 hz2 rfl (by decide) _ _ _ rfl (HOW5.out.alloc _) ⟨w4.heap.size, 0, none⟩ 1 1 [.int .i64 kd, .string T, .int .i64 B4.length] rfl rfl (by simpa using three_new (w4.setCell ⟨wr.heap.size, 2, none⟩ (.int .i64 B4.length)) 31 (.int .i64 kd) (.string T) (.int .i64 B4.length)) (fun x hx => by simp at hx; rcases hx with rfl | rfl | rfl <;> rfl) (by unfold maxLen; omega) (by omega) (by simp; omega) ?_; intro v6 w6 hown6 hgr6 _) | (at_builtin; refine wpList_append_own _ rfl _ _ 29 rfl w2.heap.size 5 i5 (.int .u8 0) 1 1 Tryd.underlying29 hi5 hz50 hz51 hz52 rfl (by decide) _ _ _ rfl (HO3.out.alloc _) ⟨w3.heap.size, 0, none⟩ 2 2 [.int .u8 9, .int .u8 32] rfl rfl (two_new _ _ _ _) (fun x hx => by simp at hx; rcases hx with rfl | rfl <;> rfl) (by unfold maxLen; omega) (by omega) (by simp; omega) ?_; intro v4 w4 hown4 hgr4 _; have ho4 : w4.ownsRow w2.heap.size 5 1 v4 B4.length (Lib.byteCells B4) := (by rw [HB4l.out, HB4.out, byteCells_append]; exact hown4); have HOW4 : Hid (w4.ownsRow w2.heap.size 31 3 u9 us.length (tokCells us)) := (HOW3.out.alloc _).kept hgr4 (rows_apart HOW3.out HO3.out (by decide)); have hT4 : w4.heap[wr.heap.size]? = some (.cells #[.int .i64 kd, .string T, .int .i64 p] 31) := (hgr4.block _ (by simp; omega) (row_not HO3.out HT3.out (by decide))).trans ((Below.heap_alloc _ _ _ hz3).trans HT3.out); have HT4 : Hid (w4.heap[wr.heap.size]? = some (.cells #[.int .i64 kd, .string T, .int .i64 p] 31)) := hT4; have x0 : w4.cell? ⟨wr.heap.size, 0, none⟩ = some (.int .i64 kd) := (by simp [World.cell?, hT4]); have x1 : w4.cell? ⟨wr.heap.size, 1, none⟩ = some (.string T) := (by simp [World.cell?, hT4]); have x2 : w4.cell? ⟨wr.heap.size, 2, none⟩ = some (.int .i64 p) := (by simp [World.cell?, hT4]); have xf : ∀ o, w4.frozen? ⟨wr.heap.size, o, none⟩ = false := (fun o => by simp [World.frozen?, hT4]); have HB4' : Hid (Below w2.heap.size w2 w4) := Below.grown (HB3.out.alloc (by omega) _) hgr4 (by simp; omega) (fun j hj => (HO3.out.lt _ hj).1); have hz4 : w3.heap.size ≤ w4.heap.size := (by have := hgr4.size; simp at this; omega); obtain ⟨pb4, cb4, rfl⟩ := ownsRow_form ho4; have HO4 : Hid (w4.ownsRow w2.heap.size 5 1 (.slice pb4 B4.length cb4) B4.length (Lib.byteCells B4)) := ho4; clear hown4 hgr4 ho4 hT4; have HOW5 : Hid ((w4.setCell ⟨wr.heap.size, 2, none⟩ (.int .i64 B4.length)).ownsRow w2.heap.size 31 3 u9 us.length (tokCells us)) := ownsRow_setCell_other HOW4.out (fun e => by have := (howL.out _ e).2; simp at this) _; have HO5 : Hid ((w4.setCell ⟨wr.heap.size, 2, none⟩ (.int .i64 B4.length)).ownsRow w2.heap.size 5 1 (.slice pb4 B4.length cb4) B4.length (Lib.byteCells B4)) := ownsRow_setCell_other HO4.out (fun e => row_not HO4.out HT4.out (by decide) e.symm) _; have HB5 : Hid (Below w2.heap.size w2 (w4.setCell ⟨wr.heap.size, 2, none⟩ (.int .i64 B4.length))) := HB4'.out.setCell (show w2.heap.size ≤ wr.heap.size from hzr) _))
            obtain ⟨e1, e2, e3⟩ := HE.out
            have hb6 : Below w2.heap.size w2 w6 := Below.grown (HB5.out.alloc (by simp; omega) _) hgr6 (by simp; omega) (fun j hj => (howL.out _ hj).1)
            have ho6 : w6.ownsRow w2.heap.size 5 1 (.slice pb4 B4.length cb4) B4.length (Lib.byteCells B4) := (HO5.out.alloc _).kept hgr6 (rows_apart HO5.out HOW5.out (by decide))
            have how6 : w6.ownsRow w2.heap.size 31 3 v6 (us ++ [(kd, tx, B4.length)]).length (tokCells (us ++ [(kd, tx, B4.length)])) := by
              rw [tokCells_append, tokCells_one, List.length_append, tokCell, ← HT.out]
              exact hown6
            exact ⟨⟨k + 1, p, B4, us ++ [(kd, tx, B4.length)], rfl, by go_num, by omega, hps, ho6, how6, by simp; omega, by omega, hb6, HST', e1, e2⟩, by simp [intOf]; omega⟩
          · have HE := HSW.out 3 B1 HPK.out (by rw [HLN.out]; exact (List.append_nil B1).symm)
            have HE : Hid _ := HE
            have HOW5 : Hid ((w3.setCell ⟨wr.heap.size, 2, none⟩ (.int .i64 B1.length)).ownsRow w2.heap.size 31 3 u9 us.length (tokCells us)) := ownsRow_setCell_other HOW3.out (fun e => by have := (howL.out _ e).2; simp at this) _
            have HO5 : Hid ((w3.setCell ⟨wr.heap.size, 2, none⟩ (.int .i64 B1.length)).ownsRow w2.heap.size 5 1 (.slice pb B1.length cb) B1.length (Lib.byteCells B1)) := ownsRow_setCell_other HO3.out (fun e => row_not HO3.out HT3.out (by decide) e.symm) _
            have HB5 : Hid (Below w2.heap.size w2 (w3.setCell ⟨wr.heap.size, 2, none⟩ (.int .i64 B1.length))) := HB3.out.setCell (show w2.heap.size ≤ wr.heap.size from hzr) _
            go_wp2_with (at_builtin; refine wpList_append_own _ rfl _ _ 24 rfl w2.heap.size 31 i0 (.agg #[.int .i64 0, .string ⟨#[]⟩, .int .i64 0]) 3 32 Tryd.underlying24 hi hz0 hz1 hz2 rfl (by decide) _ _ _ rfl (HOW5.out.alloc _) ⟨w3.heap.size, 0, none⟩ 1 1 [.int .i64 kd, .string T, .int .i64 B1.length] rfl rfl (by simpa using three_new (w3.setCell ⟨wr.heap.size, 2, none⟩ (.int .i64 B1.length)) 31 (.int .i64 kd) (.string T) (.int .i64 B1.length)) (fun x hx => by simp at hx; rcases hx with rfl | rfl | rfl <;> rfl) (by unfold maxLen; omega) (by omega) (by simp; omega) ?_; intro v6 w6 hown6 hgr6 _)
            obtain ⟨e1, e2, e3⟩ := HE.out
            have hb6 : Below w2.heap.size w2 w6 := Below.grown (HB5.out.alloc (by simp; omega) _) hgr6 (by simp; omega) (fun j hj => (howL.out _ hj).1)
            have ho6 : w6.ownsRow w2.heap.size 5 1 (.slice pb B1.length cb) B1.length (Lib.byteCells B1) := (HO5.out.alloc _).kept hgr6 (rows_apart HO5.out HOW5.out (by decide))
            have how6 : w6.ownsRow w2.heap.size 31 3 v6 (us ++ [(kd, tx, B1.length)]).length (tokCells (us ++ [(kd, tx, B1.length)])) := by
              rw [tokCells_append, tokCells_one, List.length_append, tokCell, ← HT.out]
              exact hown6
            exact ⟨⟨k + 1, p, B1, us ++ [(kd, tx, B1.length)], rfl, by go_num, by omega, hps, ho6, how6, by simp; omega, by omega, hb6, HST', e1, e2⟩, by simp [intOf]; omega⟩
          · have HE := HSW.out 4 B1 HPK.out (by rw [HLN.out]; exact (List.append_nil B1).symm)
            have HE : Hid _ := HE
            have HOW5 : Hid ((w3.setCell ⟨wr.heap.size, 2, none⟩ (.int .i64 B1.length)).ownsRow w2.heap.size 31 3 u9 us.length (tokCells us)) := ownsRow_setCell_other HOW3.out (fun e => by have := (howL.out _ e).2; simp at this) _
            have HO5 : Hid ((w3.setCell ⟨wr.heap.size, 2, none⟩ (.int .i64 B1.length)).ownsRow w2.heap.size 5 1 (.slice pb B1.length cb) B1.length (Lib.byteCells B1)) := ownsRow_setCell_other HO3.out (fun e => row_not HO3.out HT3.out (by decide) e.symm) _
            have HB5 : Hid (Below w2.heap.size w2 (w3.setCell ⟨wr.heap.size, 2, none⟩ (.int .i64 B1.length))) := HB3.out.setCell (show w2.heap.size ≤ wr.heap.size from hzr) _
            go_wp2_with (at_builtin; refine wpList_append_own _ rfl _ _ 24 rfl w2.heap.size 31 i0 (.agg #[.int .i64 0, .string ⟨#[]⟩, .int .i64 0]) 3 32 Tryd.underlying24 hi hz0 hz1 hz2 rfl (by decide) _ _ _ rfl (HOW5.out.alloc _) ⟨w3.heap.size, 0, none⟩ 1 1 [.int .i64 kd, .string T, .int .i64 B1.length] rfl rfl (by simpa using three_new (w3.setCell ⟨wr.heap.size, 2, none⟩ (.int .i64 B1.length)) 31 (.int .i64 kd) (.string T) (.int .i64 B1.length)) (fun x hx => by simp at hx; rcases hx with rfl | rfl | rfl <;> rfl) (by unfold maxLen; omega) (by omega) (by simp; omega) ?_; intro v6 w6 hown6 hgr6 _)
            obtain ⟨e1, e2, e3⟩ := HE.out
            have hb6 : Below w2.heap.size w2 w6 := Below.grown (HB5.out.alloc (by simp; omega) _) hgr6 (by simp; omega) (fun j hj => (howL.out _ hj).1)
            have ho6 : w6.ownsRow w2.heap.size 5 1 (.slice pb B1.length cb) B1.length (Lib.byteCells B1) := (HO5.out.alloc _).kept hgr6 (rows_apart HO5.out HOW5.out (by decide))
            have how6 : w6.ownsRow w2.heap.size 31 3 v6 (us ++ [(kd, tx, B1.length)]).length (tokCells (us ++ [(kd, tx, B1.length)])) := by
              rw [tokCells_append, tokCells_one, List.length_append, tokCell, ← HT.out]
              exact hown6
            exact ⟨⟨k + 1, p, B1, us ++ [(kd, tx, B1.length)], rfl, by go_num, by omega, hps, ho6, how6, by simp; omega, by omega, hb6, HST', e1, e2⟩, by simp [intOf]; omega⟩
          · have HE := HSW.out 5 B1 HPK.out (by rw [HLN.out]; exact (List.append_nil B1).symm)
            have HE : Hid _ := HE
            have HOW5 : Hid ((w3.setCell ⟨wr.heap.size, 2, none⟩ (.int .i64 B1.length)).ownsRow w2.heap.size 31 3 u9 us.length (tokCells us)) := ownsRow_setCell_other HOW3.out (fun e => by have := (howL.out _ e).2; simp at this) _
            have HO5 : Hid ((w3.setCell ⟨wr.heap.size, 2, none⟩ (.int .i64 B1.length)).ownsRow w2.heap.size 5 1 (.slice pb B1.length cb) B1.length (Lib.byteCells B1)) := ownsRow_setCell_other HO3.out (fun e => row_not HO3.out HT3.out (by decide) e.symm) _
            have HB5 : Hid (Below w2.heap.size w2 (w3.setCell ⟨wr.heap.size, 2, none⟩ (.int .i64 B1.length))) := HB3.out.setCell (show w2.heap.size ≤ wr.heap.size from hzr) _
            go_wp2_with (at_builtin; refine wpList_append_own _ rfl _ _ 24 rfl w2.heap.size 31 i0 (.agg #[.int .i64 0, .string ⟨#[]⟩, .int .i64 0]) 3 32 Tryd.underlying24 hi hz0 hz1 hz2 rfl (by decide) _ _ _ rfl (HOW5.out.alloc _) ⟨w3.heap.size, 0, none⟩ 1 1 [.int .i64 kd, .string T, .int .i64 B1.length] rfl rfl (by simpa using three_new (w3.setCell ⟨wr.heap.size, 2, none⟩ (.int .i64 B1.length)) 31 (.int .i64 kd) (.string T) (.int .i64 B1.length)) (fun x hx => by simp at hx; rcases hx with rfl | rfl | rfl <;> rfl) (by unfold maxLen; omega) (by omega) (by simp; omega) ?_; intro v6 w6 hown6 hgr6 _)
            obtain ⟨e1, e2, e3⟩ := HE.out
            have hb6 : Below w2.heap.size w2 w6 := Below.grown (HB5.out.alloc (by simp; omega) _) hgr6 (by simp; omega) (fun j hj => (howL.out _ hj).1)
            have ho6 : w6.ownsRow w2.heap.size 5 1 (.slice pb B1.length cb) B1.length (Lib.byteCells B1) := (HO5.out.alloc _).kept hgr6 (rows_apart HO5.out HOW5.out (by decide))
            have how6 : w6.ownsRow w2.heap.size 31 3 v6 (us ++ [(kd, tx, B1.length)]).length (tokCells (us ++ [(kd, tx, B1.length)])) := by
              rw [tokCells_append, tokCells_one, List.length_append, tokCell, ← HT.out]
              exact hown6
            exact ⟨⟨k + 1, p, B1, us ++ [(kd, tx, B1.length)], rfl, by go_num, by omega, hps, ho6, how6, by simp; omega, by omega, hb6, HST', e1, e2⟩, by simp [intOf]; omega⟩
      · obtain rfl : k = N := by omega
        have hdn : ts.drop k = [] := List.drop_eq_nil_of_le (by have := HN.out; omega)
        have HWB : Hid (woven f s.data.toList 0 0 ts = B ++ s.data.toList.drop frm) := by have := HW.out; rw [hdn] at this; exact this.symm
        have HVU : Hid (wovenT f 0 0 0 ts = us) := by show _ = _; have := HV.out; rw [hdn] at this; simpa [wovenT] using this.symm
        obtain ⟨B7, hB7⟩ : ∃ B7, B7 = B ++ s.data.toList.drop frm := ⟨_, rfl⟩
        have hB7l : B7.length = B.length + (s.size - frm) := by rw [hB7, List.length_append, List.length_drop, HLs.out]
        have hB7b : B7.length ≤ s.size + 6 * k := by omega
        have HB7 : Hid (B7 = B ++ s.data.toList.drop frm) := hB7
        have HB7l : Hid (B7.length = B.length + (s.size - frm)) := hB7l
        have HOB : Hid (wr.ownsRow w2.heap.size 5 1 u8 B.length (Lib.byteCells B)) := hob
        have HOW : Hid (wr.ownsRow w2.heap.size 31 3 u9 us.length (tokCells us)) := how
        clear hdn hB7 hB7l hob how HW HV
        by_cases h60 : 60000 < B7.length
        · have i60 : (60000 : Int) < B7.length := by omega
          go_wp2_with (at_builtin; refine Lib.wpList_append_own_string _ rfl _ _ 29 9 rfl w2.heap.size 5 i5 Tryd.underlying29 Tryd.underlying9 hi5 hz50 hz51 hz52 _ _ _ rfl HOB.out (s.extract frm s.size) rfl (by simp; unfold maxLen; omega) (by simp; omega) (by omega) ?_; intro v7 w7 hown7 hgr7 _; have ho7 : w7.ownsRow w2.heap.size 5 1 v7 B7.length (Lib.byteCells B7) := (by rw [HB7l.out, HB7.out, byteCells_append]; rw [strCells_extract, List.take_of_length_le (by rw [List.length_drop, HLs.out]; omega)] at hown7; simpa using hown7); have HOW7 : Hid (w7.ownsRow w2.heap.size 31 3 u9 us.length (tokCells us)) := HOW.out.kept hgr7 (rows_apart HOW.out HOB.out (by decide)); have HB7' : Hid (Below w2.heap.size w2 w7) := Below.grown hbr hgr7 (by omega) (fun j hj => (HOB.out.lt _ hj).1); have hcv := conv_own ho7; obtain ⟨pb7, cb7, rfl⟩ := ownsRow_form ho7; clear hown7 hgr7 ho7)
          go_ret
          exact ⟨rfl, HB2.out.trans (HB7'.out.mono (by omega))⟩
        · have i60 : ¬ (60000 : Int) < B7.length := by omega
          have HSP : Hid (scanSpec (ByteArray.mk B7.toArray).data.toList = .ok us) := by
            show scanSpec B7 = .ok us
            have e1 : woven f s.data.toList 0 0 ts = B7 := by rw [HWB.out, HB7.out]
            rw [← e1, ← HVU.out]
            exact blanks_spec f s.data.toList ts HX.out HG.out (by rw [e1]; omega)
          go_wp2_with (at_builtin; refine Lib.wpList_append_own_string _ rfl _ _ 29 9 rfl w2.heap.size 5 i5 Tryd.underlying29 Tryd.underlying9 hi5 hz50 hz51 hz52 _ _ _ rfl HOB.out (s.extract frm s.size) rfl (by simp; unfold maxLen; omega) (by simp; omega) (by omega) ?_; intro v7 w7 hown7 hgr7 _; have ho7 : w7.ownsRow w2.heap.size 5 1 v7 B7.length (Lib.byteCells B7) := (by rw [HB7l.out, HB7.out, byteCells_append]; rw [strCells_extract, List.take_of_length_le (by rw [List.length_drop, HLs.out]; omega)] at hown7; simpa using hown7); have HOW7 : Hid (w7.ownsRow w2.heap.size 31 3 u9 us.length (tokCells us)) := HOW.out.kept hgr7 (rows_apart HOW.out HOB.out (by decide)); have HB7' : Hid (Below w2.heap.size w2 w7) := Below.grown hbr hgr7 (by omega) (fun j hj => (HOB.out.lt _ hj).1); have hcv := conv_own ho7; obtain ⟨pb7, cb7, rfl⟩ := ownsRow_form ho7; clear hown7 hgr7 ho7)
          have ht7 := HT2.out.below (Nat.le_refl _) HB7'.out
          refine (scan_any _ _ ht7).mono ?_
          intro r w8 hres
          rw [HSP.out] at hres
          cases hres with
          | ok _ v8 he hown8 hn8 hb8 =>
            subst he
            have HOW8 : Hid (w8.ownsRow w2.heap.size 31 3 u9 us.length (tokCells us)) := ownsRow_below HOW7.out hb8
            have hz7 := HB7'.out.size
            have HB8 : Hid (Below w2.heap.size w2 w8) := HB7'.out.trans (hb8.mono hz7)
            have HO8 : Hid (w8.ownsRow w7.heap.size 31 3 v8 us.length (tokCells us)) := hown8
            clear hown8 hb8 hcv
            go_wp2_with fail
            refine (same_eq _ _ us _ HO8.out HOW8.out (by omega)).mono ?_
            rintro _ w9 ⟨rfl, nd, rfl⟩
            go_wp2_with fail
            go_ret
            exact ⟨rfl, below_drewN (HB2.out.trans (HB8.out.mono (by omega))) _⟩
end Go.Proofs.YtnflgijbngcjbabDoor
