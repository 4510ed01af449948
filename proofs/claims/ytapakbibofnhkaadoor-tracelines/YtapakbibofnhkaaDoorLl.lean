/-
  The law TraceLines.
-/
import Derived.Test.YtapakbibofnhkaaDoorLd
namespace Go.Proofs.YtapakbibofnhkaaDoor
open Go.RowKit Go.ChangeMaps

/-- The first numbers are written over. -/
def IRel (s : ByteArray) (l : List Ev) (gc : Nat) (w : World) (i : Value) (wr : World) : Prop := ∃ j : Nat, i = .int .i64 j ∧ j ≤ (tally s l).length ∧ KS (· = gc) w wr ∧ ∃ cs : List Int, wr.heap[gc]? = some (.cells (cs.map (Value.int .i64)).toArray 3) ∧ cs.length = (tally s l).length ∧ ∀ m, j ≤ m → cs[m]? = (tally s l)[m]?

set_option maxRecDepth 100000 in
set_option maxHeartbeats 4000000 in
theorem linesLaw_big (s : ByteArray) (l : List Ev) (pa : Option Addr) (ca : Nat) (w : World) (ha : EvsAt w pa l) (hl : l.length * 32 ≤ 140737488355328) (hs : 60000 < s.size) (htab : Tab w) :
    Calls Tryd.prog 4 #[.string s, .slice pa l.length ca] w fun r w' => r = .returned (.bool true) ∧ Below w.heap.size w w' := by
  have HA0 : Hid (EvsAt w pa l) := ha
  have HZ0 : Hid (Below w.heap.size w w) := Below.refl _ _
  have HTAB : Hid (Tab w) := htab
  clear ha htab
  go_enter Tryd.func4, Tryd.ntmps4
  go_wp2_with fail
  refine (examples_any _ HTAB.out).mono ?_
  rintro _ w1 ⟨rfl, b1⟩
  have HA1 : Hid (EvsAt w1 pa l) := (HA0.out).below b1 (Nat.le_refl _)
  have HZ1 : Hid (Below w.heap.size w w1) := HZ0.out.trans (b1.mono HZ0.out.size)
  clear b1
  go_wp2_with fail
  refine (lent_any l pa ca w1 HA1.out hl).mono ?_
  rintro _ w2 ⟨rfl, b2, hx⟩
  obtain ⟨gx, hgx⟩ : ∃ g, w1.heap.size = g := ⟨_, rfl⟩
  rw [hgx] at hx ⊢
  clear hgx
  have HX2 : Hid (w2.heap[gx]? = some (.cells (evCells (l ++ ends)).toArray 33)) := hx
  clear hx
  have HA2 : Hid (EvsAt w2 pa l) := (HA1.out).below b2 (Nat.le_refl _)
  have HZ2 : Hid (Below w.heap.size w w2) := HZ1.out.trans (b2.mono HZ1.out.size)
  clear b2
  go_wp2_with fail
  refine (refLines_big s _ w2 hs).mono ?_
  rintro _ V ⟨rfl, hV⟩
  obtain rfl := hV.symm
  go_wp2_with fail
  refine wp_loop_rounds 3 ?_
  rw [rounds_succ]
  go_wp2_with fail
  refine (lines_big s _ w2 hs).mono ?_
  rintro _ V ⟨rfl, hV⟩
  obtain rfl := hV.symm
  go_wp2_with fail
  refine wp_loop_rounds 1 ?_
  rw [rounds_succ]
  go_wp2_with fail
  rw [rounds_succ]
  go_wp2_with fail
  refine (lines_big s _ w2 hs).mono ?_
  rintro _ V ⟨rfl, hV⟩
  obtain rfl := hV.symm
  go_wp2_with fail
  refine wp_loop_rounds 1 ?_
  rw [rounds_succ]
  go_wp2_with fail
  rw [rounds_succ]
  go_wp2_with fail
  refine (still_any l pa ca gx w2 HA2.out hl HX2.out).mono ?_
  rintro _ w3 ⟨rfl, b3⟩
  have HZ3 : Hid (Below w.heap.size w w3) := HZ2.out.trans (b3.mono HZ2.out.size)
  clear b3
  go_wp2_with fail
  go_ret
  exact ⟨rfl, HZ3.out⟩
theorem evs_ks {w w' : World} {S : Nat → Prop} {pa : Option Addr} {l : List Ev} (h : EvsAt w pa l) (hk : KS S w w') (hn : ∀ b f, pa = some ⟨b, f, none⟩ → l ≠ [] → ¬ S b) : EvsAt w' pa l := by
  by_cases h0 : l = []
  · exact .inl h0
  · obtain ⟨b, f, rfl, hb, _⟩ := h.nonempty (List.length_pos_iff.2 h0)
    exact hk.evs hb (hn b f rfl h0) h

set_option maxRecDepth 100000 in
set_option maxHeartbeats 4000000 in
theorem linesLaw_small (s : ByteArray) (l : List Ev) (pa : Option Addr) (ca : Nat) (w : World) (ha : EvsAt w pa l) (hl : l.length * 32 ≤ 140737488355328) (hs : s.size ≤ 60000) (htab : Tab w) :
    Calls Tryd.prog 4 #[.string s, .slice pa l.length ca] w fun r w' => r = .returned (.bool true) ∧ Below w.heap.size w w' := by
  have HA0 : Hid (EvsAt w pa l) := ha
  have HZ0 : Hid (Below w.heap.size w w) := Below.refl _ _
  have HTAB : Hid (Tab w) := htab
  clear ha htab
  have hnl : nf s.data.toList s.size ≤ 60000 := by have := feedsFrom_len (s.data.toList.take s.size) 0; unfold nf; simp at this ⊢; omega
  go_enter Tryd.func4, Tryd.ntmps4
  go_wp2_with fail
  refine (examples_any _ HTAB.out).mono ?_
  rintro _ w1 ⟨rfl, b1⟩
  have HA1 : Hid (EvsAt w1 pa l) := (HA0.out).below b1 (Nat.le_refl _)
  have HZ1 : Hid (Below w.heap.size w w1) := HZ0.out.trans (b1.mono HZ0.out.size)
  clear b1
  go_wp2_with fail
  refine (lent_any l pa ca w1 HA1.out hl).mono ?_
  rintro _ w2 ⟨rfl, b2, hx⟩
  obtain ⟨gx, hgx⟩ : ∃ g, w1.heap.size = g := ⟨_, rfl⟩
  rw [hgx] at hx ⊢
  clear hgx
  have HX2 : Hid (w2.heap[gx]? = some (.cells (evCells (l ++ ends)).toArray 33)) := hx
  clear hx
  have HA2 : Hid (EvsAt w2 pa l) := (HA1.out).below b2 (Nat.le_refl _)
  have HZ2 : Hid (Below w.heap.size w w2) := HZ1.out.trans (b2.mono HZ1.out.size)
  clear b2
  go_wp2_with fail
  refine (refLines_any s l pa ca w2 hs HA2.out hl).mono ?_
  rintro _ w3 ⟨gw, rfl, b3, hgw, hw⟩
  have HW3 : Hid (w3.heap[gw]? = some (.cells ((tally s l).map (Value.int .i64)).toArray 3)) := hw
  clear hw
  have HA3 : Hid (EvsAt w3 pa l) := (HA2.out).below b3 (Nat.le_refl _)
  have HX3 : Hid (w3.heap[gx]? = some (.cells (evCells (l ++ ends)).toArray 33)) := blk HX2.out b3
  have HZ3 : Hid (Below w.heap.size w w3) := HZ2.out.trans (b3.mono HZ2.out.size)
  clear b3
  go_wp2_with fail
  refine wp_loop_rounds 3 ?_
  rw [rounds_succ]
  go_wp2_with fail
  refine (lines_any s l _ _ w3 hs (evs_lent HX3.out) hl).mono ?_
  rintro _ w4 ⟨gc3, rfl, b4, hgc3, hr3, _, hlen3⟩
  have HR4 : Hid (w4.heap[gc3]? = some (.cells ((tally s l).map (Value.int .i64)).toArray 3)) := hr3
  have hne3 : gx ≠ gc3 := fun q => by have := heap_lt HX3.out; omega
  have hnw3 : gw ≠ gc3 := fun q => by have := heap_lt HW3.out; omega
  have hgz3 : w.heap.size ≤ gc3 := by have := HZ3.out.size; omega
  have hgl3 : gc3 < w4.heap.size := heap_lt hr3
  clear hr3
  have HA4 : Hid (EvsAt w4 pa l) := (HA3.out).below b4 (Nat.le_refl _)
  have HX4 : Hid (w4.heap[gx]? = some (.cells (evCells (l ++ ends)).toArray 33)) := blk HX3.out b4
  have HW4 : Hid (w4.heap[gw]? = some (.cells ((tally s l).map (Value.int .i64)).toArray 3)) := blk HW3.out b4
  have HZ4 : Hid (Below w.heap.size w w4) := HZ3.out.trans (b4.mono HZ3.out.size)
  clear b4
  go_wp2_with fail
  have HI4 : Hid (IRel s l gc3 w4 (.int .i64 0) w4) := ⟨0, rfl, Nat.zero_le _, KS.refl _ _, tally s l, HR4.out, rfl, fun _ _ => rfl⟩
  go_loopw [10] (fun i wr => IRel s l gc3 w4 i wr) (fun i _ => (tally s l).length - (intOf i).toNat)
  case atStart => exact HI4.out
  case round =>
    obtain ⟨m, rfl, hm, hk, cs, hcs, hcl, hcm⟩ := hrel
    have HK : Hid (KS (· = gc3) w4 wr) := hk
    have HC : Hid (wr.heap[gc3]? = some (.cells (cs.map (Value.int .i64)).toArray 3)) := hcs
    have HCM : Hid (∀ n, m ≤ n → cs[n]? = (tally s l)[n]?) := hcm
    have hwr := (hk.block gw (heap_lt HW4.out) hnw3).trans HW4.out
    have HWR : Hid _ := hwr
    clear hk hcs hcm hwr
    by_cases hlt : m < (tally s l).length
    · have i1 : (m : Int) < (nf s.data.toList s.size : Int) + 1 := by rw [hlen3] at hlt; omega
      have i2 : m < nf s.data.toList s.size + 1 := by rw [hlen3] at hlt; omega
      obtain ⟨x, hx⟩ : ∃ x, (tally s l)[m]? = some x := ⟨_, List.getElem?_eq_getElem hlt⟩
      have c1 := (cells_of HC.out).1 m
      rw [show (cs.map (Value.int .i64)).toArray[m]? = some (.int .i64 x) by rw [List.getElem?_toArray, List.getElem?_map, HCM.out m (Nat.le_refl _), hx]; rfl] at c1
      have f1 := (cells_of HC.out).2
      have c2 := (cells_of HWR.out).1 m
      rw [show ((tally s l).map (Value.int .i64)).toArray[m]? = some (.int .i64 x) by rw [List.getElem?_toArray, List.getElem?_map, hx]; rfl] at c2
      have hLb : m < 60002 := by have := hnl; omega
      clear hx
      go_wp2_with fail
      go_quiet (fail)
      obtain ⟨V, hV⟩ : ∃ W, W = wr.drewN nq := ⟨_, rfl⟩
      rw [← hV]
      have hVh : ∀ b : Nat, V.heap[b]? = wr.heap[b]? := fun b => by rw [hV]; rfl
      have hVc : V.heap[gc3]? = some (.cells (cs.map (Value.int .i64)).toArray 3) := (hVh _).trans HC.out
      have hkV : KS (· = gc3) w4 V := HK.out.trans (KS.of (S := (· = gc3)) (by rw [hV]; exact below_drewN (Below.refl _ _) _)) (fun _ _ q => q)
      have d1 := (cells_of hVc).1 m
      rw [show (cs.map (Value.int .i64)).toArray[m]? = some (.int .i64 x) by rw [← (cells_of HC.out).1]; exact c1] at d1
      have e1 := (cells_of hVc).2
      have HF : Hid (IRel s l gc3 w4 (.int .i64 ((m : Int) + 1)) (V.setCell ⟨gc3, m, none⟩ (.int .i64 (-9)))) := by
        refine ⟨m + 1, by simp, hlt, hkV.trans (KS.set (· = gc3) _ _ _ _ rfl) (fun _ _ q => q), cs.set m (-9), ?_, by simpa using hcl, fun n hn => ?_⟩
        · have h1 := heap_set hVc m (.int .i64 (-9))
          rw [map_set_int] at h1
          exact h1
        · rw [List.getElem?_set_ne (by omega)]; exact HCM.out n (by omega)
      clear hV hVh hVc hkV c1 c2 f1
      go_wp2_with fail
      exact ⟨HF.out, by simp [intOf]; omega⟩
    · have hml : m = (tally s l).length := by omega
      have i1 : ¬ (m : Int) < (nf s.data.toList s.size : Int) + 1 := by rw [hlen3] at hml; omega
      have i2 : ¬ m < nf s.data.toList s.size + 1 := by rw [hlen3] at hml; omega
      have bk : Below w4.heap.size w4 w4 := Below.refl _ _
      obtain ⟨w5, hwk⟩ : ∃ W, W = wr := ⟨_, rfl⟩
      rw [← hwk]
      rw [← hwk] at HWR HK
      have HA5 : Hid (EvsAt w5 pa l) := evs_ks HA4.out HK.out (fun b f hb hn => by
        have h1 := HA0.out
        rcases h1 with h1 | ⟨b', f', e, hlb, _⟩
        · exact absurd h1 hn
        · rw [e] at hb
          simp only [Option.some.injEq, Addr.mk.injEq, and_true] at hb
          have := hb.1
          omega)
      have HX5 : Hid (w5.heap[gx]? = some (.cells (evCells (l ++ ends)).toArray 33)) := (HK.out.block gx (heap_lt HX4.out) hne3).trans HX4.out
      have HW5 : Hid (w5.heap[gw]? = some (.cells ((tally s l).map (Value.int .i64)).toArray 3)) := HWR.out
      have HZ5 : Hid (Below w.heap.size w w5) := HZ4.out.trans (HK.out.below (fun b hb => by omega) HZ4.out.size)
      clear hwk HC HCM HK HWR bk
      go_wp2_with fail
      rw [rounds_succ]
      go_wp2_with fail
      refine (lines_any s l _ _ w5 hs (evs_lent HX5.out) hl).mono ?_
      rintro _ w6 ⟨gc5, rfl, b6, hgc5, hr5, _, hlen5⟩
      have HR6 : Hid (w6.heap[gc5]? = some (.cells ((tally s l).map (Value.int .i64)).toArray 3)) := hr5
      have hne5 : gx ≠ gc5 := fun q => by have := heap_lt HX5.out; omega
      have hnw5 : gw ≠ gc5 := fun q => by have := heap_lt HW5.out; omega
      have hgz5 : w.heap.size ≤ gc5 := by have := HZ5.out.size; omega
      have hgl5 : gc5 < w6.heap.size := heap_lt hr5
      clear hr5
      have HA6 : Hid (EvsAt w6 pa l) := (HA5.out).below b6 (Nat.le_refl _)
      have HX6 : Hid (w6.heap[gx]? = some (.cells (evCells (l ++ ends)).toArray 33)) := blk HX5.out b6
      have HW6 : Hid (w6.heap[gw]? = some (.cells ((tally s l).map (Value.int .i64)).toArray 3)) := blk HW5.out b6
      have HZ6 : Hid (Below w.heap.size w w6) := HZ5.out.trans (b6.mono HZ5.out.size)
      clear b6
      go_wp2_with fail
      have HI6 : Hid (IRel s l gc5 w6 (.int .i64 0) w6) := ⟨0, rfl, Nat.zero_le _, KS.refl _ _, tally s l, HR6.out, rfl, fun _ _ => rfl⟩
      go_loopw [10] (fun i wr => IRel s l gc5 w6 i wr) (fun i _ => (tally s l).length - (intOf i).toNat)
      case atStart => exact HI6.out
      case round =>
        obtain ⟨m, rfl, hm, hk, cs, hcs, hcl, hcm⟩ := hrel
        have HK : Hid (KS (· = gc5) w6 wr) := hk
        have HC : Hid (wr.heap[gc5]? = some (.cells (cs.map (Value.int .i64)).toArray 3)) := hcs
        have HCM : Hid (∀ n, m ≤ n → cs[n]? = (tally s l)[n]?) := hcm
        have hwr := (hk.block gw (heap_lt HW6.out) hnw5).trans HW6.out
        have HWR : Hid _ := hwr
        clear hk hcs hcm hwr
        by_cases hlt : m < (tally s l).length
        · have i1 : (m : Int) < (nf s.data.toList s.size : Int) + 1 := by rw [hlen5] at hlt; omega
          have i2 : m < nf s.data.toList s.size + 1 := by rw [hlen5] at hlt; omega
          obtain ⟨x, hx⟩ : ∃ x, (tally s l)[m]? = some x := ⟨_, List.getElem?_eq_getElem hlt⟩
          have c1 := (cells_of HC.out).1 m
          rw [show (cs.map (Value.int .i64)).toArray[m]? = some (.int .i64 x) by rw [List.getElem?_toArray, List.getElem?_map, HCM.out m (Nat.le_refl _), hx]; rfl] at c1
          have f1 := (cells_of HC.out).2
          have c2 := (cells_of HWR.out).1 m
          rw [show ((tally s l).map (Value.int .i64)).toArray[m]? = some (.int .i64 x) by rw [List.getElem?_toArray, List.getElem?_map, hx]; rfl] at c2
          have hLb : m < 60002 := by have := hnl; omega
          clear hx
          go_wp2_with fail
          go_quiet (fail)
          obtain ⟨V, hV⟩ : ∃ W, W = wr.drewN nq := ⟨_, rfl⟩
          rw [← hV]
          have hVh : ∀ b : Nat, V.heap[b]? = wr.heap[b]? := fun b => by rw [hV]; rfl
          have hVc : V.heap[gc5]? = some (.cells (cs.map (Value.int .i64)).toArray 3) := (hVh _).trans HC.out
          have hkV : KS (· = gc5) w6 V := HK.out.trans (KS.of (S := (· = gc5)) (by rw [hV]; exact below_drewN (Below.refl _ _) _)) (fun _ _ q => q)
          have d1 := (cells_of hVc).1 m
          rw [show (cs.map (Value.int .i64)).toArray[m]? = some (.int .i64 x) by rw [← (cells_of HC.out).1]; exact c1] at d1
          have e1 := (cells_of hVc).2
          have HF : Hid (IRel s l gc5 w6 (.int .i64 ((m : Int) + 1)) (V.setCell ⟨gc5, m, none⟩ (.int .i64 (-9)))) := by
            refine ⟨m + 1, by simp, hlt, hkV.trans (KS.set (· = gc5) _ _ _ _ rfl) (fun _ _ q => q), cs.set m (-9), ?_, by simpa using hcl, fun n hn => ?_⟩
            · have h1 := heap_set hVc m (.int .i64 (-9))
              rw [map_set_int] at h1
              exact h1
            · rw [List.getElem?_set_ne (by omega)]; exact HCM.out n (by omega)
          clear hV hVh hVc hkV c1 c2 f1
          go_wp2_with fail
          exact ⟨HF.out, by simp [intOf]; omega⟩
        · have hml : m = (tally s l).length := by omega
          have i1 : ¬ (m : Int) < (nf s.data.toList s.size : Int) + 1 := by rw [hlen5] at hml; omega
          have i2 : ¬ m < nf s.data.toList s.size + 1 := by rw [hlen5] at hml; omega
          have bk : Below w6.heap.size w6 w6 := Below.refl _ _
          obtain ⟨w7, hwk⟩ : ∃ W, W = wr := ⟨_, rfl⟩
          rw [← hwk]
          rw [← hwk] at HWR HK
          have HA7 : Hid (EvsAt w7 pa l) := evs_ks HA6.out HK.out (fun b f hb hn => by
            have h1 := HA0.out
            rcases h1 with h1 | ⟨b', f', e, hlb, _⟩
            · exact absurd h1 hn
            · rw [e] at hb
              simp only [Option.some.injEq, Addr.mk.injEq, and_true] at hb
              have := hb.1
              omega)
          have HX7 : Hid (w7.heap[gx]? = some (.cells (evCells (l ++ ends)).toArray 33)) := (HK.out.block gx (heap_lt HX6.out) hne5).trans HX6.out
          have HW7 : Hid (w7.heap[gw]? = some (.cells ((tally s l).map (Value.int .i64)).toArray 3)) := HWR.out
          have HZ7 : Hid (Below w.heap.size w w7) := HZ6.out.trans (HK.out.below (fun b hb => by omega) HZ6.out.size)
          clear hwk HC HCM HK HWR bk
          go_wp2_with fail
          rw [rounds_succ]
          go_wp2_with fail
          refine (still_any l pa ca gx w7 HA7.out hl HX7.out).mono ?_
          rintro _ w8 ⟨rfl, b8⟩
          have HZ8 : Hid (Below w.heap.size w w8) := HZ7.out.trans (b8.mono HZ7.out.size)
          clear b8
          go_wp2_with fail
          go_ret
          exact ⟨rfl, HZ8.out⟩
theorem linesLaw_any (s : ByteArray) (l : List Ev) (pa : Option Addr) (ca : Nat) (w : World) (ha : EvsAt w pa l) (hl : l.length * 32 ≤ 140737488355328) (_hc : l.length ≤ ca) (htab : Tab w) :
    Calls Tryd.prog 4 #[.string s, .slice pa l.length ca] w fun r w' => r = .returned (.bool true) ∧ Below w.heap.size w w' := by
  rcases Nat.lt_or_ge 60000 s.size with h | h
  · exact linesLaw_big s l pa ca w ha hl h htab
  · exact linesLaw_small s l pa ca w ha hl h htab
end Go.Proofs.YtapakbibofnhkaaDoor
