/-
  The document's Lines.
-/
import Derived.Test.YtapakbibofnhkaaDoorJ
namespace Go.Proofs.YtapakbibofnhkaaDoor
open Go.RowKit Go.ChangeMaps

/-- The lines of the first places are written down. -/
def lineRow (s : ByteArray) (i : Nat) : List Int := (List.range (s.size + 1)).map fun j => if j < i then (nf s.data.toList j : Int) else 0
theorem lineRow_len (s : ByteArray) (i : Nat) : (lineRow s i).length = s.size + 1 := by simp [lineRow]
theorem lineRow_set (s : ByteArray) (i : Nat) : (lineRow s i).set i (nf s.data.toList i : Int) = lineRow s (i + 1) := by
  apply List.ext_getElem
  · simp [lineRow]
  · intro j h1 h2
    rw [List.getElem_set]
    simp only [lineRow, List.getElem_map, List.getElem_range]
    by_cases h : i = j
    · subst h; simp
    · rw [if_neg h]
      by_cases h3 : j < i
      · rw [if_pos h3, if_pos (by omega)]
      · rw [if_neg h3, if_neg (by omega)]
theorem lineRow_get (s : ByteArray) (i j : Nat) (hj : j < i) (hi : i ≤ s.size + 1) : (lineRow s i)[j]? = some (nf s.data.toList j : Int) := by
  have h : j < (lineRow s i).length := by rw [lineRow_len]; omega
  rw [List.getElem?_eq_getElem h]
  simp [lineRow, hj]
theorem lineRow_some (s : ByteArray) (i j : Nat) (hj : j < s.size + 1) : ∃ x, ((lineRow s i).map (Value.int .i64)).toArray[j]? = some x := by
  have h : j < ((lineRow s i).map (Value.int .i64)).toArray.size := by simp [lineRow_len, hj]
  exact ⟨_, Array.getElem?_eq_getElem h⟩
theorem lineRow_zero (s : ByteArray) : lineRow s 0 = List.replicate (s.size + 1) 0 := by
  apply List.ext_getElem
  · simp [lineRow]
  · intro j h1 h2; simp [lineRow]
theorem map_set_int (cs : List Int) (i : Nat) (x : Int) : (cs.map (Value.int .i64)).toArray.setIfInBounds i (.int .i64 x) = ((cs.set i x).map (Value.int .i64)).toArray := by simp [List.map_set]
/-- Behind so many bytes. -/
def LRel (s : ByteArray) (w : World) (n i : Value) (wr : World) : Prop := ∃ k : Nat, i = .int .i64 k ∧ n = .int .i64 (nf s.data.toList k : Int) ∧ k ≤ s.size ∧ Below w.heap.size w wr ∧ wr.heap.size = w.heap.size + 1 ∧ wr.heap[w.heap.size]? = some (.cells ((lineRow s k).map (Value.int .i64)).toArray 3)
/-- Behind so many events. -/
def TRel (s : ByteArray) (l : List Ev) (w : World) (o : Nat) (i : Value) (wr : World) : Prop := ∃ k : Nat, i = .int .i64 k ∧ k ≤ l.length ∧ Below w.heap.size w wr ∧ wr.heap[w.heap.size]? = some (.cells ((lineRow s (s.size + 1)).map (Value.int .i64)).toArray 3) ∧ wr.heap[o]? = some (.cells ((tally s (l.take k)).map (Value.int .i64)).toArray 3) ∧ (∀ x ∈ tally s (l.take k), 0 ≤ x ∧ x ≤ (k : Int)) ∧ (tally s (l.take k)).length = nf s.data.toList s.size + 1

set_option maxRecDepth 100000 in
set_option maxHeartbeats 4000000 in
theorem refLines_big (s : ByteArray) (v : Value) (w : World) (hs : 60000 < s.size) : Calls Tryd.prog 12 #[.string s, v] w fun r w' => r = .returned (.slice none 0 0) ∧ w' = w := by
  have i1 : (60000 : Int) < s.size := by omega
  go_enter Tryd.func12, Tryd.ntmps12
  go_wp2_with fail
  go_ret
  exact ⟨rfl, rfl⟩

set_option maxRecDepth 100000 in
set_option maxHeartbeats 4000000 in
theorem refLines_any (s : ByteArray) (l : List Ev) (pp : Option Addr) (c : Nat) (w : World) (hs : s.size ≤ 60000) (he : EvsAt w pp l) (hl : l.length * 32 ≤ 140737488355328) :
    Calls Tryd.prog 12 #[.string s, .slice pp l.length c] w fun r w' => ∃ gc, r = .returned (.slice (some ⟨gc, 0, none⟩) (nf s.data.toList s.size + 1) (nf s.data.toList s.size + 1)) ∧ Below w.heap.size w w' ∧ w.heap.size ≤ gc ∧ w'.heap[gc]? = some (.cells ((tally s l).map (Value.int .i64)).toArray 3) := by
  have i1 : ¬ (60000 : Int) < s.size := by omega
  have HE : Hid (EvsAt w pp l) := he
  clear he
  have hmk0 := mk_ints (s.size + 1) (by omega)
  rw [show ((s.size + 1 : Nat) : Int) = (s.size : Int) + 1 by omega, ← lineRow_zero] at hmk0
  have HMK : Hid _ := hmk0 w
  have hmk := hmk0 w
  clear hmk0
  go_enter Tryd.func12, Tryd.ntmps12
  go_wp2_with fail
  obtain ⟨U, hU⟩ : ∃ W, W = w.alloc (.cells ((lineRow s 0).map (Value.int .i64)).toArray 3) := ⟨_, rfl⟩
  rw [← hU]
  have u0 : Below w.heap.size w U := by rw [hU]; exact below1 w _
  have us : U.heap.size = w.heap.size + 1 := by rw [hU]; simp
  have ub : U.heap[w.heap.size]? = some (.cells ((lineRow s 0).map (Value.int .i64)).toArray 3) := by rw [hU]; exact heap_alloc_new _ _
  have HU : Hid (Below w.heap.size w U ∧ U.heap.size = w.heap.size + 1 ∧ U.heap[w.heap.size]? = some (.cells ((lineRow s 0).map (Value.int .i64)).toArray 3)) := ⟨u0, us, ub⟩
  clear hU u0 us ub hmk
  go_loopw [6, 7] (fun n i wr => LRel s w n i wr) (fun _ i _ => s.size - (intOf i).toNat)
  case atStart => exact ⟨0, rfl, by simp [nf, feedsFrom], Nat.zero_le _, HU.out⟩
  case round =>
    obtain ⟨k, rfl, rfl, hk, hbr, hsz, hgl⟩ := hrel
    have HW : Hid (Below w.heap.size w wr ∧ wr.heap.size = w.heap.size + 1 ∧ wr.heap[w.heap.size]? = some (.cells ((lineRow s k).map (Value.int .i64)).toArray 3)) := ⟨hbr, hsz, hgl⟩
    have hlt0 : w.heap.size < wr.heap.size := by omega
    have hnk : nf s.data.toList k ≤ 60000 := by have := feedsFrom_len (s.data.toList.take k) 0; unfold nf; simp at this; omega
    obtain ⟨y, hy⟩ := lineRow_some s k k (by omega)
    have ck := ((cells_of hgl).1 k).trans hy
    have fk := (cells_of hgl).2
    have HS : Hid _ := lineRow_set s k
    clear hbr hsz hgl hy
    by_cases hlt : k < s.size
    · have i2 : (k : Int) < s.size := by omega
      have i3 : (k : Int) < s.size + 1 := by omega
      have HE2 : Hid _ := nf_stepS s k hlt
      have HF : Hid (∀ n : Value, n = .int .i64 (nf s.data.toList (k + 1) : Int) → LRel s w n (.int .i64 ((k : Int) + 1)) (wr.setCell ⟨w.heap.size, k, none⟩ (.int .i64 (nf s.data.toList k : Int)))) := by
        intro n hn
        refine ⟨k + 1, by simp, hn, hlt, HW.out.1.setCell (p := ⟨w.heap.size, k, none⟩) (Nat.le_refl _) _, by simpa using HW.out.2.1, ?_⟩
        have h1 := heap_set HW.out.2.2 k (.int .i64 (nf s.data.toList k : Int))
        rw [map_set_int, HS.out] at h1
        exact h1
      by_cases hten : s[k] = 10
      · have t2 : s[k].toNat = 10 := by rw [hten]; rfl
        rw [if_pos hten] at HE2
        have HN : Hid (nf s.data.toList (k + 1) = nf s.data.toList k + 1) := by show _ = _; unfold nf; rw [HE2.out]; simp
        clear hten
        go_wp2_with fail
        refine ⟨HF.out _ (by rw [HN.out]; simp), by simp [intOf]; omega⟩
      · have t2 : ¬ s[k].toNat = 10 := fun q => hten (UInt8.toNat_inj.1 q)
        rw [if_neg hten, List.append_nil] at HE2
        have HN : Hid (nf s.data.toList (k + 1) = nf s.data.toList k) := by show _ = _; unfold nf; rw [HE2.out]
        clear hten
        go_wp2_with fail
        refine ⟨HF.out _ (by rw [HN.out]), by simp [intOf]; omega⟩
    · obtain rfl : k = s.size := by omega
      have i3 : (s.size : Int) < s.size + 1 := by omega
      have hmk0 := mk_ints (nf s.data.toList s.size + 1) (by omega)
      rw [show ((nf s.data.toList s.size + 1 : Nat) : Int) = (nf s.data.toList s.size : Int) + 1 by omega] at hmk0
      obtain ⟨V, hV⟩ : ∃ W, W = wr.setCell ⟨w.heap.size, s.size, none⟩ (.int .i64 (nf s.data.toList s.size : Int)) := ⟨_, rfl⟩
      have hmk := hmk0 V
      clear hmk0
      rw [hV] at hmk
      go_wp2_with fail
      obtain ⟨X, hX⟩ : ∃ W, W = (wr.setCell ⟨w.heap.size, s.size, none⟩ (.int .i64 (nf s.data.toList s.size : Int))).alloc (.cells (Array.replicate (nf s.data.toList s.size + 1) (.int .i64 0)) 3) := ⟨_, rfl⟩
      rw [← hX]
      have x0 : Below w.heap.size w X := by rw [hX]; exact (HW.out.1.setCell (p := ⟨w.heap.size, s.size, none⟩) (Nat.le_refl _) _).alloc (by simp; omega) _
      have x1 : X.heap[w.heap.size]? = some (.cells ((lineRow s (s.size + 1)).map (Value.int .i64)).toArray 3) := by
        have h1 := heap_set HW.out.2.2 s.size (.int .i64 (nf s.data.toList s.size : Int))
        rw [map_set_int, HS.out] at h1
        rw [hX]
        exact (heap_old _ _ _ (by simpa using hlt0)).trans h1
      have x2 : X.heap[wr.heap.size]? = some (.cells ((tally s (l.take 0)).map (Value.int .i64)).toArray 3) := by
        have h1 := heap_alloc_new (wr.setCell ⟨w.heap.size, s.size, none⟩ (.int .i64 (nf s.data.toList s.size : Int))) (.cells (Array.replicate (nf s.data.toList s.size + 1) (.int .i64 0)) 3)
        rw [show (wr.setCell ⟨w.heap.size, s.size, none⟩ (.int .i64 (nf s.data.toList s.size : Int))).heap.size = wr.heap.size by simp] at h1
        rw [hX, h1]
        simp [tally]
      have HX : Hid (TRel s l w wr.heap.size (.int .i64 0) X) := ⟨0, rfl, Nat.zero_le _, x0, x1, x2, fun x hx => by have := List.eq_of_mem_replicate hx; omega, by simp [tally]⟩
      obtain ⟨o, ho⟩ : ∃ o, wr.heap.size = o := ⟨_, rfl⟩
      rw [ho] at HX ⊢
      have hwo : w.heap.size < o := by omega
      obtain ⟨m, hm⟩ : ∃ m, nf s.data.toList s.size = m := ⟨_, rfl⟩
      have HM : Hid (nf s.data.toList s.size = m) := hm
      have hmm : m ≤ 60000 := by omega
      rw [hm]
      clear hX x0 x1 x2 HW HS hmk hV V HMK ck fk HU ho hlt0 hnk hm
      go_loopw [9] (fun i wr => TRel s l w o i wr) (fun i _ => l.length - (intOf i).toNat)
      case atStart => exact HX.out
      case round =>
        obtain ⟨k, rfl, hk, hbr, hgl, hgo, hfit, hlen⟩ := hrel
        have HR : Hid (Below w.heap.size w wr ∧ wr.heap[w.heap.size]? = some (.cells ((lineRow s (s.size + 1)).map (Value.int .i64)).toArray 3) ∧ wr.heap[o]? = some (.cells ((tally s (l.take k)).map (Value.int .i64)).toArray 3) ∧ (∀ x ∈ tally s (l.take k), 0 ≤ x ∧ x ≤ (k : Int)) ∧ (tally s (l.take k)).length = nf s.data.toList s.size + 1) := ⟨hbr, hgl, hgo, hfit, hlen⟩
        clear hbr hgl hgo hfit hlen
        by_cases hlt : k < l.length
        · have i2 : (k : Int) < l.length := by omega
          have kb : (k : Int) < 4611686018427387904 := by omega
          obtain ⟨b0, f0, rfl, hb0, hce⟩ := (HE.out.below HR.out.1 (Nat.le_refl _)).nonempty (by omega)
          obtain ⟨q0, q1, q2⟩ := hce k hlt
          clear hce q2
          have HT : Hid _ := tally_snoc s l k hlt
          generalize l[k] = e at q0 q1 HT
          have HSAME : Hid (hit s e = false → TRel s l w o (.int .i64 ((k : Int) + 1)) wr) := by
            intro hf
            have ht := HT.out
            rw [if_neg (by rw [hf]; simp)] at ht
            refine ⟨k + 1, by simp, hlt, HR.out.1, HR.out.2.1, ?_, ?_, ?_⟩
            · rw [ht]; exact HR.out.2.2.1
            · rw [ht]; exact fun x hx => by have := HR.out.2.2.2.1 x hx; omega
            · rw [ht]; exact HR.out.2.2.2.2
          by_cases h1 : e.k = 1
          · by_cases h2 : 0 ≤ e.a
            · by_cases h3 : e.a ≤ (s.size : Int)
              · have hh : hit s e = true := by simp [hit, h1, h2, h3]
                obtain ⟨a, ha⟩ : ∃ a : Nat, e.a = (a : Int) := ⟨e.a.toNat, by omega⟩
                have ht := HT.out
                rw [if_pos hh, ha, Int.toNat_natCast] at ht
                have hml : nf s.data.toList a ≤ nf s.data.toList s.size := by have := nf_mono s.data.toList a; simpa using this
                have hlen := HR.out.2.2.2.2
                have hmc : nf s.data.toList a < (tally s (l.take k)).length := by omega
                have hx := HR.out.2.2.2.1 _ (List.getElem_mem hmc)
                obtain ⟨x, hxe⟩ : ∃ x, (tally s (l.take k))[nf s.data.toList a] = x := ⟨_, rfl⟩
                rw [hxe] at hx
                have cx := (cells_of HR.out.2.2.1).1 (nf s.data.toList a)
                rw [show ((tally s (l.take k)).map (Value.int .i64)).toArray[nf s.data.toList a]? = some (.int .i64 x) by rw [← hxe]; simp [hmc]] at cx
                have fx := (cells_of HR.out.2.2.1).2
                have cy := (cells_of HR.out.2.1).1 a
                rw [show ((lineRow s (s.size + 1)).map (Value.int .i64)).toArray[a]? = some (.int .i64 (nf s.data.toList a : Int)) by
                  have h5 := lineRow_get s (s.size + 1) a (by omega) (Nat.le_refl _)
                  rw [List.getElem?_toArray, List.getElem?_map, h5]; rfl] at cy
                have HF : Hid (TRel s l w o (.int .i64 ((k : Int) + 1)) (wr.setCell ⟨o, nf s.data.toList a, none⟩ (.int .i64 (x + 1)))) := by
                  have hb : bump (tally s (l.take k)) (nf s.data.toList a) = (tally s (l.take k)).set (nf s.data.toList a) (x + 1) := by
                    unfold bump; rw [List.getD_eq_getElem?_getD, List.getElem?_eq_getElem hmc, hxe]; rfl
                  refine ⟨k + 1, by simp, hlt, HR.out.1.setCell (p := ⟨o, nf s.data.toList a, none⟩) (Nat.le_of_lt hwo) _, (heap_set_other _ _ _ _ _ (by omega)).trans HR.out.2.1, ?_, ?_, ?_⟩
                  · rw [ht, hb, ← map_set_int]; exact heap_set HR.out.2.2.1 _ _
                  · rw [ht]; intro z hz; have := bump_fit HR.out.2.2.2.1 (by omega) _ z hz; omega
                  · rw [ht, hb, List.length_set]; exact hlen
                have hM := HM.out
                generalize hna : nf s.data.toList a = na at *
                have j1 : (na : Int) < (m : Int) + 1 := by omega
                have j2 : (a : Int) < (s.size : Int) + 1 := by omega
                rw [ha] at q1 h2 h3
                clear ht hh hxe hM hmc hml hlen HT HSAME HM hna
                go_wp2_with fail
                exact ⟨HF.out, by simp [intOf]; omega⟩
              · have HZ := HSAME.out (by simp [hit, h1, h2, h3])
                have HF : Hid (TRel s l w o (.int .i64 ((k : Int) + 1)) wr) := HZ
                clear HZ HT HSAME
                go_wp2_with fail
                exact ⟨HF.out, by simp [intOf]; omega⟩
            · have HZ := HSAME.out (by simp [hit, h1, h2])
              have HF : Hid (TRel s l w o (.int .i64 ((k : Int) + 1)) wr) := HZ
              clear HZ HT HSAME
              go_wp2_with fail
              exact ⟨HF.out, by simp [intOf]; omega⟩
          · have HZ := HSAME.out (by simp [hit, h1])
            have HF : Hid (TRel s l w o (.int .i64 ((k : Int) + 1)) wr) := HZ
            clear HZ HT HSAME
            go_wp2_with fail
            exact ⟨HF.out, by simp [intOf]; omega⟩
        · obtain rfl : k = l.length := by omega
          have HR2 := HR.out
          rw [List.take_length] at HR2
          have HR3 : Hid _ := HR2
          clear HR2
          go_wp2_with fail
          go_ret
          exact ⟨o, by rw [HM.out]; rfl, HR3.out.1, Nat.le_of_lt hwo, HR3.out.2.2.1⟩
end Go.Proofs.YtapakbibofnhkaaDoor
