/-
  The line feeds of a text: the plain function; trace.pageOf.
-/
import Derived.Test.YtapakbibofnhkaaDoorF
import Derived.Maps.AppendAt
namespace Go.Proofs.YtapakbibofnhkaaDoor
open Go.RowKit Go.ChangeMaps

/-- The places of the line feeds. -/
def feedsFrom : List UInt8 → Nat → List Int
  | [], _ => []
  | c :: r, i => if c = 10 then (i : Int) :: feedsFrom r (i + 1) else feedsFrom r (i + 1)
theorem feedsFrom_app : ∀ (a b : List UInt8) (i : Nat), feedsFrom (a ++ b) i = feedsFrom a i ++ feedsFrom b (i + a.length)
  | [], b, i => by simp [feedsFrom]
  | c :: a, b, i => by
    have ih := feedsFrom_app a b (i + 1)
    simp only [List.cons_append, feedsFrom, ih, List.length_cons, show i + 1 + a.length = i + (a.length + 1) by omega]
    split <;> simp
theorem feedsFrom_in : ∀ (a : List UInt8) (i : Nat) (x : Int), x ∈ feedsFrom a i → (i : Int) ≤ x ∧ x < i + a.length
  | [], i, x, h => by cases h
  | c :: a, i, x, h => by
    simp only [feedsFrom] at h
    simp only [List.length_cons]
    split at h
    · rcases List.mem_cons.1 h with rfl | h
      · omega
      · have := feedsFrom_in a (i + 1) x h; omega
    · have := feedsFrom_in a (i + 1) x h; omega
theorem feedsFrom_sorted : ∀ (a : List UInt8) (i : Nat), (feedsFrom a i).Pairwise (· ≤ ·)
  | [], i => List.Pairwise.nil
  | c :: a, i => by
    simp only [feedsFrom]
    split
    · exact List.Pairwise.cons (fun x hx => by have := feedsFrom_in a (i + 1) x hx; omega) (feedsFrom_sorted a (i + 1))
    · exact feedsFrom_sorted a (i + 1)
theorem feedsFrom_len : ∀ (a : List UInt8) (i : Nat), (feedsFrom a i).length ≤ a.length
  | [], i => Nat.le_refl _
  | c :: a, i => by
    have := feedsFrom_len a (i + 1)
    simp only [feedsFrom]
    split <;> simp <;> omega
/-- How many of the first bytes are line feeds. -/
def nf (bs : List UInt8) (k : Nat) : Nat := (feedsFrom (bs.take k) 0).length
theorem nf_step (bs : List UInt8) (k : Nat) (hk : k < bs.length) : feedsFrom (bs.take (k + 1)) 0 = feedsFrom (bs.take k) 0 ++ (if bs[k] = 10 then [(k : Int)] else []) := by
  rw [List.take_succ_eq_append_getElem hk, feedsFrom_app]
  have : (bs.take k).length = k := by simp; omega
  simp only [this, Nat.zero_add, feedsFrom]
theorem nf_stepS (s : ByteArray) (k : Nat) (hk : k < s.size) : feedsFrom (s.data.toList.take (k + 1)) 0 = feedsFrom (s.data.toList.take k) 0 ++ (if s[k] = 10 then [(k : Int)] else []) := nf_step s.data.toList k (by simpa using hk)
theorem nf_mono (bs : List UInt8) (k : Nat) : nf bs k ≤ nf bs bs.length := by
  unfold nf
  rw [List.take_length]
  have h := feedsFrom_app (bs.take k) (bs.drop k) 0
  rw [List.take_append_drop] at h
  rw [h, List.length_append]; omega
theorem countP_nf (bs : List UInt8) (a : Int) (h0 : 0 ≤ a) (h1 : a ≤ bs.length) : (feedsFrom bs 0).countP (· < a) = nf bs a.toNat := by
  have h := feedsFrom_app (bs.take a.toNat) (bs.drop a.toNat) 0
  rw [List.take_append_drop] at h
  have hl : (bs.take a.toNat).length = a.toNat := by simp; omega
  rw [h, List.countP_append, nf]
  have e1 : (feedsFrom (bs.take a.toNat) 0).countP (· < a) = (feedsFrom (bs.take a.toNat) 0).length := List.countP_eq_length.2 fun x hx => by
    have := feedsFrom_in _ _ _ hx
    rw [hl] at this
    simp; omega
  have e2 : (feedsFrom (bs.drop a.toNat) (0 + (bs.take a.toNat).length)).countP (· < a) = 0 := List.countP_eq_zero.2 fun x hx => by
    have := feedsFrom_in _ _ _ hx
    rw [hl] at this
    simp; omega
  omega

theorem own_kept {w w' : World} {base : Nat} {e : TypeId} {size : Nat} {v : Value} {n : Nat} {xs : List Value} (h : w.ownsRow base e size v n xs) (hb : ∀ g, v.ownBlock = some g → w'.heap[g]? = w.heap[g]?) : w'.ownsRow base e size v n xs := by
  refine ⟨h.1, ?_⟩
  rcases h.2 with h2 | ⟨g, cap, cur, hv, hg, hh, r⟩
  · exact .inl h2
  · exact .inr ⟨g, cap, cur, hv, hg, by rw [hb g (by rw [hv]; rfl)]; exact hh, r⟩
theorem own_mono {w : World} {base base' : Nat} {e : TypeId} {size : Nat} {v : Value} {n : Nat} {xs : List Value} (h : w.ownsRow base e size v n xs) (hb : base' ≤ base) : w.ownsRow base' e size v n xs := by
  refine ⟨h.1, ?_⟩
  rcases h.2 with h2 | ⟨g, cap, cur, hv, hg, r⟩
  · exact .inl h2
  · exact .inr ⟨g, cap, cur, hv, by omega, r⟩
theorem own_slice {w : World} {base : Nat} {e : TypeId} {size : Nat} {v : Value} {n : Nat} {xs : List Value} (h : w.ownsRow base e size v n xs) : ∃ p c, v = .slice p n c := by
  rcases h.2 with ⟨rfl, rfl⟩ | ⟨g, cap, cur, rfl, _⟩
  · exact ⟨_, _, rfl⟩
  · exact ⟨_, _, rfl⟩
theorem own_below {w w' : World} {base B : Nat} {e : TypeId} {size : Nat} {v : Value} {n : Nat} {xs : List Value} (h : w.ownsRow base e size v n xs) (hb : Below B w w') (hB : w.heap.size ≤ B) : w'.ownsRow base e size v n xs :=
  own_kept h fun g hg => hb.block g (by have := (h.lt g hg).2; omega)
theorem own_cells {w : World} {base : Nat} {e : TypeId} {size : Nat} {g n cap : Nat} {xs : List Value} (h : w.ownsRow base e size (.slice (some ⟨g, 0, none⟩) n cap) n xs) (j : Nat) (v : Value) (hj : xs[j]? = some v) : w.cell? ⟨g, j, none⟩ = some v ∧ w.frozen? ⟨g, j, none⟩ = false := by
  obtain ⟨hlen, h2⟩ := h
  rcases h2 with ⟨h0, _⟩ | ⟨g', cap', cur, h1, h2, h3, h4, h5, h6, h7⟩
  · cases h0
  · cases h1
    have hjl : j < xs.length := (List.getElem?_eq_some_iff.1 hj).1
    have hc : cur[j]? = some v := by
      rw [← Array.getElem?_toList, ← hj, ← h7, List.getElem?_take, if_pos]
      rw [← h7, List.length_take] at hjl
      omega
    exact ⟨by simp [World.cell?, h3, hc], by simp [World.frozen?, h3]⟩
theorem info3 : (Tryd.prog.info? 3).map (fun i => (i.zero, i.size, i.bytes)) = some (some (.int .i64 0), 1, 8) := by kernel_rfl
/-- A row of zeros is made. -/
theorem mk_ints (n : Nat) (hn : n ≤ 1048576) (W : World) : (Instr.makeSlice 27 (.int .i64 (n : Int)) (.int .i64 (n : Int))).run Tryd.prog W = .ok (.slice (some ⟨W.heap.size, 0, none⟩) n n) (W.alloc (.cells ((List.replicate n (0 : Int)).map (Value.int .i64)).toArray 3)) := by
  obtain ⟨i0, hi, hz0, hz1, hz2⟩ := info_parts info3
  have h := run_make (P := Tryd.prog) W 27 3 i0 (.int .i64 0) Tryd.underlying27 hi hz0 .i64 .i64 (n : Int) (n : Int) (by omega) (by omega) (by rw [hz2]; omega) (by omega)
  have e : madeCells (Value.int .i64 0).cells (((n : Nat) : Int).toNat * i0.size) = ((List.replicate n (0 : Int)).map (Value.int .i64)).toArray := by
    rw [hz1]
    apply Array.ext_getElem?
    intro j
    have hc : (Value.int .i64 0).cells = #[.int .i64 0] := by kernel_rfl
    rw [hc]
    by_cases hj : j < n
    · simp [madeCells, hj, Nat.mod_one]
    · simp [madeCells, hj]
  rw [e] at h
  simpa using h
/-- The line feeds so far are gathered. -/
def PRel (s : ByteArray) (w : World) (i : Value) (wr : World) : Prop := ∃ (k : Nat) (fv : Value), i = .int .i64 k ∧ k ≤ s.size ∧ Below w.heap.size w wr ∧ wr.heap[w.heap.size]? = some (.cells #[.int .i64 (s.size : Int), fv, .slice none 0 0] 47) ∧ wr.ownsRow (w.heap.size + 1) 3 1 fv (nf s.data.toList k) ((feedsFrom (s.data.toList.take k) 0).map (Value.int .i64))
/-- A page: the text's length, its line feeds, the counts. -/
structure PageAt (B : Nat) (pb gc : Nat) (fv : Value) (s : ByteArray) (cs : List Int) (w : World) : Prop where
  box : w.heap[pb]? = some (.cells #[.int .i64 (s.size : Int), fv, .slice (some ⟨gc, 0, none⟩) (nf s.data.toList s.size + 1) (nf s.data.toList s.size + 1)] 47)
  feeds : w.ownsRow B 3 1 fv (nf s.data.toList s.size) ((feedsFrom s.data.toList 0).map (Value.int .i64))
  row : w.heap[gc]? = some (.cells (cs.map (Value.int .i64)).toArray 3)
  pne : pb ≠ gc
  fne : fv.ownBlock ≠ some gc
  len : cs.length = nf s.data.toList s.size + 1

set_option maxRecDepth 100000 in
set_option maxHeartbeats 4000000 in
theorem pageOf_any (s : ByteArray) (hs : s.size ≤ 60000) (w : World) :
    Calls Tryd.prog 18 #[.string s] w fun r w' => ∃ gc fv, r = .returned (.pointer (some ⟨w.heap.size, 0, none⟩)) ∧ Below w.heap.size w w' ∧ w.heap.size < gc ∧ PageAt (w.heap.size + 1) w.heap.size gc fv s (List.replicate (nf s.data.toList s.size + 1) 0) w' := by
  obtain ⟨i0, hi, hz0, hz1, hz2⟩ := info_parts info3
  have HMK : Hid _ := mk_ints
  go_enter Tryd.func18, Tryd.ntmps18
  go_wp2_with fail
  obtain ⟨U, hU⟩ : ∃ W, W = w.alloc (.cells #[.int .i64 (s.size : Int), .slice none 0 0, .slice none 0 0] 47) := ⟨_, rfl⟩
  rw [← hU]
  have u0 : Below w.heap.size w U := by rw [hU]; exact below1 w _
  have HB0 : Hid (U.heap[w.heap.size]? = some (.cells #[.int .i64 (s.size : Int), .slice none 0 0, .slice none 0 0] 47)) := by rw [hU]; exact heap_alloc_new _ _
  clear hU
  go_loopw [11] (fun i wr => PRel s w i wr) (fun i _ => s.size - (intOf i).toNat)
  case atStart => exact ⟨0, .slice none 0 0, rfl, Nat.zero_le _, u0, HB0.out, World.ownsRow_nil _ _ _ _⟩
  case round =>
    obtain ⟨k, fv, rfl, hk, hbr, hbx, hown⟩ := hrel
    have HW : Hid (Below w.heap.size w wr) := hbr
    have HX : Hid _ := hbx
    have HO : Hid (wr.ownsRow (w.heap.size + 1) 3 1 fv (nf s.data.toList k) ((feedsFrom (s.data.toList.take k) 0).map (Value.int .i64))) := hown
    have hsz := heap_lt hbx
    have hc := (cells_of hbx).1
    have hf := (cells_of hbx).2
    have hnk : nf s.data.toList k ≤ 60000 := by have := feedsFrom_len (s.data.toList.take k) 0; unfold nf; simp at this; omega
    clear hbr hbx hown
    by_cases hlt : k < s.size
    · have i2 : (k : Int) < s.size := by omega
      have HE : Hid _ := nf_stepS s k hlt
      by_cases hten : s[k] = 10
      · have t1 : (s[k].toNat : Int) = 10 := by rw [hten]; rfl
        have t2 : s[k].toNat = 10 := by rw [hten]; rfl
        rw [if_pos hten] at HE
        have HO2 := HO.out
        obtain ⟨fp, fc, hfv⟩ := own_slice HO2
        have hol := HO.out.lt
        have HN : Hid (nf s.data.toList (k + 1) = nf s.data.toList k + 1) := by show _ = _; unfold nf; rw [HE.out]; simp
        have HL : Hid ((feedsFrom (s.data.toList.take k) 0).map (Value.int .i64) ++ [.int .i64 (k : Int)] = (feedsFrom (s.data.toList.take (k + 1)) 0).map (Value.int .i64)) := by show _ = _; rw [HE.out, List.map_append]; rfl
        have HOL : Hid _ := hol
        clear HO2 hten t1 hol hfv
        go_wp2_with (at_builtin; refine wpList_append_own _ rfl _ _ 27 rfl (w.heap.size + 1) 3 i0 (.int .i64 0) 1 8 Tryd.underlying27 hi hz0 hz1 hz2 rfl (by decide) _ _ _ rfl (HO.out.alloc _) ⟨wr.heap.size, 0, none⟩ 1 1 [.int .i64 (k : Int)] rfl rfl (cell_one_new wr (.int .i64 (k : Int)) 3) (fun x hx => by simp at hx; subst hx; rfl) (by unfold maxLen; omega) (by omega) (by simp; omega) ?_; intro v' w3 hown3 hgr3 _; obtain ⟨vp, vc, rfl⟩ := own_slice hown3; have HB3 : Hid (Below w.heap.size w w3) := (Below.grown (HW.out.alloc (Nat.le_of_lt hsz) _) hgr3 (by simp; omega) (fun j hj => by have := (HOL.out _ hj).1; omega)); have X3 : w3.heap[w.heap.size]? = some (.cells #[.int .i64 (s.size : Int), fv, .slice none 0 0] 47) := (hgr3.block _ (by simp; omega) (fun q => by have := (HOL.out _ q.symm).1; omega)).trans ((heap_old _ _ _ hsz).trans HX.out); have cc3 := (cells_of X3).1; have ff3 := (cells_of X3).2; have HX3 : Hid (w3.heap[w.heap.size]? = some (.cells #[.int .i64 (s.size : Int), fv, .slice none 0 0] 47)) := X3; have HO3 : Hid (w3.ownsRow (w.heap.size + 1) 3 1 (.slice vp (nf s.data.toList k + 1) vc) (nf s.data.toList k + 1) ((feedsFrom (s.data.toList.take k) 0).map (Value.int .i64) ++ [.int .i64 (k : Int)])) := hown3; clear hown3 hgr3 X3)
        refine ⟨⟨k + 1, .slice vp (nf s.data.toList k + 1) vc, by simp, hlt, HB3.out.setCell (p := ⟨w.heap.size, 1, none⟩) (Nat.le_refl _) _, heap_set HX3.out 1 _, ?_⟩, by simp [intOf]; omega⟩
        rw [HN.out, ← HL.out]
        exact own_kept HO3.out (fun g hg => heap_set_other _ _ _ _ _ (fun q => by have := (HO3.out.lt g hg).1; omega))
      · have t2 : ¬ s[k].toNat = 10 := fun q => hten (UInt8.toNat_inj.1 q)
        rw [if_neg hten, List.append_nil] at HE
        clear hten
        go_wp2_with fail
        refine ⟨⟨k + 1, fv, by simp, hlt, HW.out, HX.out, ?_⟩, by simp [intOf]; omega⟩
        have hO := HO.out
        unfold nf at hO ⊢
        rw [HE.out]; exact hO
    · obtain rfl : k = s.size := by omega
      obtain ⟨n, hn⟩ : ∃ n, n = nf s.data.toList s.size := ⟨_, rfl⟩
      have HO2 := HO.out
      rw [List.take_of_length_le (by simp), ← hn] at HO2
      have hmk := mk_ints (n + 1) (by omega)
      rw [show ((n + 1 : Nat) : Int) = (n : Int) + 1 by omega] at hmk
      obtain ⟨fp, fc, rfl⟩ := own_slice HO2
      have HOO : Hid _ := HO2
      have HNN : Hid _ := hn
      have hnn : n ≤ 60000 := by omega
      have hfw : ∀ g, (Value.slice fp n fc).ownBlock = some g → w.heap.size + 1 ≤ g ∧ g < wr.heap.size := HO2.lt
      have HFW : Hid _ := hfw
      clear HO2 hn HO HMK hnk hfw
      go_wp2_with fail
      go_ret
      have hb1 : Below w.heap.size w (wr.setCell ⟨w.heap.size, 2, none⟩ (.slice (some ⟨wr.heap.size, 0, none⟩) (n + 1) (n + 1))) := HW.out.setCell (p := ⟨w.heap.size, 2, none⟩) (Nat.le_refl _) _
      refine ⟨wr.heap.size, .slice fp n fc, rfl, hb1.alloc (by simp; omega) _, hsz, ?_⟩
      have hN : nf s.data.toList s.size = n := HNN.out.symm
      rw [hN]
      exact {
        box := by rw [hN]; exact (heap_old _ _ _ (by simpa using hsz)).trans (heap_set HX.out 2 _)
        feeds := by
          rw [hN]
          refine World.ownsRow.alloc (own_kept HOO.out (fun g hg => heap_set_other _ _ _ _ _ (fun q => ?_))) _
          have := (HFW.out g hg).1; omega
        row := by
          have h1 := heap_alloc_new (wr.setCell ⟨w.heap.size, 2, none⟩ (.slice (some ⟨wr.heap.size, 0, none⟩) (n + 1) (n + 1))) (.cells (Array.replicate (n + 1) (Value.int .i64 0)) 3)
          rw [show (wr.setCell ⟨w.heap.size, 2, none⟩ (.slice (some ⟨wr.heap.size, 0, none⟩) (n + 1) (n + 1))).heap.size = wr.heap.size by simp] at h1
          simpa using h1
        pne := by omega
        fne := fun q => by have := (HFW.out _ q).2; omega
        len := by rw [hN]; simp }
end Go.Proofs.YtapakbibofnhkaaDoor
