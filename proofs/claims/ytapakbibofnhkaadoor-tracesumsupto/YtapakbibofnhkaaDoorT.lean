/-
  The calls are written: writeText, written.
-/
import Derived.Test.YtapakbibofnhkaaDoorS
import Derived.Test.YtapakbibofnhkaaDoorQ
namespace Go.Proofs.YtapakbibofnhkaaDoor
open Go.RowKit Go.ChangeMaps

theorem below_grow (w : World) (q : Nat) (os : Array Obj) : Below w.heap.size w (Sort.grow (w.drewN q) os) :=
  ⟨rfl, rfl, rfl, by simp [Sort.grow, World.drewN], fun k hk => by
    show (w.heap ++ os)[k]? = w.heap[k]?
    rw [Array.getElem?_append_left hk]⟩
/-- The table that Itoa reads lies in memory. -/
def Tab (w : World) : Prop := Lib.TabIs Tryd.prog w "internal/strconv.uint64pow10" .u64 Lib.pow10Tab
theorem gTab : Tryd.prog.globalNamed "internal/strconv.uint64pow10" = some 0 := by kernel_rfl
theorem tab_size {w : World} (h : Tab w) : 0 < w.heap.size := by
  unfold Tab Lib.TabIs World.var? at h
  rw [gTab, Option.bind_some] at h
  split at h
  · rename_i e; exact (Array.getElem?_eq_some_iff.1 e).1
  · cases h
theorem Tab.below {w w' : World} {B : Nat} (h : Tab w) (hb : Below B w w') (hB : w.heap.size ≤ B) : Tab w' := by
  have hs := tab_size h
  unfold Tab Lib.TabIs World.var? at h ⊢
  rw [gTab, Option.bind_some] at h ⊢
  rw [hb.block 0 (by omega)]
  exact h
theorem itoa_b (n : Int) (h0 : -9223372036854775808 ≤ n) (h1 : n ≤ 9223372036854775807) (w : World) (htab : Tab w) :
    Calls Tryd.prog 36 #[.int .i64 n] w fun r w' => r = .returned (.string ⟨(Lib.itoa n).toArray⟩) ∧ Below w.heap.size w w' :=
  (strconv_Itoa n h0 h1 w htab).mono fun _ _ ⟨h, _, _, e⟩ => ⟨h, e ▸ below_grow _ _ _⟩
theorem nDig_le : ∀ (k u : Nat), u < 10 ^ k → Lib.nDigits u ≤ k + 1
  | 0, u, h => by
    have : u = 0 := by simpa using h
    subst this; rw [Lib.nDigits]; simp
  | k + 1, u, h => by
    rw [Lib.nDigits]
    split
    · omega
    · have := nDig_le k (u / 10) (by rw [Nat.pow_succ] at h; omega)
      omega
theorem itoa_len (d : Nat) (h : d < 10 ^ 7) : (Lib.itoa (d : Int)).length ≤ 8 := by
  unfold Lib.itoa
  rw [if_neg (by omega), Lib.decDigits_length]
  exact nDig_le 7 _ (by simpa using h)
theorem shownB_len (t : ByteArray) : (shownB t).length ≤ 100 := by simp [shownB]; omega
theorem lineB_len (c : Cl) (h : c.d < 10 ^ 7) : (lineB c).length ≤ 112 := by
  have h1 := itoa_len c.d h
  have h2 := shownB_len c.t
  unfold lineB
  cases c.e <;> simp <;> omega
theorem outB_len : ∀ (l : List Cl), (∀ c ∈ l, c.d < 10 ^ 7) → (outB l).length ≤ l.length * 112
  | [], _ => by simp [outB]
  | c :: l, h => by
    have h1 := lineB_len c (h c (List.mem_cons_self ..))
    have h2 := outB_len l (fun x hx => h x (List.mem_cons_of_mem _ hx))
    unfold outB at h2 ⊢
    rw [List.flatMap_cons, List.length_append, List.length_cons]
    omega
theorem shownB_step (t : ByteArray) (k : Nat) (hk : k < t.size) (h1 : k < 100) : (shownB t).take (k + 1) = (shownB t).take k ++ [if t[k] < 32 then 63 else t[k]] := by
  have hl : k < (shownB t).length := by
    have : t.data.toList.length = t.size := by simp
    simp [shownB]; omega
  rw [List.take_succ_eq_append_getElem hl]
  congr 1
  simp [shownB]
  rfl
/-- So many bytes are written. -/
def XRel (B b : Nat) (l : List UInt8) (t : ByteArray) (m : Nat) (w : World) (i : Value) (wr : World) : Prop := ∃ k : Nat, i = .int .i64 k ∧ k ≤ m ∧ Bd B b (l ++ (shownB t).take k) wr ∧ Below B w wr ∧ Oth w wr ∧ B ≤ wr.heap.size

set_option maxRecDepth 100000 in
set_option maxHeartbeats 4000000 in
theorem writeText_s (B b : Nat) (l : List UInt8) (t : ByteArray) (w : World) (h : Bd B b l w) (hl : l.length + 100 ≤ 1073741000) (hB : B ≤ w.heap.size) (hm : t.size ≤ 100) :
    Calls Tryd.prog 38 #[.pointer (some ⟨b, 0, none⟩), .string t] w fun r w' => r = .returned (.tuple #[]) ∧ Bd B b (l ++ shownB t) w' ∧ Below B w w' ∧ Oth w w' := by
  have hsl : (shownB t).length = t.size := by
    have : t.data.toList.length = t.size := by simp
    simp [shownB]; omega
  have HSL : Hid _ := hsl
  have H0 : Hid (XRel B b l t (t.size) w (.int .i64 0) w) := ⟨0, rfl, Nat.zero_le _, by simpa using h, Below.refl _ _, Oth.of (Below.refl _ _), hB⟩
  have i0 : (t.size : Int) ≤ 100 := by omega
  clear hsl h
  go_enter Tryd.func38, Tryd.ntmps38
  go_wp2_with fail
  go_loopw [8] (fun i wr => XRel B b l t (t.size) w i wr) (fun i _ => t.size - (intOf i).toNat)
  case atStart => exact H0.out
  case round =>
    obtain ⟨k, rfl, hk, hbd, hbw, hot, hBr⟩ := hrel
    have HOT : Hid _ := hot
    have HBD : Hid _ := hbd
    have HBW : Hid _ := hbw
    clear hbd hbw H0 hot
    by_cases hlt : k < t.size
    · have hlt2 : k < t.size := by omega
      have i1 : (k : Int) < t.size := by omega
      have i2 : (k : Int) < 100 := by omega
      have i3 : k < 100 := by omega
      have HST : Hid _ := shownB_step t k hlt2 i3
      have hll : (l ++ (shownB t).take k).length + 1 ≤ 1073741824 := by simp; omega
      by_cases hc : t[k] < 32
      · have j1 : t[k].toNat < 32 := by simpa [UInt8.lt_iff_toNat_lt] using hc
        have j2 : (t[k].toNat : Int) < 32 := by omega
        rw [if_pos hc] at HST
        clear hc
        go_wp2_with fail
        refine (wByte B b _ 63 wr HBD.out hll hBr).mono ?_
        rintro _ V ⟨rfl, h1, h2, h3⟩
        have HF : Hid (XRel B b l t (t.size) w (.int .i64 ((k : Int) + 1)) V) := ⟨k + 1, by simp, hlt, by rw [HST.out, ← List.append_assoc]; exact h1, HBW.out.trans h2, Oth.trans HOT.out h3, by have := h2.size; omega⟩
        clear h1 h2 h3
        go_wp2_with fail
        exact ⟨HF.out, by simp [intOf]; omega⟩
      · have j1 : ¬ t[k].toNat < 32 := by simpa [UInt8.lt_iff_toNat_lt] using hc
        have j2 : ¬ (t[k].toNat : Int) < 32 := by omega
        rw [if_neg hc] at HST
        clear hc
        go_wp2_with fail
        refine (wByte B b _ t[k] wr HBD.out hll hBr).mono ?_
        rintro _ V ⟨rfl, h1, h2, h3⟩
        have HF : Hid (XRel B b l t (t.size) w (.int .i64 ((k : Int) + 1)) V) := ⟨k + 1, by simp, hlt, by rw [HST.out, ← List.append_assoc]; exact h1, HBW.out.trans h2, Oth.trans HOT.out h3, by have := h2.size; omega⟩
        clear h1 h2 h3
        go_wp2_with fail
        exact ⟨HF.out, by simp [intOf]; omega⟩
    · have hkm : k = t.size := by omega
      have hB2 := HBD.out
      rw [hkm, ← HSL.out, List.take_length] at hB2
      have HB2 : Hid _ := hB2
      clear hB2 hkm
      go_wp2_with fail
      exact bodyPost_end (results_none rfl _ _ _) rfl ⟨rfl, HB2.out, HBW.out, HOT.out⟩

set_option maxRecDepth 100000 in
set_option maxHeartbeats 4000000 in
theorem writeText_l (B b : Nat) (l : List UInt8) (t : ByteArray) (w : World) (h : Bd B b l w) (hl : l.length + 100 ≤ 1073741000) (hB : B ≤ w.heap.size) (hm : 100 < t.size) :
    Calls Tryd.prog 38 #[.pointer (some ⟨b, 0, none⟩), .string t] w fun r w' => r = .returned (.tuple #[]) ∧ Bd B b (l ++ shownB t) w' ∧ Below B w w' ∧ Oth w w' := by
  have hsl : (shownB t).length = 100 := by
    have : t.data.toList.length = t.size := by simp
    simp [shownB]; omega
  have HSL : Hid _ := hsl
  have H0 : Hid (XRel B b l t (100) w (.int .i64 0) w) := ⟨0, rfl, Nat.zero_le _, by simpa using h, Below.refl _ _, Oth.of (Below.refl _ _), hB⟩
  have i0 : (100 : Int) < t.size := by omega
  clear hsl h
  go_enter Tryd.func38, Tryd.ntmps38
  go_wp2_with fail
  go_loopw [8] (fun i wr => XRel B b l t (100) w i wr) (fun i _ => 100 - (intOf i).toNat)
  case atStart => exact H0.out
  case round =>
    obtain ⟨k, rfl, hk, hbd, hbw, hot, hBr⟩ := hrel
    have HOT : Hid _ := hot
    have HBD : Hid _ := hbd
    have HBW : Hid _ := hbw
    clear hbd hbw H0 hot
    by_cases hlt : k < 100
    · have hlt2 : k < t.size := by omega
      have i1 : (k : Int) < t.size := by omega
      have i2 : (k : Int) < 100 := by omega
      have i3 : k < 100 := by omega
      have HST : Hid _ := shownB_step t k hlt2 i3
      have hll : (l ++ (shownB t).take k).length + 1 ≤ 1073741824 := by simp; omega
      by_cases hc : t[k] < 32
      · have j1 : t[k].toNat < 32 := by simpa [UInt8.lt_iff_toNat_lt] using hc
        have j2 : (t[k].toNat : Int) < 32 := by omega
        rw [if_pos hc] at HST
        clear hc
        go_wp2_with fail
        refine (wByte B b _ 63 wr HBD.out hll hBr).mono ?_
        rintro _ V ⟨rfl, h1, h2, h3⟩
        have HF : Hid (XRel B b l t (100) w (.int .i64 ((k : Int) + 1)) V) := ⟨k + 1, by simp, hlt, by rw [HST.out, ← List.append_assoc]; exact h1, HBW.out.trans h2, Oth.trans HOT.out h3, by have := h2.size; omega⟩
        clear h1 h2 h3
        go_wp2_with fail
        exact ⟨HF.out, by simp [intOf]; omega⟩
      · have j1 : ¬ t[k].toNat < 32 := by simpa [UInt8.lt_iff_toNat_lt] using hc
        have j2 : ¬ (t[k].toNat : Int) < 32 := by omega
        rw [if_neg hc] at HST
        clear hc
        go_wp2_with fail
        refine (wByte B b _ t[k] wr HBD.out hll hBr).mono ?_
        rintro _ V ⟨rfl, h1, h2, h3⟩
        have HF : Hid (XRel B b l t (100) w (.int .i64 ((k : Int) + 1)) V) := ⟨k + 1, by simp, hlt, by rw [HST.out, ← List.append_assoc]; exact h1, HBW.out.trans h2, Oth.trans HOT.out h3, by have := h2.size; omega⟩
        clear h1 h2 h3
        go_wp2_with fail
        exact ⟨HF.out, by simp [intOf]; omega⟩
    · have hkm : k = 100 := by omega
      have hB2 := HBD.out
      rw [hkm, ← HSL.out, List.take_length] at hB2
      have HB2 : Hid _ := hB2
      clear hB2 hkm
      go_wp2_with fail
      exact bodyPost_end (results_none rfl _ _ _) rfl ⟨rfl, HB2.out, HBW.out, HOT.out⟩

theorem writeText_any (B b : Nat) (l : List UInt8) (t : ByteArray) (w : World) (h : Bd B b l w) (hl : l.length + 100 ≤ 1073741000) (hB : B ≤ w.heap.size) :
    Calls Tryd.prog 38 #[.pointer (some ⟨b, 0, none⟩), .string t] w fun r w' => r = .returned (.tuple #[]) ∧ Bd B b (l ++ shownB t) w' ∧ Below B w w' ∧ Oth w w' := by
  rcases Nat.lt_or_ge 100 t.size with hm | hm
  · exact writeText_l B b l t w h hl hB hm
  · exact writeText_s B b l t w h hl hB hm
end Go.Proofs.YtapakbibofnhkaaDoor
