/-
  The walk of the law LexLines where both texts are taken.
-/
import Derived.Test.YtnpiicceafgioaaDoorLexLinesWalk
import Derived.Deep.QuietTactic
import Derived.BigQuiet
namespace Go.Proofs.YtnpiicceafgioaaDoor
open Go.RowKit

theorem sh_len (n : Nat) (ts : List Tok) : (sh n ts).length = ts.length := by simp [sh]
theorem sh_get (n : Nat) (ts : List Tok) (j : Nat) (t : Tok) (h : ts[j]? = some t) : (sh n ts)[j]? = some (t.1, t.2.1, n + t.2.2) := by simp [sh, h]

theorem row_tok {w : World} {base : Nat} {p : Option Addr} {n cap : Nat} {ts : List Tok} (h : w.ownsRow base 48 3 (.slice p n cap) n (tokCells ts)) (hn : n = ts.length) (j : Nat) (t : Tok) (ht : ts[j]? = some t) :
    ∃ g, p = some ⟨g, 0, none⟩ ∧ w.cell? ⟨g, j * 3, none⟩ = some (.int .i64 t.1) ∧ w.cell? ⟨g, j * 3 + 1, none⟩ = some (.string ⟨t.2.1.toArray⟩) ∧ w.cell? ⟨g, j * 3 + 2, none⟩ = some (.int .i64 t.2.2) := by
  subst hn
  have hj : j < ts.length := (List.getElem?_eq_some_iff.1 ht).1
  rcases h.2 with ⟨_, h0⟩ | ⟨g, cap', cur, hv, _⟩
  · omega
  · have hp : p = some ⟨g, 0, none⟩ := by injection hv
    subst hp
    refine ⟨g, rfl, ?_, ?_, ?_⟩
    · have := h.cellAt (j * 3) (by omega)
      rw [this]
      have := tokCells_get ts j 0 (by omega)
      rw [Nat.add_zero] at this
      rw [this, ht]; rfl
    · rw [h.cellAt (j * 3 + 1) (by omega), tokCells_get ts j 1 (by omega), ht]; rfl
    · rw [h.cellAt (j * 3 + 2) (by omega), tokCells_get ts j 2 (by omega), ht]; rfl

theorem feed_place (ts : List Tok) (a n : Nat) (ha : a ≤ n) (h : ∀ x ∈ ts, x.2.2 ≤ n) : ∀ x ∈ feed ts a, x.2.2 ≤ n := by
  intro x hx
  unfold feed at hx
  split at hx
  · exact h x hx
  · split at hx
    · rw [List.mem_append] at hx
      rcases hx with hx | hx
      · exact h x hx
      · simp at hx; subst hx; exact ha
    · exact h x hx

theorem scan_bound (l : Bytes) : ∀ (d k : Nat) (ts us : List Tok), l.length ≤ k + d → k ≤ l.length → ts.length ≤ k → (∀ x ∈ ts, x.2.2 ≤ l.length) → scanAt l k ts = .ok us → us.length ≤ l.length + 1 ∧ ∀ x ∈ us, x.2.2 ≤ l.length := by
  intro d
  induction d using Nat.strongRecOn with
  | ind d ih =>
    intro k ts us hk hkl hts hp h
    by_cases hlt : k < l.length
    · by_cases h1 : (l.getD k 0).toNat = 32 ∨ (l.getD k 0).toNat = 9
      · rw [scan_blank l k ts hlt h1] at h; exact ih (d - 1) (by omega) _ _ _ (by omega) (by omega) (by omega) hp h
      by_cases h2 : (l.getD k 0).toNat = 10
      · rw [scan_feed l k ts hlt h2] at h
        have := feed_length ts k
        exact ih (d - 1) (by omega) _ _ _ (by omega) (by omega) (by omega) (feed_place ts k _ (by omega) hp) h
      cases h3 : [47, 47].isPrefixOf (l.drop k) with
      | true =>
        have hf := slash_fwd l k h3
        have hle := spanB_le lineN (l.drop k)
        simp at hle
        rw [scan_remark l k ts hlt h1 h2 h3] at h; exact ih (d - spanB lineN (l.drop k)) (by omega) _ _ _ (by omega) (by omega) (by omega) hp h
      | false =>
        cases h4 : tokSpec l k (l.getD k 0).toNat with
        | error e => rw [scan_wrong l k ts e hlt h1 h2 h3 h4] at h; cases h
        | ok q =>
          obtain ⟨kd, x, n⟩ := q
          have hf := tok_fwd l k kd n x hlt h4
          rw [scan_tok l k kd n x ts hlt h1 h2 h3 h4] at h
          refine ih (l.length - n) (by omega) _ _ _ (by omega) (by omega) (by simp; omega) ?_ h
          intro y hy
          rw [List.mem_append] at hy
          rcases hy with hy | hy
          · exact hp y hy
          · simp at hy; subst hy; show k ≤ _; omega
    · rw [scan_end l _ ts hlt] at h
      rw [← Except.ok.inj h]
      exact ⟨by have := feed_length ts l.length; omega, feed_place ts _ _ (Nat.le_refl _) hp⟩

theorem spec_bound (l : Bytes) (us : List Tok) (hl : l.length ≤ 60000) (h : scanSpec l = .ok us) : us.length ≤ 60001 ∧ ∀ x ∈ us, x.2.2 ≤ 60000 := by
  unfold scanSpec at h
  rw [if_neg (by omega)] at h
  have := scan_bound l l.length 0 [] us (by omega) (by omega) (by simp) (by simp) h
  exact ⟨by omega, fun x hx => Nat.le_trans (this.2 x hx) hl⟩

set_option maxRecDepth 100000 in
set_option maxHeartbeats 4000000 in
theorem lines_right {gw ow gs os : Nat} (s t : ByteArray) (w : World) (ht : TabsAt gw ow gs os w) (hlim : s.size + 1 + t.size ≤ 60000) (us vs : List Tok) (h : scanSpec s.data.toList = .ok us) (h2 : scanSpec t.data.toList = .ok vs)
    (hus : us.length ≤ 60001) (hvs : vs.length ≤ 60001) (hat : ∀ x ∈ vs, x.2.2 ≤ 60000) :
    Calls Tryd.prog 8 #[.string s, .string t] w fun e w' => e = .returned (.bool true) ∧ Below w.heap.size w w' := by
  have HS : Hid (scanSpec s.data.toList = .ok us) := h
  have HT : Hid (scanSpec t.data.toList = .ok vs) := h2
  have HAT : Hid (∀ x ∈ vs, x.2.2 ≤ 60000) := hat
  obtain ⟨ls, hls⟩ : ∃ ls, ls = us ++ sh (s.size + 1) vs := ⟨_, rfl⟩
  have HJ : Hid (scanSpec (s ++ (⟨#[10]⟩ : ByteArray) ++ t).data.toList = .ok ls) := by
    show _ = _
    rw [join_list, lines_rest _ _ us (by simpa using hlim) h, h2, hls]
    simp [shS]
  have hll : ls.length = us.length + vs.length := by rw [hls, List.length_append, sh_len]
  have HLS : Hid (ls = us ++ sh (s.size + 1) vs) := hls
  clear h h2 hls hat
  go_enter Tryd.func8, Tryd.ntmps8
  go_wp2_with fail
  refine (known_any _ ht).mono ?_
  rintro r w1 ⟨rfl, hb1⟩
  have ht1 := ht.below (Nat.le_refl _) hb1
  have hz1 := hb1.size
  go_wp2_with fail
  refine (scan_ok_form s _ ht1 us HS.out).mono ?_
  rintro r w2 ⟨pa, ca, rfl, HA2, hb2⟩
  have ht2 := ht1.below (Nat.le_refl _) hb2
  have hz2 := hb2.size
  have HX2 : Hid (Below w.heap.size w w2) := hb1.trans (hb2.mono (by omega))
  clear hb1 hb2 ht1
  go_wp2_with fail
  refine (scan_ok_form t _ ht2 vs HT.out).mono ?_
  rintro r w3 ⟨pb, cb, rfl, HB3, hb3⟩
  have ht3 := ht2.below (Nat.le_refl _) hb3
  have hz3 := hb3.size
  have HX3 : Hid (Below w.heap.size w w3) := HX2.out.trans (hb3.mono (by omega))
  have HA3 : Hid (w3.ownsRow w1.heap.size 48 3 (.slice pa us.length ca) us.length (tokCells us)) := ownsRow_below HA2.out hb3
  clear hb3 ht2 HX2 HA2
  go_wp2_with fail
  refine (scan_ok_form _ _ ht3 ls HJ.out).mono ?_
  rw [hll]
  rintro r w4 ⟨pl, cl, rfl, HL4, hb4⟩
  have hz4 := hb4.size
  have HX4 : Hid (Below w.heap.size w w4) := HX3.out.trans (hb4.mono (by omega))
  have HA4 : Hid (w4.ownsRow w1.heap.size 48 3 (.slice pa us.length ca) us.length (tokCells us)) := ownsRow_below HA3.out hb4
  have HB4 : Hid (w4.ownsRow w2.heap.size 48 3 (.slice pb vs.length cb) vs.length (tokCells vs)) := ownsRow_below HB3.out hb4
  clear hb4 ht3 HX3 HA3 HB3
  go_wp2_with fail
  refine (code_nil _).mono ?_
  rintro r w5 ⟨rfl, hw5⟩
  have hw5' := hw5.symm
  subst hw5'
  clear hw5
  go_wp2_with fail
  refine (code_nil _).mono ?_
  rintro r w5 ⟨rfl, hw5⟩
  have hw5' := hw5.symm
  subst hw5'
  clear hw5
  have HLL : Hid (ls.length = us.length + vs.length) := hll
  clear hll
  go_wp2
  go_loopw [18] (fun i wr => ∃ j : Nat, j ≤ us.length + vs.length ∧ i = .int .i64 j ∧ Below w4.heap.size w4 wr) (fun i _ => us.length + vs.length - (intOf i).toNat)
  case atStart => exact ⟨0, Nat.zero_le _, rfl, Below.refl _ _⟩
  case round =>
    obtain ⟨j, hj, rfl, hbr⟩ := hrel
    have hzr := hbr.size
    by_cases hlt : j < us.length + vs.length
    · by_cases hja : j < us.length
      · obtain ⟨x, hx⟩ : ∃ x, us[j]? = some x := ⟨us[j], List.getElem?_eq_getElem hja⟩
        have hxl : ls[j]? = some x := by rw [HLS.out, List.getElem?_append_left hja]; exact hx
        obtain ⟨ga, hpa, a0, a1, a2⟩ := row_tok (ownsRow_below HA4.out hbr) rfl j x hx
        obtain ⟨gl, hpl, l0, l1, l2⟩ := row_tok (ownsRow_below HL4.out hbr) HLL.out.symm j x hxl
        subst hpa
        subst hpl
        have i1 : (j : Int) < us.length := by omega
        have i2 : (j : Int) < ((us.length + vs.length : Nat) : Int) := by omega
        clear hx hxl
        go_wp2_with fail
        go_quiet (fail)
        go_wp2
        go_roundw
        case rel => exact ⟨j + 1, by omega, by go_num, below_drewN hbr _⟩
        case measure => simp [intOf]; omega
      · obtain ⟨k, hjk⟩ : ∃ k, j = us.length + k := ⟨j - us.length, by omega⟩
        have hkv : k < vs.length := by omega
        obtain ⟨x, hx⟩ : ∃ x, vs[k]? = some x := ⟨vs[k], List.getElem?_eq_getElem hkv⟩
        have hxl : ls[j]? = some (x.1, x.2.1, s.size + 1 + x.2.2) := by
          rw [HLS.out, List.getElem?_append_right (by omega), hjk, Nat.add_sub_cancel_left]; exact sh_get _ _ _ _ hx
        have hx60 : x.2.2 ≤ 60000 := HAT.out x (List.mem_of_getElem? hx)
        obtain ⟨gb, hpb, b0, b1, b2⟩ := row_tok (ownsRow_below HB4.out hbr) rfl k x hx
        obtain ⟨gl, hpl, l0, l1, l2⟩ := row_tok (ownsRow_below HL4.out hbr) HLL.out.symm j _ hxl
        subst hpb
        subst hpl
        obtain ⟨x0, x1, x2⟩ := x
        simp only at b0 b1 b2 l0 l1 l2 hx60
        have hgd : decide ((j : Int) < us.length) = false := by simp; omega
        have hsub : (j : Int) - us.length = (k : Int) := by omega
        have hx2 : (x2 : Int) + s.size + 1 = ((s.size + 1 + x2 : Nat) : Int) := by omega
        obtain ⟨y, hy⟩ : ∃ y : Nat, y = s.size + 1 + x2 := ⟨_, rfl⟩
        rw [← hy] at l2 hx2
        have hble : gb < wr.heap.size := by
          have := b0
          unfold World.cell? at this
          split at this
          · rename_i h1; exact (Array.getElem?_eq_some_iff.1 h1).1
          · cases this
        have hgle : gl < wr.heap.size := by
          have := l0
          unfold World.cell? at this
          split at this
          · rename_i h1; exact (Array.getElem?_eq_some_iff.1 h1).1
          · cases this
        have i1 : ¬ (j : Int) < us.length := by omega
        have i2 : (j : Int) < ((us.length + vs.length : Nat) : Int) := by omega
        have i3 : (k : Int) < vs.length := by omega
        have HJK : Hid (j = us.length + k) := hjk
        clear hx hxl hy hjk
        go_wp2_with fail
        go_quiet (fail)
        obtain ⟨W, hW⟩ : ∃ W, W = wr.drewN nq := ⟨_, rfl⟩
        have hbW : Below w4.heap.size w4 W := by rw [hW]; exact below_drewN hbr nq
        have d0 : W.cell? ⟨gb, k * 3, none⟩ = some (.int .i64 x0) := by rw [hW]; exact b0
        have d1 : W.cell? ⟨gb, k * 3 + 1, none⟩ = some (.string ⟨x1.toArray⟩) := by rw [hW]; exact b1
        have d2 : W.cell? ⟨gb, k * 3 + 2, none⟩ = some (.int .i64 x2) := by rw [hW]; exact b2
        have m0 : W.cell? ⟨gl, j * 3, none⟩ = some (.int .i64 x0) := by rw [hW]; exact l0
        have m1 : W.cell? ⟨gl, j * 3 + 1, none⟩ = some (.string ⟨x1.toArray⟩) := by rw [hW]; exact l1
        have m2 : W.cell? ⟨gl, j * 3 + 2, none⟩ = some (.int .i64 y) := by rw [hW]; exact l2
        have hgb' : gb < W.heap.size := by rw [hW]; exact hble
        have hgl' : gl < W.heap.size := by rw [hW]; exact hgle
        have hzW : w4.heap.size ≤ W.heap.size := by rw [hW]; exact hzr
        rw [← hW]
        clear hW b0 b1 b2 l0 l1 l2 hble hgle hbr hzr
        go_wp2_with fail
        go_quiet (fail)
        go_wp2
        go_roundw
        case rel => exact ⟨j + 1, by omega, by go_num, below_drewN (hbW.alloc hzW _) _⟩
        case measure => simp [intOf]; omega
    · go_wp2
      go_ret
      exact ⟨rfl, HX4.out.trans (hbr.mono (by omega))⟩

set_option maxRecDepth 100000 in
set_option maxHeartbeats 400000 in
theorem lines_long {gw ow gs os : Nat} (s t : ByteArray) (w : World) (ht : TabsAt gw ow gs os w) (hs : s.size ≤ 140737488351232) (ht' : t.size ≤ 140737488351232) (hlim : 60000 < s.size + 1 + t.size) :
    Calls Tryd.prog 8 #[.string s, .string t] w fun e w' => e = .returned (.bool true) ∧ Below w.heap.size w w' := by
  go_enter Tryd.func8, Tryd.ntmps8
  go_wp2_with (go_at_call 9; refine (known_any _ ht).mono ?_; rintro r w1 ⟨rfl, hb1⟩)
  go_ret
  exact ⟨rfl, hb1⟩

theorem lexLines_any {gw ow gs os : Nat} (s t : ByteArray) (w : World) (ht : TabsAt gw ow gs os w) (hs : s.size ≤ 140737488351232) (ht' : t.size ≤ 140737488351232) :
    Calls Tryd.prog 8 #[.string s, .string t] w fun e w' => e = .returned (.bool true) ∧ Below w.heap.size w w' := by
  by_cases hlim : s.size + 1 + t.size ≤ 60000
  · cases h : scanSpec s.data.toList with
    | error e =>
      obtain ⟨c, p⟩ := e
      exact lines_wrong1 s t w ht hlim c p h
    | ok us =>
      cases h2 : scanSpec t.data.toList with
      | error e =>
        obtain ⟨c, p⟩ := e
        exact lines_wrong2 s t w ht hlim us c p h h2
      | ok vs =>
        have b1 := spec_bound _ us (by simp; omega) h
        have b2 := spec_bound _ vs (by simp; omega) h2
        exact lines_right s t w ht hlim us vs h h2 b1.1 b2.1 b2.2
  · exact lines_long s t w ht hs ht' (by omega)
end Go.Proofs.YtnpiicceafgioaaDoor
