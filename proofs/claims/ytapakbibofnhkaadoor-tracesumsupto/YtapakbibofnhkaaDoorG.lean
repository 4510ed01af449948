/-
  trace.ask over two rows.
-/
import Derived.Test.YtapakbibofnhkaaDoorF
namespace Go.Proofs.YtapakbibofnhkaaDoor
open Go.RowKit Go.ChangeMaps

set_option maxRecDepth 100000 in
set_option maxHeartbeats 4000000 in
theorem ask2_any (J : Nat → (Nat → Prop) → World → Prop) (v1 v2 : Nat → Bool) (l : List Ev) (b0 f0 c pb qb : Nat) (S : Nat → Prop) (w : World) (hl : l.length ≤ maxLen) (he : EvsAt w (some ⟨b0, f0, none⟩) l) (hb0 : b0 < w.heap.size) (hn0 : ¬ S b0)
    (hq : w.heap[qb]? = some (.cells #[.func (.func 22) #[] #[], .func (.func 23) #[.pointer (some ⟨pb, 0, none⟩)] #[], .func (.func 24) #[.pointer (some ⟨pb, 0, none⟩)] #[], .func (.func 25) #[.pointer (some ⟨pb, 0, none⟩)] #[]] 44)) (hnq : ¬ S qb) (h0 : J 0 S w)
    (HA0 : ∀ k S W o, J k S W → J k S (W.alloc o)) (HS0 : ∀ k S W, J k S W → ∀ b, S b → b < W.heap.size)
    (HQ0 : ∀ k (hk : k < l.length) W, Calls Tryd.prog 22 #[.agg #[.int .i64 l[k].k, .int .i64 l[k].a, .string l[k].t]] W fun r w' => r = .returned (.bool (v1 k)) ∧ ∃ o, w' = W.alloc o)
    (HT0 : ∀ k (hk : k < l.length) S W, v1 k = true → J k S W → Calls Tryd.prog 23 #[.pointer (some ⟨pb, 0, none⟩), .agg #[.int .i64 l[k].k, .int .i64 l[k].a, .string l[k].t]] W fun r w' => r = .returned (.tuple #[]) ∧ Stp J (k + 1) S W w')
    (HP0 : ∀ k (hk : k < l.length) S W, v1 k = false → J k S W → Calls Tryd.prog 24 #[.pointer (some ⟨pb, 0, none⟩), .agg #[.int .i64 l[k].k, .int .i64 l[k].a, .string l[k].t]] W fun r w' => r = .returned (.bool (v2 k)) ∧ Stp J k S W w')
    (HN0 : ∀ k S W, k < l.length → v1 k = false → v2 k = false → J k S W → J (k + 1) S W)
    (HU0 : ∀ k (hk : k < l.length) S W, v1 k = false → v2 k = true → J k S W → Calls Tryd.prog 25 #[.pointer (some ⟨pb, 0, none⟩), .agg #[.int .i64 l[k].k, .int .i64 l[k].a, .string l[k].t]] W fun r w' => r = .returned (.tuple #[]) ∧ Stp J (k + 1) S W w') :
    Calls Tryd.prog 19 #[.slice (some ⟨b0, f0, none⟩) l.length c, .slice (some ⟨qb, 0, none⟩) 2 2] w fun r w' => r = .returned (.tuple #[]) ∧ Stp J l.length S w w' := by
  unfold maxLen at hl
  have HA : Hid _ := HA0
  have HS : Hid _ := HS0
  have HQ : Hid _ := HQ0
  have HN : Hid _ := HN0
  have HT : Hid _ := HT0
  have HP : Hid _ := HP0
  have HU : Hid _ := HU0
  have HE : Hid _ := he
  have HJ0 : Hid (Stp J 0 S w w) := ⟨S, h0, KS.refl _ _, fun b hb => .inl hb⟩
  have hqs := heap_lt hq
  have HQB : Hid _ := hq
  clear HA0 HS0 HQ0 HN0 HT0 HP0 HU0 he h0 hq
  go_enter Tryd.func19, Tryd.ntmps19
  go_wp2_with fail
  go_loopw [10] (fun i wr => ARel J S l.length w i wr) (fun i _ => l.length - (intOf i).toNat)
  case atStart => exact ⟨0, rfl, Nat.zero_le _, HJ0.out⟩
  case round =>
    obtain ⟨k, rfl, hk, S1, j1, k1, g1⟩ := hrel
    have HK1 : Hid (J k S1 wr ∧ KS S w wr ∧ ∀ b, S1 b → S b ∨ w.heap.size ≤ b) := ⟨j1, k1, g1⟩
    have hys := k1.size
    have HE1 : Hid (EvsAt wr (some ⟨b0, f0, none⟩) l) := k1.evs hb0 hn0 HE.out
    have qr := (k1.block _ hqs hnq).trans HQB.out
    have hnq1 : ¬ S1 qb := fun q => by have := g1 _ q; rcases this with h | h; exact hnq h; omega
    clear j1 k1 g1
    by_cases hlt : k < l.length
    · have i2 : (k : Int) < l.length := by omega
      have kk2 : (k : Int) + 1 ≤ 9223372036854775807 := by omega
      obtain ⟨b1, f1, hbe, hb1, hce⟩ := HE1.out.nonempty (by omega)
      simp only [Option.some.injEq, Addr.mk.injEq, and_true] at hbe
      obtain ⟨rfl, rfl⟩ := hbe
      obtain ⟨q0, q1, q2⟩ := hce k hlt
      clear hce
      have HQ' : Hid _ := HQ.out k hlt
      have HN' : Hid _ := HN.out k
      have HT' : Hid _ := HT.out k hlt
      have HP' : Hid _ := HP.out k hlt
      have HU' : Hid _ := HU.out k hlt
      generalize l[k] = e at q0 q1 q2 HQ' HT' HP' HU'
      have qc := (cells_of qr).1
      have hqr := heap_lt qr
      obtain ⟨u1, hu1⟩ : ∃ u, v1 k = u := ⟨_, rfl⟩
      obtain ⟨u2, hu2⟩ : ∃ u, v2 k = u := ⟨_, rfl⟩
      rw [hu1] at HQ' HT'
      rw [hu1, hu2] at HN' HU'
      rw [hu1, hu2] at HP'
      clear hu1 hu2
      go_wp2_with fail
      refine wp_loop_rounds 3 ?_
      rw [rounds_succ]
      go_wp2_with fail
      obtain ⟨U, hU⟩ : ∃ W, W = (wr.alloc (.cells #[.int .i64 e.k, .int .i64 e.a, .string e.t] 33)).alloc (.cells #[.func (.func 22) #[] #[], .func (.func 23) #[.pointer (some ⟨pb, 0, none⟩)] #[]] 44) := ⟨_, rfl⟩
      rw [← hU]
      have u0 : Below wr.heap.size wr U := by rw [hU]; exact below2 wr _ _
      have y0 : wr.heap.size + 1 < U.heap.size := by rw [hU]; simp
      have p0 : U.heap[wr.heap.size]? = some (.cells #[.int .i64 e.k, .int .i64 e.a, .string e.t] 33) := by rw [hU, Below.heap_alloc _ _ _ (by simp)]; exact heap_alloc_new _ _
      have r0 : U.heap[wr.heap.size + 1]? = some (.cells #[.func (.func 22) #[] #[], .func (.func 23) #[.pointer (some ⟨pb, 0, none⟩)] #[]] 44) := by rw [hU, show wr.heap.size + 1 = (wr.alloc (.cells #[.int .i64 e.k, .int .i64 e.a, .string e.t] 33)).heap.size by simp]; exact heap_alloc_new _ _
      have j0 : J k S1 U := by rw [hU]; exact HA.out _ _ _ _ (HA.out _ _ _ _ HK1.out.1)
      have hS1 := HS.out _ _ _ HK1.out.1
      clear hU
      refine (HQ'.out U).mono ?_
      rintro _ w1 ⟨rfl, o1, ho1⟩
      have ub : Below U.heap.size U w1 := by rw [ho1]; exact below1 U _
      have uw : Below wr.heap.size wr w1 := u0.trans (ub.mono u0.size)
      have j1 : J k S1 w1 := by rw [ho1]; exact HA.out _ _ _ _ j0
      have y1 := ub.size
      have p1 : w1.heap[wr.heap.size]? = _ := (ub.block _ (by omega)).trans p0
      have r1 : w1.heap[wr.heap.size + 1]? = _ := (ub.block _ (by omega)).trans r0
      have qr1 : w1.heap[qb]? = _ := (uw.block _ hqr).trans qr
      have z1 := (cells_of p1).1
      have z2 := (cells_of r1).1
      have HJ1 : Hid (J k S1 w1) := j1
      clear qc q0 q1 q2 j0 j1 p0 r0 ho1 ub qr
      cases u1
      · go_wp2_with fail
        have z3 := (cells_of qr1).1
        have zq : qb < w1.heap.size := by omega
        have zp : wr.heap.size < w1.heap.size := by omega
        clear z2
        rw [rounds_succ]
        go_wp2_with fail
        obtain ⟨V, hV⟩ : ∃ W, W = w1.alloc (.cells #[.func (.func 24) #[.pointer (some ⟨pb, 0, none⟩)] #[], .func (.func 25) #[.pointer (some ⟨pb, 0, none⟩)] #[]] 44) := ⟨_, rfl⟩
        rw [← hV]
        have v0 : Below w1.heap.size w1 V := by rw [hV]; exact below1 w1 _
        have yv : w1.heap.size < V.heap.size := by rw [hV]; simp
        have pv : V.heap[wr.heap.size]? = _ := (v0.block _ zp).trans p1
        have rv : V.heap[w1.heap.size]? = some (.cells #[.func (.func 24) #[.pointer (some ⟨pb, 0, none⟩)] #[], .func (.func 25) #[.pointer (some ⟨pb, 0, none⟩)] #[]] 44) := by rw [hV]; exact heap_alloc_new _ _
        have jv : J k S1 V := by rw [hV]; exact HA.out _ _ _ _ HJ1.out
        have uv : Below wr.heap.size wr V := uw.trans (v0.mono uw.size)
        clear hV
        refine (HP'.out S1 V (by trivial) jv).mono ?_
        rintro _ w2 ⟨rfl, hst⟩
        obtain ⟨S2, j2, k2, g2⟩ := hst
        have p2 : w2.heap[wr.heap.size]? = _ := (k2.block _ (by omega) (fun q => by have := hS1 _ q; omega)).trans pv
        have r2 : w2.heap[w1.heap.size]? = _ := (k2.block _ (by omega) (fun q => by have := hS1 _ q; omega)).trans rv
        have x1 := (cells_of p2).1
        have x2 := (cells_of r2).1
        have HJ2 : Hid (J k S2 w2) := j2
        have HSTK : Hid (KS S1 V w2 ∧ ∀ b, S2 b → S1 b ∨ V.heap.size ≤ b) := ⟨k2, g2⟩
        clear z1 z3 k2 g2 j2 p1 pv rv jv r1 qr1
        cases u2
        · have HF : Hid (Stp J (k + 1) S w w2) := stp_next HK1.out.2.1 HK1.out.2.2 uv ⟨S2, HN'.out S2 w2 hlt (by trivial) (by trivial) HJ2.out, HSTK.out.1, HSTK.out.2⟩
          clear x1 x2
          go_wp2_with fail
          rw [rounds_succ]
          go_wp2_with fail
          go_roundw
          case rel => exact ⟨k + 1, by go_num, hlt, HF.out⟩
          case measure => simp [intOf]; omega
        · go_wp2_with fail
          refine (HU'.out S2 w2 (by trivial) (by trivial) HJ2.out).mono ?_
          rintro _ w3 ⟨rfl, hst3⟩
          have HF : Hid (Stp J (k + 1) S w w3) := stp_next (HK1.out.2.1.trans (KS.of (S := S) uv) (fun _ _ h => h) |>.trans HSTK.out.1 (fun b hb h => (HK1.out.2.2 b h).elim id (fun h' => by omega))) (fun b hb => by
            rcases HSTK.out.2 b hb with h | h
            · exact HK1.out.2.2 b h
            · exact .inr (by omega)) (Below.refl _ _) hst3
          clear hst3 x1 x2
          go_wp2_with fail
          go_roundw
          case rel => exact ⟨k + 1, by go_num, hlt, HF.out⟩
          case measure => simp [intOf]; omega
      · go_wp2_with fail
        refine (HT'.out S1 w1 (by trivial) HJ1.out).mono ?_
        rintro _ w3 ⟨rfl, hst3⟩
        have HF : Hid (Stp J (k + 1) S w w3) := stp_next HK1.out.2.1 HK1.out.2.2 uw hst3
        clear hst3 z1 z2
        go_wp2_with fail
        go_roundw
        case rel => exact ⟨k + 1, by go_num, hlt, HF.out⟩
        case measure => simp [intOf]; omega
    · obtain rfl : k = l.length := by omega
      go_wp2_with fail
      exact bodyPost_end (results_none rfl _ _ _) rfl ⟨rfl, S1, HK1.out⟩
end Go.Proofs.YtapakbibofnhkaaDoor
