/-
  Which blocks a call may write; trace.ask over one row and over two.
-/
import Derived.Test.YtapakbibofnhkaaDoorE
namespace Go.Proofs.YtapakbibofnhkaaDoor
open Go.RowKit Go.ChangeMaps

/-- Of the blocks that were there only those of S have changed. -/
structure KS (S : Nat → Prop) (w w' : World) : Prop where
  os : w'.os = w.os
  tape : w'.tape = w.tape
  output : w'.output = w.output
  size : w.heap.size ≤ w'.heap.size
  block : ∀ b, b < w.heap.size → ¬ S b → w'.heap[b]? = w.heap[b]?
theorem KS.of {S : Nat → Prop} {w w' : World} (h : Below w.heap.size w w') : KS S w w' := ⟨h.1, h.2, h.3, h.4, fun b hb _ => h.5 b hb⟩
theorem KS.refl (S : Nat → Prop) (w : World) : KS S w w := .of (Below.refl _ _)
theorem KS.trans {S S' : Nat → Prop} {w w' w'' : World} (h : KS S w w') (h' : KS S' w' w'') (hS : ∀ b, b < w.heap.size → S' b → S b) : KS S w w'' :=
  ⟨h'.os.trans h.os, h'.tape.trans h.tape, h'.output.trans h.output, Nat.le_trans h.size h'.size, fun b hb hn => (h'.block b (Nat.lt_of_lt_of_le hb h.size) (fun q => hn (hS b hb q))).trans (h.block b hb hn)⟩
theorem KS.mono {S S' : Nat → Prop} {w w' : World} (h : KS S w w') (hS : ∀ b, b < w.heap.size → S b → S' b) : KS S' w w' := ⟨h.os, h.tape, h.output, h.size, fun b hb hn => h.block b hb (fun q => hn (hS b hb q))⟩
theorem KS.below {S : Nat → Prop} {w w' : World} {B : Nat} (h : KS S w w') (hS : ∀ b, S b → B ≤ b) (hB : B ≤ w.heap.size) : Below B w w' := ⟨h.os, h.tape, h.output, h.size, fun b hb => h.block b (Nat.lt_of_lt_of_le hb hB) (fun q => by have := hS b q; omega)⟩
theorem KS.set (S : Nat → Prop) (w : World) (b o : Nat) (v : Value) (h : S b) : KS S w (w.setCell ⟨b, o, none⟩ v) := ⟨rfl, rfl, rfl, by simp, fun c _ hn => heap_set_other w b c o v (fun e => hn (e ▸ h))⟩
theorem KS.setB (S : Nat → Prop) (w : World) (b : Nat) (o : Obj) (h : S b) : KS S w (setBlock w b o) := ⟨rfl, rfl, rfl, by rw [setBlock_size]; exact Nat.le_refl _, fun c _ hn => setBlock_other w b c o (fun e => hn (e ▸ h))⟩
theorem KS.evs {S : Nat → Prop} {w w' : World} (h : KS S w w') {b f : Nat} {l : List Ev} (hb : b < w.heap.size) (hn : ¬ S b) (he : EvsAt w (some ⟨b, f, none⟩) l) : EvsAt w' (some ⟨b, f, none⟩) l := by
  rcases he with he | ⟨b', f', e, h2, h3⟩
  · exact .inl he
  · simp only [Option.some.injEq, Addr.mk.injEq, and_true] at e
    obtain ⟨rfl, rfl⟩ := e
    refine .inr ⟨b, f, rfl, Nat.lt_of_lt_of_le h2 h.size, fun i hi => ?_⟩
    have hc : ∀ o, w'.cell? ⟨b, o, none⟩ = w.cell? ⟨b, o, none⟩ := fun o => by simp [World.cell?, h.block b hb hn]
    rw [hc, hc, hc]
    exact h3 i hi
/-- What a callee of ask's does to what it keeps (J: so many events are done; S: its blocks). -/
def Stp (J : Nat → (Nat → Prop) → World → Prop) (k : Nat) (S : Nat → Prop) (W w' : World) : Prop := ∃ S', J k S' w' ∧ KS S W w' ∧ ∀ b, S' b → S b ∨ W.heap.size ≤ b
theorem stp_next {J : Nat → (Nat → Prop) → World → Prop} {k' : Nat} {S S1 : Nat → Prop} {w w1 U w2 : World} (hk1 : KS S w w1) (g1 : ∀ b, S1 b → S b ∨ w.heap.size ≤ b) (hU : Below w1.heap.size w1 U) (h2 : Stp J k' S1 U w2) : Stp J k' S w w2 := by
  obtain ⟨S2, j2, k2, g2⟩ := h2
  have h1 : KS S w U := hk1.trans (KS.of (S := S) hU) (fun _ _ h => h)
  refine ⟨S2, j2, h1.trans k2 (fun b hb h => (g1 b h).elim id (fun h' => by omega)), fun b hb => ?_⟩
  have a1 := hk1.size
  have a2 := hU.size
  rcases g2 b hb with h | h
  · exact g1 b h
  · exact .inr (by omega)
/-- No row: nothing is asked of no event. -/
theorem ask_none (pp : Option Addr) (c : Nat) (rows : Value) (w : World) : Calls Tryd.prog 19 #[.slice pp 0 c, rows] w fun r w' => r = .returned (.tuple #[]) ∧ w' = w := by
  go_enter Tryd.func19, Tryd.ntmps19
  go_wp2_with fail
  refine wp_loop_rounds 1 ?_
  rw [rounds_succ]
  go_wp2_with fail
  exact bodyPost_end (results_none rfl _ _ _) rfl ⟨rfl, rfl⟩
/-- Between two events. -/
def ARel (J : Nat → (Nat → Prop) → World → Prop) (S0 : Nat → Prop) (n : Nat) (w : World) (i : Value) (wr : World) : Prop := ∃ k : Nat, i = .int .i64 k ∧ k ≤ n ∧ Stp J k S0 w wr

set_option maxRecDepth 100000 in
set_option maxHeartbeats 4000000 in
theorem ask1_any (J : Nat → (Nat → Prop) → World → Prop) (v : Nat → Bool) (l : List Ev) (b0 f0 c pb qb : Nat) (S : Nat → Prop) (w : World) (hl : l.length ≤ maxLen) (he : EvsAt w (some ⟨b0, f0, none⟩) l) (hb0 : b0 < w.heap.size) (hn0 : ¬ S b0)
    (hq : w.heap[qb]? = some (.cells #[.func (.func 20) #[.pointer (some ⟨pb, 0, none⟩)] #[], .func (.func 21) #[.pointer (some ⟨pb, 0, none⟩)] #[]] 44)) (hnq : ¬ S qb) (h0 : J 0 S w)
    (HA0 : ∀ k S W o, J k S W → J k S (W.alloc o)) (HS0 : ∀ k S W, J k S W → ∀ b, S b → b < W.heap.size)
    (HQ0 : ∀ k (hk : k < l.length) S W, J k S W → Calls Tryd.prog 20 #[.pointer (some ⟨pb, 0, none⟩), .agg #[.int .i64 l[k].k, .int .i64 l[k].a, .string l[k].t]] W fun r w' => r = .returned (.bool (v k)) ∧ Stp J k S W w')
    (HN0 : ∀ k S W, k < l.length → v k = false → J k S W → J (k + 1) S W)
    (HT0 : ∀ k (hk : k < l.length) S W, v k = true → J k S W → Calls Tryd.prog 21 #[.pointer (some ⟨pb, 0, none⟩), .agg #[.int .i64 l[k].k, .int .i64 l[k].a, .string l[k].t]] W fun r w' => r = .returned (.tuple #[]) ∧ Stp J (k + 1) S W w') :
    Calls Tryd.prog 19 #[.slice (some ⟨b0, f0, none⟩) l.length c, .slice (some ⟨qb, 0, none⟩) 1 1] w fun r w' => r = .returned (.tuple #[]) ∧ Stp J l.length S w w' := by
  unfold maxLen at hl
  have HA : Hid _ := HA0
  have HS : Hid _ := HS0
  have HQ : Hid _ := HQ0
  have HN : Hid _ := HN0
  have HT : Hid _ := HT0
  have HE : Hid _ := he
  have HJ0 : Hid (Stp J 0 S w w) := ⟨S, h0, KS.refl _ _, fun b hb => .inl hb⟩
  have hqs := heap_lt hq
  have HQB : Hid _ := hq
  clear HA0 HS0 HQ0 HN0 HT0 he h0 hq
  go_enter Tryd.func19, Tryd.ntmps19
  go_wp2_with fail
  go_loopw [10] (fun i wr => ARel J S l.length w i wr) (fun i _ => l.length - (intOf i).toNat)
  case atStart => exact ⟨0, rfl, Nat.zero_le _, HJ0.out⟩
  case round =>
    obtain ⟨k, rfl, hk, S1, j1, k1, g1⟩ := hrel
    have HK1 : Hid (J k S1 wr ∧ KS S w wr ∧ ∀ b, S1 b → S b ∨ w.heap.size ≤ b) := ⟨j1, k1, g1⟩
    have hys := k1.size
    have HE1 : Hid (EvsAt wr (some ⟨b0, f0, none⟩) l) := k1.evs hb0 hn0 HE.out
    have qr := (k1.block _ hqs hnq).trans HQB.out
    have hnq1 : ¬ S1 qb := fun q => by have := g1 _ q; rcases this with h | h; exact hnq h; omega
    clear j1 k1 g1
    by_cases hlt : k < l.length
    · have i2 : (k : Int) < l.length := by omega
      have kk2 : (k : Int) + 1 ≤ 9223372036854775807 := by omega
      obtain ⟨b1, f1, hbe, hb1, hce⟩ := HE1.out.nonempty (by omega)
      simp only [Option.some.injEq, Addr.mk.injEq, and_true] at hbe
      obtain ⟨rfl, rfl⟩ := hbe
      obtain ⟨q0, q1, q2⟩ := hce k hlt
      clear hce
      have HQ1 := HQ.out k hlt
      have HN1 := HN.out k
      have HT1 := HT.out k hlt
      have HQ' : Hid _ := HQ1
      have HN' : Hid _ := HN1
      have HT' : Hid _ := HT1
      clear HQ1 HN1 HT1
      generalize l[k] = e at q0 q1 q2 HQ' HT'
      have qc := (cells_of qr).1
      have hqr := heap_lt qr
      obtain ⟨u, hu⟩ : ∃ u, v k = u := ⟨_, rfl⟩
      rw [hu] at HQ' HN' HT'
      clear hu
      go_wp2_with fail
      refine wp_loop_rounds 2 ?_
      rw [rounds_succ]
      go_wp2_with fail
      obtain ⟨U, hU⟩ : ∃ W, W = (wr.alloc (.cells #[.int .i64 e.k, .int .i64 e.a, .string e.t] 33)).alloc (.cells #[.func (.func 20) #[.pointer (some ⟨pb, 0, none⟩)] #[], .func (.func 21) #[.pointer (some ⟨pb, 0, none⟩)] #[]] 44) := ⟨_, rfl⟩
      rw [← hU]
      have u0 : Below wr.heap.size wr U := by rw [hU]; exact below2 wr _ _
      have y0 : wr.heap.size + 1 < U.heap.size := by rw [hU]; simp
      have p0 : U.heap[wr.heap.size]? = some (.cells #[.int .i64 e.k, .int .i64 e.a, .string e.t] 33) := by rw [hU, Below.heap_alloc _ _ _ (by simp)]; exact heap_alloc_new _ _
      have r0 : U.heap[wr.heap.size + 1]? = some (.cells #[.func (.func 20) #[.pointer (some ⟨pb, 0, none⟩)] #[], .func (.func 21) #[.pointer (some ⟨pb, 0, none⟩)] #[]] 44) := by rw [hU, show wr.heap.size + 1 = (wr.alloc (.cells #[.int .i64 e.k, .int .i64 e.a, .string e.t] 33)).heap.size by simp]; exact heap_alloc_new _ _
      have j0 : J k S1 U := by rw [hU]; exact HA.out _ _ _ _ (HA.out _ _ _ _ HK1.out.1)
      have hS1 := HS.out _ _ _ HK1.out.1
      clear hU
      refine (HQ'.out S1 U j0).mono ?_
      rintro _ w1 ⟨rfl, hst⟩
      obtain ⟨S2, j2, k2, g2⟩ := hst
      have p1 : w1.heap[wr.heap.size]? = _ := (k2.block _ (by omega) (fun q => by have := hS1 _ q; omega)).trans p0
      have r1 : w1.heap[wr.heap.size + 1]? = _ := (k2.block _ (by omega) (fun q => by have := hS1 _ q; omega)).trans r0
      have z1 := (cells_of p1).1
      have z2 := (cells_of r1).1
      have HJ2 : Hid (J k S2 w1) := j2
      have HSTK : Hid (KS S1 U w1 ∧ ∀ b, S2 b → S1 b ∨ U.heap.size ≤ b) := ⟨k2, g2⟩
      clear qc q0 q1 q2 k2 g2 j2 p0 r0 j0
      cases u
      · have HN2 := HN'.out S2 w1 hlt rfl HJ2.out
        have HF : Hid (Stp J (k + 1) S w w1) := by
          have a1 := HK1.out.2.1
          exact stp_next a1 HK1.out.2.2 u0 ⟨S2, HN2, HSTK.out.1, HSTK.out.2⟩
        clear HN2 z1 z2
        go_wp2_with fail
        rw [rounds_succ]
        go_wp2_with fail
        go_roundw
        case rel => exact ⟨k + 1, by go_num, hlt, HF.out⟩
        case measure => simp [intOf]; omega
      · go_wp2_with fail
        refine (HT'.out S2 w1 (by trivial) HJ2.out).mono ?_
        rintro _ w3 ⟨rfl, hst3⟩
        have HF : Hid (Stp J (k + 1) S w w3) := stp_next (HK1.out.2.1.trans (KS.of (S := S) u0) (fun _ _ h => h) |>.trans HSTK.out.1 (fun b hb h => (HK1.out.2.2 b h).elim id (fun h' => by omega))) (fun b hb => by
          rcases HSTK.out.2 b hb with h | h
          · exact HK1.out.2.2 b h
          · exact .inr (by omega)) (Below.refl _ _) hst3
        clear hst3 z1 z2
        go_wp2_with fail
        go_roundw
        case rel => exact ⟨k + 1, by go_num, hlt, HF.out⟩
        case measure => simp [intOf]; omega
    · obtain rfl : k = l.length := by omega
      go_wp2_with fail
      exact bodyPost_end (results_none rfl _ _ _) rfl ⟨rfl, S1, HK1.out⟩
end Go.Proofs.YtapakbibofnhkaaDoor
