/-
  .
  .
-/
import Derived.Test.YtdbijkgnddcneaaGreatDoorSq
import Derived.Test.YtdbijkgnddcneaaGreatDoorMhJ
import Derived.Test.YtdbijkgnddcneaaGreatDoorMd
import Derived.Deep.LoopGhost
import Derived.Deep.RegionHeld3
import Derived.Test.YtdbijkgnddcneaaGreatDoorMg
namespace Go.Proofs.YtdbijkgnddcneaaGreatDoor
open Go.RowKit
set_option maxRecDepth 100000
set_option maxHeartbeats 4000000
theorem MD.In.fl {B : Nat} {w : World} : ∀ (n : Nat) (d : MD), MD.In B w n d → MD.Fl n d
 | 0, _, h => h.elim
 | n + 1, d, h => by
  refine ⟨h.1.f0, h.1.f1, fun q hq => ?_⟩
  rcases h.2.2.2.2 with e | ⟨b, o, _, _, e3⟩
  ·rw [e] at hq; cases hq
  ·obtain ⟨i, hi, rfl⟩ := List.getElem_of_mem hq
   exact MD.In.fl n _ (e3 i hi).2
def FindP (n : Nat) (es : List Ent) (k : MD) (r : Ending) : Prop := (r = .returned (.pointer none) ∧ ∀ e ∈ es, (MD.eqv n e.k k).1 = false) ∨ ∃ e ∈ es, r = .returned (.pointer (some ⟨e.b, 0, none⟩)) ∧ (MD.eqv n e.k k).1 = true
theorem KM.cell {n : Nat} {w : World} {m : Nat} {es : List Ent} {G : KG} (h : KM n w m es G) (j : Nat) : w.cell? ⟨m, j, none⟩ = (#[.slice (some ⟨G.hb, 0, none⟩) G.L G.cap, .pointer (some ⟨G.rb, 0, none⟩), .int .i64 es.length] : Array Value)[j]? := row_at h.map j
theorem KM.head {n : Nat} {w : World} {m : Nat} {es : List Ent} {G : KG} (h : KM n w m es G) (i : Nat) (hi : i < 8 * G.L) : w.cell? ⟨G.hb, i, none⟩ = some (pv (G.hd i)) := by
 obtain ⟨cur, h1, _, h3⟩ := h.heads
 exact (row_at h1 i).trans (h3 i hi)
theorem KM.entc {n : Nat} {w : World} {m : Nat} {es : List Ent} {G : KG} (h : KM n w m es G) (e : Ent) (he : e ∈ es) (j : Nat) : w.cell? ⟨e.b, j, none⟩ = (#[.pointer (some ⟨e.kb, 0, none⟩), .pointer (some ⟨e.vb, 0, none⟩), .int .u64 e.h, pv (G.nx e.b), .pointer (some ⟨G.bf e.b, 0, none⟩), .pointer (some ⟨G.bh e.b, 0, none⟩), .bool false] : Array Value)[j]? := row_at (h.ent e he) j
structure FindIn (n : Nat) (w : World) (m : Nat) (es : List Ent) (G : KG) (k : MD) (hv : Int) (i : Nat) : Prop where
 self : ∀ W, Below w.heap.size w W → Calls Tryz.prog 116 #[k.val, k.val] W fun r w' => r = .returned (.bool (MD.eqv n k k).1) ∧ Below W.heap.size W w'
 each : ∀ e ∈ es, ∀ W, Below w.heap.size w W → Calls Tryz.prog 116 #[e.k.val, k.val] W fun r w' => r = .returned (.bool (MD.eqv n e.k k).1) ∧ Below W.heap.size W w'
 head : ∀ W, Below w.heap.size w W → Calls Tryz.prog 117 #[.pointer (some ⟨m, 0, none⟩), .int .u64 hv] W fun r w' => r = .returned (.pointer (some ⟨G.hb, i, none⟩)) ∧ w' = W
 first : ∀ W, Below w.heap.size w W → W.cell? ⟨G.hb, i, none⟩ = some (pv (G.hd i)) ∧ G.hb < W.heap.size
 lk : Lk G.nx (G.hd i) (G.ch i)
 ent : ∀ b ∈ G.ch i, ∃ e ∈ es, e.b = b ∧ ∀ W, Below w.heap.size w W → (∀ j, W.cell? ⟨b, j, none⟩ = (#[.pointer (some ⟨e.kb, 0, none⟩), .pointer (some ⟨e.vb, 0, none⟩), .int .u64 e.h, pv (G.nx b), .pointer (some ⟨G.bf b, 0, none⟩), .pointer (some ⟨G.bh b, 0, none⟩), .bool false] : Array Value)[j]?) ∧ b < W.heap.size ∧ (∀ j, W.cell? ⟨e.kb, j, none⟩ = e.k.cells[j]?) ∧ e.kb < W.heap.size
 mem : ∀ e ∈ es, (MD.eqv n e.k k).1 = true → e.b ∈ G.ch i ∧ e.h = hv ∧ (MD.eqv n k k).1 = true
 one : ∀ e ∈ es, ∀ e' ∈ es, e.b = e'.b → e = e'
theorem map_inj {es : List Ent} (h : (es.map Ent.b).Nodup) : ∀ e ∈ es, ∀ e' ∈ es, e.b = e'.b → e = e' := by
 induction es with
 | nil => intro e he; cases he
 | cons x r ih =>
  simp only [List.map_cons, List.nodup_cons, List.mem_map, not_exists, not_and] at h
  intro e he e' he' hb
  rcases List.mem_cons.1 he with rfl | he <;> rcases List.mem_cons.1 he' with rfl | he'
  ·rfl
  ·exact absurd hb.symm (h.1 e' he')
  ·rename_i h8; exact absurd hb (h.1 e h8)
  ·exact ih h.2 e he e' he' hb
theorem KM.findIn {n : Nat} {w : World} {m : Nat} {es : List Ent} {G : KG} (hK : KM n w m es G) {k : MD} {hv : Int} (h0 : 0 ≤ hv) (h1 : hv < 18446744073709551616) (hN : NamesAt w) (hk : MD.In w.heap.size w n k) (hr : MD.right n k = true) (hh : hv = MD.hash n seed k) (hE : EqP n k k) (hEs : ∀ e ∈ es, EqP n e.k k) : ∃ i, FindIn n w m es G k hv i := by
 have hL := hK.L1
 have z0 : 0 ≤ hv % ((8 * G.L : Nat) : Int) := Int.emod_nonneg _ (by omega)
 have z1 : hv % ((8 * G.L : Nat) : Int) < ((8 * G.L : Nat) : Int) := Int.emod_lt_of_pos _ (by omega)
 obtain ⟨i, hi⟩ : ∃ i : Nat, hv % ((8 * G.L : Nat) : Int) = i := ⟨(hv % ((8 * G.L : Nat) : Int)).toNat, by omega⟩
 have hiL : i < 8 * G.L := by omega
 have hc := hK.chain i hiL
 refine ⟨i, fun W hW => equal_any n k k W (hN.kept hW) (hk.later (Nat.le_refl _) hW) (hk.later (Nat.le_refl _) hW) hr hr hE, fun e he W hW => equal_any n e.k k W (hN.kept hW) ((hK.box e he).1.inn.later (Nat.le_refl _) hW) (hk.later (Nat.le_refl _) hW) (hK.key e he).1 hr (hEs e he), fun W hW => ?_, fun W hW => ⟨(hK.keep hW).head i hiL, ?_⟩, hc.1, fun b hb => ?_, fun e he hq => ?_, map_inj (List.nodup_cons.1 hK.nod).2⟩
 ·have := head_any W m G.hb G.L G.cap hv h0 h1 hK.L1 hK.Lm ((hK.keep hW).cell 0)
  rw [hi] at this
  exact this
 ·obtain ⟨cur, h1, _⟩ := (hK.keep hW).heads
  exact row_ltT h1
 ·obtain ⟨e, he, hb', _⟩ := (hc.2.2 b).1 hb
  subst hb'
  refine ⟨e, he, rfl, fun W hW => ⟨(hK.keep hW).entc e he, row_ltT ((hK.keep hW).ent e he), fun j => row_at ((hK.keep hW).box e he).1.cells j, row_ltT ((hK.keep hW).box e he).1.cells⟩⟩
 ·have hk2 := hK.key e he
  have e1 : e.h = hv := by
   rw [hk2.2.2.1, hh]
   exact hash_eq n seed e.k k (MD.In.fl n _ (hK.box e he).1.inn) (MD.In.fl n _ hk) (right_full hk2.1) (right_full hr) hq
  exact ⟨(hc.2.2 e.b).2 ⟨e, he, rfl, by rw [e1]; exact hi⟩, e1, eqv_right n e.k k (MD.In.fl n _ (hK.box e he).1.inn) (MD.In.fl n _ hk) hq⟩
theorem find_walk (n : Nat) (w : World) (m : Nat) (es : List Ent) (G : KG) (k : MD) (hv : Int) (i : Nat) (hF : FindIn n w m es G k hv i) :
  Calls Tryz.prog 78 #[.pointer (some ⟨m, 0, none⟩), k.val, .int .u64 hv] w fun r w' => FindP n es k r ∧ Below w.heap.size w w' := by
 have HF : Hid (FindIn n w m es G k hv i) := hF
 clear hF
 obtain ⟨⟨k0, k1, k2, k3, k4, k5, k6, k7, k8, kp, kpath, kpc⟩, kip, kic, kit⟩ := k
 simp only [MD.val, D]
 have HS : Hid (∀ W, Below w.heap.size w W → Calls Tryz.prog 116 #[.agg #[.int .i64 k0, .string k1, .int .i64 k2, .int .u64 k3, .string k4, .int .i64 k5, .int .i64 k6, .int .i64 k7, .int .i64 k8, .slice kp kpath.length kpc, .slice kip kit.length kic], .agg #[.int .i64 k0, .string k1, .int .i64 k2, .int .u64 k3, .string k4, .int .i64 k5, .int .i64 k6, .int .i64 k7, .int .i64 k8, .slice kp kpath.length kpc, .slice kip kit.length kic]] W fun r w' => r = .returned (.bool (MD.eqv n ⟨⟨k0, k1, k2, k3, k4, k5, k6, k7, k8, kp, kpath, kpc⟩, kip, kic, kit⟩ ⟨⟨k0, k1, k2, k3, k4, k5, k6, k7, k8, kp, kpath, kpc⟩, kip, kic, kit⟩).1) ∧ Below W.heap.size W w') := HF.out.self
 have HH : Hid (∀ W, Below w.heap.size w W → Calls Tryz.prog 117 #[.pointer (some ⟨m, 0, none⟩), .int .u64 hv] W fun r w' => r = .returned (.pointer (some ⟨G.hb, i, none⟩)) ∧ w' = W) := HF.out.head
 go_enter Tryz.func78, Tryz.ntmps78
 go_wp2_with fail
 refine (HS.out _ (below1 _ _)).mono ?_
 rintro r w1 ⟨rfl, b1⟩
 have hk1 := one_kept _ _ _ b1
 have q1 : Below w.heap.size w w1 := (below1 _ _).trans (b1.mono (by simp))
 have hz1 : w.heap.size < w1.heap.size := by have := b1.size; simp at this; omega
 clear b1 HS
 cases hkk : (MD.eqv n ⟨⟨k0, k1, k2, k3, k4, k5, k6, k7, k8, kp, kpath, kpc⟩, kip, kic, kit⟩ ⟨⟨k0, k1, k2, k3, k4, k5, k6, k7, k8, kp, kpath, kpc⟩, kip, kic, kit⟩).1 with
 | false =>
  go_wp2_with fail
  go_ret
  refine ⟨.inl ⟨rfl, fun e he => ?_⟩, q1⟩
  cases hb : (MD.eqv n e.k ⟨⟨k0, k1, k2, k3, k4, k5, k6, k7, k8, kp, kpath, kpc⟩, kip, kic, kit⟩).1 with
  | false => rfl
  | true => exact absurd (HF.out.mem e he hb).2.2 (by rw [hkk]; decide)
 | true =>
  obtain ⟨hc1, hb1⟩ := HF.out.first w1 q1
  go_wp2_with (go_at_call 117; refine (HH.out _ q1).mono ?_; rintro r w2 ⟨rfl, rfl⟩)
  obtain ⟨hAr, hAr'⟩ : ∃ c : Array Value, c = #[.int .i64 k0, .string k1, .int .i64 k2, .int .u64 k3, .string k4, .int .i64 k5, .int .i64 k6, .int .i64 k7, .int .i64 k8, .slice kp kpath.length kpc, .slice kip kit.length kic] := ⟨_, rfl⟩
  go_loopg [7] (G.ch i).length (fun gk p wr => ∃ (o : Option Nat) (l1 l2 : List Nat), p = pv o ∧ Hid (Lk G.nx o l2 ∧ G.ch i = l1 ++ l2 ∧ (∀ e ∈ es, e.b ∈ l1 → (MD.eqv n e.k ⟨⟨k0, k1, k2, k3, k4, k5, k6, k7, k8, kp, kpath, kpc⟩, kip, kic, kit⟩).1 = false) ∧ gk = l2.length ∧ Below w.heap.size w wr) ∧ (∀ j, wr.cell? ⟨w.heap.size, j, none⟩ = (#[.int .i64 k0, .string k1, .int .i64 k2, .int .u64 k3, .string k4, .int .i64 k5, .int .i64 k6, .int .i64 k7, .int .i64 k8, .slice kp kpath.length kpc, .slice kip kit.length kic] : Array Value)[j]?) ∧ w.heap.size < wr.heap.size)
  case atStart => exact ⟨G.hd i, [], G.ch i, rfl, ⟨HF.out.lk, rfl, by simp, rfl, q1⟩, hk1, hz1⟩
  case round =>
   obtain ⟨o, l1, l2, rfl, HR, hka, hza⟩ := hrel
   clear hk1 hz1 hc1 hb1
   obtain ⟨hlk, hch, hno, hgk, hB⟩ := HR.out
   cases l2 with
   | nil =>
    obtain rfl : o = none := hlk
    simp only [pv_none]
    clear hch hno hgk hB
    go_wp2_with fail
    go_ret
    refine ⟨.inl ⟨rfl, fun e he => ?_⟩, HR.out.2.2.2.2⟩
    cases hb : (MD.eqv n e.k ⟨⟨k0, k1, k2, k3, k4, k5, k6, k7, k8, kp, kpath, kpc⟩, kip, kic, kit⟩).1 with
    | false => rfl
    | true =>
     have h1 := (HF.out.mem e he hb).1
     rw [HR.out.2.1, List.append_nil] at h1
     rw [HR.out.2.2.1 e he h1] at hb
     exact absurd hb (by decide)
   | cons b r =>
    obtain ⟨ho, hlk2⟩ := hlk
    subst ho
    obtain ⟨e, he, heb, hW⟩ := HF.out.ent b (by rw [hch]; simp)
    obtain ⟨hce, hbz, hcd, hkz⟩ := hW wr hB
    have HEB : Hid (e ∈ es ∧ e.b = b) := ⟨he, heb⟩
    have HC : Hid (∀ W, Below w.heap.size w W → Calls Tryz.prog 116 #[e.k.val, .agg #[.int .i64 k0, .string k1, .int .i64 k2, .int .u64 k3, .string k4, .int .i64 k5, .int .i64 k6, .int .i64 k7, .int .i64 k8, .slice kp kpath.length kpc, .slice kip kit.length kic]] W fun r w' => r = .returned (.bool (MD.eqv n e.k ⟨⟨k0, k1, k2, k3, k4, k5, k6, k7, k8, kp, kpath, kpc⟩, kip, kic, kit⟩).1) ∧ Below W.heap.size W w') := HF.out.each e he
    have HNX : Hid (∀ W, Below w.heap.size w W → (MD.eqv n e.k ⟨⟨k0, k1, k2, k3, k4, k5, k6, k7, k8, kp, kpath, kpc⟩, kip, kic, kit⟩).1 = false → Lk G.nx (G.nx b) r ∧ G.ch i = (l1 ++ [b]) ++ r ∧ (∀ e ∈ es, e.b ∈ l1 ++ [b] → (MD.eqv n e.k ⟨⟨k0, k1, k2, k3, k4, k5, k6, k7, k8, kp, kpath, kpc⟩, kip, kic, kit⟩).1 = false) ∧ Below w.heap.size w W) := fun W hBW hf => by
     refine ⟨hlk2, by rw [hch]; simp, fun x hx hxb => ?_, hBW⟩
     rcases List.mem_append.1 hxb with h | h
     ·exact hno x hx h
     ·simp at h
      obtain rfl := HF.out.one x hx e he (h.trans heb.symm)
      exact hf
    have HGK : Hid (r.length < gk) := by show _ < _; rw [hgk]; simp
    have HB : Hid (Below w.heap.size w wr) := hB
    have HHV : Hid ((MD.eqv n e.k ⟨⟨k0, k1, k2, k3, k4, k5, k6, k7, k8, kp, kpath, kpc⟩, kip, kic, kit⟩).1 = true → e.h = hv) := fun h => (HF.out.mem e he h).2.1
    clear hW heb hlk2 hch hno hgk hB HR he
    obtain ⟨eb, ekb, evb, ⟨⟨a0, a1, a2, a3, a4, a5, a6, a7, a8, ap, apath, apc⟩, aip, aic, ait⟩, ev, eh⟩ := e
    simp only [MD.val, MD.cells, D] at hce hcd hkz HC HHV HNX
    have HM := HEB.out.1
    obtain rfl : b = eb := HEB.out.2.symm
    clear HEB
    have HM : Hid _ := HM
    simp only [pv_some]
    by_cases hhv : eh = hv
    ·subst hhv
     have HC2 : Hid (∀ W, Below wr.heap.size wr W → Calls Tryz.prog 116 #[.agg #[.int .i64 a0, .string a1, .int .i64 a2, .int .u64 a3, .string a4, .int .i64 a5, .int .i64 a6, .int .i64 a7, .int .i64 a8, .slice ap apath.length apc, .slice aip ait.length aic], .agg #[.int .i64 k0, .string k1, .int .i64 k2, .int .u64 k3, .string k4, .int .i64 k5, .int .i64 k6, .int .i64 k7, .int .i64 k8, .slice kp kpath.length kpc, .slice kip kit.length kic]] W fun r w' => r = .returned (.bool (MD.eqv n ⟨⟨a0, a1, a2, a3, a4, a5, a6, a7, a8, ap, apath, apc⟩, aip, aic, ait⟩ ⟨⟨k0, k1, k2, k3, k4, k5, k6, k7, k8, kp, kpath, kpc⟩, kip, kic, kit⟩).1) ∧ Below wr.heap.size wr w') := fun W hW => (HC.out W (HB.out.trans (hW.mono HB.out.size))).mono fun _ _ h => ⟨h.1, hW.trans (h.2.mono hW.size)⟩
     clear HC HHV
     generalize hq : (MD.eqv n ⟨⟨a0, a1, a2, a3, a4, a5, a6, a7, a8, ap, apath, apc⟩, aip, aic, ait⟩ ⟨⟨k0, k1, k2, k3, k4, k5, k6, k7, k8, kp, kpath, kpc⟩, kip, kic, kit⟩).1 = q at HC2 HNX
     have HQ : Hid ((MD.eqv n ⟨⟨a0, a1, a2, a3, a4, a5, a6, a7, a8, ap, apath, apc⟩, aip, aic, ait⟩ ⟨⟨k0, k1, k2, k3, k4, k5, k6, k7, k8, kp, kpath, kpc⟩, kip, kic, kit⟩).1 = q) := hq
     clear hq
     go_wp2_with fail
     go_region_with (go_at_call 116; refine (HC2.out _ ?_).mono ?_; exact (Below.refl _ _).drew; rintro e w2 ⟨rfl, hb3⟩)
     all_goals
      have hce2 : ∀ j, w2.cell? ⟨b, j, none⟩ = (#[.pointer (some ⟨ekb, 0, none⟩), .pointer (some ⟨evb, 0, none⟩), .int .u64 eh, pv (G.nx b), .pointer (some ⟨G.bf b, 0, none⟩), .pointer (some ⟨G.bh b, 0, none⟩), .bool false] : Array Value)[j]? := fun j => (hb3.cell (p := ⟨b, j, none⟩) hbz).trans (hce j)
      have hka2 : ∀ j, w2.cell? ⟨w.heap.size, j, none⟩ = (#[.int .i64 k0, .string k1, .int .i64 k2, .int .u64 k3, .string k4, .int .i64 k5, .int .i64 k6, .int .i64 k7, .int .i64 k8, .slice kp kpath.length kpc, .slice kip kit.length kic] : Array Value)[j]? := fun j => (hb3.cell (p := ⟨w.heap.size, j, none⟩) hza).trans (hka j)
      have hbz2 : b < w2.heap.size := Nat.lt_of_lt_of_le hbz hb3.size
      have hza2 : w.heap.size < w2.heap.size := Nat.lt_of_lt_of_le hza hb3.size
      have HB2 : Hid (Below w.heap.size w w2) := HB.out.trans (hb3.mono HB.out.size)
      clear hce hcd hka hkz HC2 hb3 hbz hza
      cases q with
      | true =>
       go_wp2_with fail
       go_ret
       exact ⟨.inr ⟨_, HM.out, rfl, HQ.out⟩, HB2.out⟩
      | false =>
       have HX := HNX.out w2 HB2.out rfl
       have HX : Hid _ := HX
       go_wp2_with fail
       go_roundg r.length
       case measure => exact HGK.out
       case rel => exact ⟨G.nx b, l1 ++ [b], r, rfl, ⟨HX.out.1, HX.out.2.1, HX.out.2.2.1, rfl, HX.out.2.2.2⟩, hka2, hza2⟩
    ·go_wp2_with fail
     refine wp_region_noPanic ?_
     refine wp_region_held (S := fun W => ∀ j, W.cell? ⟨b, j, none⟩ = (#[.pointer (some ⟨ekb, 0, none⟩), .pointer (some ⟨evb, 0, none⟩), .int .u64 eh, pv (G.nx b), .pointer (some ⟨G.bf b, 0, none⟩), .pointer (some ⟨G.bh b, 0, none⟩), .bool false] : Array Value)[j]?) (by kernel_rfl) ?_
     obtain ⟨W4, hW4⟩ : ∃ W4, W4 = (wr).drew := ⟨_, rfl⟩
     have e4 : ({ wr with drawn := (wr).drawn + 1 } : World) = W4 := hW4.symm
     rw [e4]
     have hB4 : Below (wr).heap.size (wr) W4 := by rw [hW4]; exact (Below.refl _ _).drew
     have hS : ∀ j, W4.cell? ⟨b, j, none⟩ = (#[.pointer (some ⟨ekb, 0, none⟩), .pointer (some ⟨evb, 0, none⟩), .int .u64 eh, pv (G.nx b), .pointer (some ⟨G.bf b, 0, none⟩), .pointer (some ⟨G.bh b, 0, none⟩), .bool false] : Array Value)[j]? := fun j => (hB4.cell (p := ⟨b, j, none⟩) hbz).trans (hce j)
     clear e4 hW4
     refine tq 0 (.pointer (some ⟨b, 0, none⟩)) rfl hS ?_
     simp only [sa, sb, Act.put, sd, se, sf]
     refine tq 1 (.pointer (some ⟨b, 0, none⟩)) rfl hS ?_
     simp only [sa, sb, sc, Act.put, sd, se, sf]
     refine tq 2 (.pointer (some ⟨b, 2, none⟩)) rfl hS ?_
     simp only [sa, sb, sc, Act.put, sd, se, sf]
     refine tk 3 (.int .u64 eh) rfl (.inl ⟨by rfl, ?r⟩) hS ?_
     case r => intro W hW; simp [go_sem, execOp, Act.eval, hW]
     simp only [sa, sb, sc, Act.put, sd, se, sf]
     refine tq 4 (.int .u64 hv) rfl hS ?_
     simp only [sa, sb, sc, Act.put, sd, se, sf]
     refine tk 5 (.bool false) rfl (.inl ⟨by rfl, ?r⟩) hS ?_
     case r => intro W hW; simp [go_sem, execOp, Act.eval, hhv]
     simp only [sa, sb, sc, Act.put, sd, se, sf]
     refine tq 6 (.bool false) rfl hS ?_
     simp only [sa, sb, sc, Act.put, sd, se, sf]
     refine tk 7 undef rfl (.inr ⟨rfl, rfl⟩) hS ?_
     simp only [sa, sb, sc, Act.put, sd, se, sf]
     refine tk 8 undef rfl (.inr ⟨rfl, rfl⟩) hS ?_
     simp only [sa, sb, sc, Act.put, sd, se, sf]
     refine tk 9 undef rfl (.inr ⟨rfl, rfl⟩) hS ?_
     simp only [sa, sb, sc, Act.put, sd, se, sf]
     refine tk 10 undef rfl (.inr ⟨rfl, rfl⟩) hS ?_
     simp only [sa, sb, sc, Act.put, sd, se, sf]
     refine tk 11 undef rfl (.inr ⟨rfl, rfl⟩) hS ?_
     simp only [sa, sb, sc, Act.put, sd, se, sf]
     refine tk 12 undef rfl (.inr ⟨rfl, rfl⟩) hS ?_
     simp only [sa, sb, sc, Act.put, sd, se, sf]
     refine tk 13 undef rfl (.inr ⟨rfl, rfl⟩) hS ?_
     simp only [sa, sb, sc, Act.put, sd, se, sf]
     refine tk 14 undef rfl (.inr ⟨rfl, rfl⟩) hS ?_
     simp only [sa, sb, sc, Act.put, sd, se, sf]
     refine tk 15 undef rfl (.inr ⟨rfl, rfl⟩) hS ?_
     simp only [sa, sb, sc, Act.put, sd, se, sf]
     refine tq 16 (.bool false) rfl hS ?_
     simp only [sa, sb, sc, Act.put, sd, se, sf]
     refine dn ?_
     try simp only [Act.put]
     have hka2 : ∀ j, W4.cell? ⟨w.heap.size, j, none⟩ = (#[.int .i64 k0, .string k1, .int .i64 k2, .int .u64 k3, .string k4, .int .i64 k5, .int .i64 k6, .int .i64 k7, .int .i64 k8, .slice kp kpath.length kpc, .slice kip kit.length kic] : Array Value)[j]? := fun j => (hB4.cell (p := ⟨w.heap.size, j, none⟩) hza).trans (hka j)
     have hbz2 : b < W4.heap.size := Nat.lt_of_lt_of_le hbz hB4.size
     have hza2 : w.heap.size < W4.heap.size := Nat.lt_of_lt_of_le hza hB4.size
     have HB2 : Hid (Below w.heap.size w W4) := HB.out.trans (hB4.mono HB.out.size)
     clear hce hcd hka hkz HC hB4 hbz hza
     go_wp2_with fail
     go_roundg r.length
     case measure => exact HGK.out
     case rel =>
      have HX := HNX.out W4 HB2.out ?_
      exact ⟨G.nx b, l1 ++ [b], r, rfl, ⟨HX.1, HX.2.1, HX.2.2.1, rfl, HX.2.2.2⟩, hka2, hza2⟩
      cases hq : (MD.eqv n ⟨⟨a0, a1, a2, a3, a4, a5, a6, a7, a8, ap, apath, apc⟩, aip, aic, ait⟩ ⟨⟨k0, k1, k2, k3, k4, k5, k6, k7, k8, kp, kpath, kpc⟩, kip, kic, kit⟩).1 with
      | false => rfl
      | true => exact absurd (HHV.out hq) hhv
theorem find_any (n : Nat) (w : World) (m : Nat) (es : List Ent) (G : KG) (k : MD) (hv : Int) (h0 : 0 ≤ hv) (h1 : hv < 18446744073709551616) (hN : NamesAt w) (hK : KM n w m es G) (hk : MD.In w.heap.size w n k) (hr : MD.right n k = true) (hh : hv = MD.hash n seed k) (hE : EqP n k k) (hEs : ∀ e ∈ es, EqP n e.k k) :
  Calls Tryz.prog 78 #[.pointer (some ⟨m, 0, none⟩), k.val, .int .u64 hv] w fun r w' => FindP n es k r ∧ Below w.heap.size w w' := by
 obtain ⟨i, hi⟩ := hK.findIn h0 h1 hN hk hr hh hE hEs
 exact find_walk n w m es G k hv i hi
end Go.Proofs.YtdbijkgnddcneaaGreatDoor
namespace Go.Proofs.YtdbijkgnddcneaaGreatDoor
open Go.RowKit
structure KMp (n : Nat) (w : World) (m : Nat) (es : List Ent) (G : KG) (S : Nat → Prop) : Prop where
 map : ∃ ct : Int, w.heap[m]? = some (.cells #[.slice (some ⟨G.hb, 0, none⟩) G.L G.cap, .pointer (some ⟨G.rb, 0, none⟩), .int .i64 ct] 162 (0, 0))
 L1 : 1 ≤ G.L
 Lc : G.L ≤ G.cap
 Lm : G.L ≤ 1099511627776
 capm : G.cap ≤ maxLen
 heads : ∃ cur, w.heap[G.hb]? = some (.cells cur 254 (0, 0)) ∧ cur.size = 8 * G.cap ∧ ∀ i, i < 8 * G.L → cur[i]? = some (pv (G.hd i))
 ring : EntAt w G.rb (.pointer none) (.pointer none) 0 none (G.bf G.rb) (G.bh G.rb) false
 ent : ∀ e ∈ es, EntAt w e.b (.pointer (some ⟨e.kb, 0, none⟩)) (.pointer (some ⟨e.vb, 0, none⟩)) e.h (G.nx e.b) (G.bf e.b) (G.bh e.b) false
 box : ∀ e ∈ es, Box w n e.kb e.k ∧ Box w n e.vb e.v
 adj : Adj G.bf G.bh (G.rb :: es.map Ent.b ++ [G.rb])
 nod : (G.rb :: es.map Ent.b).Nodup
 chain : ∀ i, i < 8 * G.L → Lk G.nx (G.hd i) (G.ch i) ∧ (G.ch i).Nodup ∧ ∀ b, b ∈ G.ch i ↔ ∃ e ∈ es, e.b = b ∧ S b ∧ e.h % (8 * G.L : Nat) = (i : Int)
 key : ∀ e ∈ es, KeyOK n e
 apart : es.Pairwise fun a b => (MD.eqv n a.k b.k).1 = false
variable {n : Nat} {w w' : World} {m : Nat} {es : List Ent} {G : KG} {S : Nat → Prop}
theorem KMp.whole (h : KMp n w m es G S) (hS : ∀ e ∈ es, S e.b) (hm : w.heap[m]? = some (.cells #[.slice (some ⟨G.hb, 0, none⟩) G.L G.cap, .pointer (some ⟨G.rb, 0, none⟩), .int .i64 es.length] 162 (0, 0))) (hf : es.length ≤ 8 * G.L) : KM n w m es G :=
 ⟨hm, h.L1, h.Lc, h.Lm, h.capm, h.heads, h.ring, h.ent, h.box, h.adj, h.nod, fun i hi => ⟨(h.chain i hi).1, (h.chain i hi).2.1, fun b => by
  rw [(h.chain i hi).2.2 b]
  exact ⟨fun ⟨e, h1, h2, _, h4⟩ => ⟨e, h1, h2, h4⟩, fun ⟨e, h1, h2, h4⟩ => ⟨e, h1, h2, h2 ▸ hS e h1, h4⟩⟩⟩, hf, h.key, h.apart⟩
theorem KMp.tag (h : KMp n w m es G S) {b : Nat} (hb : KM.own m es G b) : ∃ c t, w.heap[b]? = some (.cells c t (0, 0)) ∧ (t = 162 ∨ t = 254 ∨ t = 159) := by
 rcases hb with rfl | rfl | rfl | hb
 ·obtain ⟨ct, h1⟩ := h.map
  exact ⟨_, _, h1, .inl rfl⟩
 ·obtain ⟨cur, h1, _⟩ := h.heads
  exact ⟨_, _, h1, .inr (.inl rfl)⟩
 ·exact ⟨_, _, h.ring, .inr (.inr rfl)⟩
 ·obtain ⟨e, he, rfl⟩ := List.mem_map.1 hb
  exact ⟨_, _, h.ent e he, .inr (.inr rfl)⟩
theorem KMp.data (h : KMp n w m es G S) : ∀ g c t, (t = 3 ∨ t = 32) → w.heap[g]? = some (.cells c t (0, 0)) → ¬ KM.own m es G g := fun g c t ht hg ho => by
 obtain ⟨c', t', h1, h2⟩ := h.tag ho
 rw [hg] at h1
 injection h1 with h1
 injection h1 with _ h1
 subst h1
 rcases ht with rfl | rfl <;> rcases h2 with h2 | h2 | h2 <;> exact absurd h2 (by decide)
def KG.hung (G : KG) (b i : Nat) : KG := { G with nx := up G.nx b (G.hd i), hd := up G.hd i (some b), ch := up G.ch i (b :: G.ch i) }
theorem set_get (cur : Array Value) (i j : Nat) (v : Value) : (cur.setIfInBounds i v)[j]? = if j = i ∧ i < cur.size then some v else cur[j]? := by
 rw [Array.getElem?_setIfInBounds]
 by_cases h : i = j
 ·subst h
  by_cases h2 : i < cur.size <;> simp [h2]
 ·have h' : ¬ j = i := fun e => h e.symm
  simp [h, h']
theorem KMp.hang (h : KMp n w m es G S) {e : Ent} (he : e ∈ es) (hS : ¬ S e.b) {i : Nat} (hi : i < 8 * G.L) (hei : e.h % (8 * G.L : Nat) = (i : Int)) :
  KMp n ((w.setCell ⟨e.b, 3, none⟩ (pv (G.hd i))).setCell ⟨G.hb, i, none⟩ (.pointer (some ⟨e.b, 0, none⟩))) m es (G.hung e.b i) (fun b => S b ∨ b = e.b) := by
 obtain ⟨cur, c1, c2, c3⟩ := h.heads
 obtain ⟨ct, hm⟩ := h.map
 have hk : KeepS (KM.own m es G) w ((w.setCell ⟨e.b, 3, none⟩ (pv (G.hd i))).setCell ⟨G.hb, i, none⟩ (.pointer (some ⟨e.b, 0, none⟩))) :=
  ((KeepS.refl _ w).set _ (fun _ => .inr (.inr (.inr (List.mem_map_of_mem he))))).set _ (fun _ => .inr (.inl rfl))
 have hne : e.b ≠ G.hb := (h.ent e he).ne c1 (by decide)
 have hent : ∀ {b kp vp hh bf bh g}, EntAt w b kp vp hh (G.nx b) bf bh g → EntAt ((w.setCell ⟨e.b, 3, none⟩ (pv (G.hd i))).setCell ⟨G.hb, i, none⟩ (.pointer (some ⟨e.b, 0, none⟩))) b kp vp hh ((G.hung e.b i).nx b) bf bh g := fun hb => (hb.up3 e.b (G.hd i)).other _ (hb.ne c1 (by decide))
 have hmS : ∀ b, b ∈ G.ch i → b ≠ e.b := fun b hb q => by
  obtain ⟨x, _, _, hx, _⟩ := ((h.chain i hi).2.2 b).1 hb
  exact hS (q ▸ hx)
 refine ⟨⟨ct, ?_⟩, h.L1, h.Lc, h.Lm, h.capm, ?_, ?_, fun x hx => hent (h.ent x hx), fun x hx => ⟨(h.box x hx).1.keep hk h.data, (h.box x hx).2.keep hk h.data⟩, h.adj, h.nod, fun j hj => ?_, h.key, h.apart⟩
 ·refine (heap_setCell_other _ _ _ _ _ (tag_ne hm c1 (by decide))).trans ((heap_setCell_other _ _ _ _ _ ?_).trans hm)
  exact ((h.ent e he).ne hm (by decide)).symm
 ·refine ⟨cur.setIfInBounds i (.pointer (some ⟨e.b, 0, none⟩)), row_set ((heap_setCell_other _ _ _ _ _ hne.symm).trans c1) i _, by rw [Array.size_setIfInBounds]; exact c2, fun j hj => ?_⟩
  rw [set_get]
  by_cases hji : j = i
  ·subst hji
   rw [if_pos ⟨rfl, by have := h.Lc; have : j < 8 * G.L := hj; omega⟩]
   show _ = some (pv (up G.hd j (some e.b) j))
   rw [up_at]; rfl
  ·rw [if_neg (fun q => hji q.1)]
   show _ = some (pv (up G.hd i (some e.b) j))
   rw [up_ne _ _ hji]
   exact c3 j hj
 ·have hr := h.ring
  have hrb : G.rb ≠ e.b := fun q => by
   have := (List.nodup_cons.1 h.nod).1
   rw [q] at this
   exact this (List.mem_map_of_mem he)
  exact (hr.other _ hrb).other _ (hr.ne c1 (by decide))
 ·obtain ⟨a1, a2, a3⟩ := h.chain j hj
  by_cases hji : j = i
  ·subst hji
   show Lk (up G.nx e.b (G.hd j)) (up G.hd j (some e.b) j) (up G.ch j (e.b :: G.ch j) j) ∧ _
   rw [up_at]
   show _ ∧ (up G.ch j (e.b :: G.ch j) j).Nodup ∧ ∀ b, b ∈ up G.ch j (e.b :: G.ch j) j ↔ _
   rw [up_at]
   refine ⟨a1.hang e.b (fun q => hmS _ q rfl), List.nodup_cons.2 ⟨fun q => hmS _ q rfl, a2⟩, fun b => ?_⟩
   rw [List.mem_cons, a3 b]
   constructor
   ·rintro (rfl | ⟨x, x1, x2, x3, x4⟩)
    ·exact ⟨e, he, rfl, .inr rfl, hei⟩
    ·exact ⟨x, x1, x2, .inl x3, x4⟩
   ·rintro ⟨x, x1, x2, x3 | x3, x4⟩
    ·exact .inr ⟨x, x1, x2, x3, x4⟩
    ·exact .inl x3
  ·show Lk (up G.nx e.b (G.hd i)) (up G.hd i (some e.b) j) (up G.ch i (e.b :: G.ch i) j) ∧ (up G.ch i (e.b :: G.ch i) j).Nodup ∧ ∀ b, b ∈ up G.ch i (e.b :: G.ch i) j ↔ _
   rw [up_ne _ _ hji, up_ne _ _ hji]
   have hnj : e.b ∉ G.ch j := fun q => by
    obtain ⟨x, _, x2, x3, _⟩ := (a3 e.b).1 q
    exact hS x3
   refine ⟨Lk.congr _ _ (fun b hb => up_ne _ _ (fun q => hnj (q ▸ hb))) a1, a2, fun b => ?_⟩
   rw [a3 b]
   constructor
   ·rintro ⟨x, x1, x2, x3, x4⟩
    exact ⟨x, x1, x2, .inl x3, x4⟩
   ·rintro ⟨x, x1, x2, x3 | x3, x4⟩
    ·exact ⟨x, x1, x2, x3, x4⟩
    ·have := map_inj (List.nodup_cons.1 h.nod).2 x x1 e he (x2.trans x3)
     subst this
     have x4 : x.h % ((8 * G.L : Nat) : Int) = (j : Int) := x4
     rw [hei] at x4
     exact absurd (by exact_mod_cast x4) (Ne.symm hji)
theorem hang_any (h : KMp n w m es G S) {e : Ent} (he : e ∈ es) (hS : ¬ S e.b) :
  Calls Tryz.prog 118 #[.pointer (some ⟨m, 0, none⟩), .pointer (some ⟨e.b, 0, none⟩)] w fun r w' => r = .returned (.tuple #[]) ∧ ∃ i, w' = (w.setCell ⟨e.b, 3, none⟩ (pv (G.hd i))).setCell ⟨G.hb, i, none⟩ (.pointer (some ⟨e.b, 0, none⟩)) ∧ KMp n w' m es (G.hung e.b i) (fun b => S b ∨ b = e.b) ∧ i < 8 * G.L ∧ e.h % (8 * G.L : Nat) = (i : Int) := by
 have hL := h.L1
 have z0 : 0 ≤ e.h % ((8 * G.L : Nat) : Int) := Int.emod_nonneg _ (by omega)
 have z1 : e.h % ((8 * G.L : Nat) : Int) < ((8 * G.L : Nat) : Int) := Int.emod_lt_of_pos _ (by omega)
 obtain ⟨i, hi⟩ : ∃ i : Nat, e.h % ((8 * G.L : Nat) : Int) = i := ⟨(e.h % ((8 * G.L : Nat) : Int)).toNat, by omega⟩
 have hiL : i < 8 * G.L := by omega
 obtain ⟨cur, c1, c2, c3⟩ := h.heads
 obtain ⟨ct, hm⟩ := h.map
 have hk := (h.key e he).2.2.2.1
 refine (hang_raw w m e.b G.hb G.L G.cap i e.h cur ((G.hd i).map fun b => ⟨b, 0, none⟩) _ _ _ _ _ _ hk.1 hk.2 h.L1 h.Lm (row_at hm 0) (h.ent e he) c1 hi (c3 i hiL)).mono ?_
 rintro r w1 ⟨rfl, rfl⟩
 exact ⟨rfl, i, rfl, h.hang he hS hiL hi, hiL, hi⟩
end Go.Proofs.YtdbijkgnddcneaaGreatDoor
