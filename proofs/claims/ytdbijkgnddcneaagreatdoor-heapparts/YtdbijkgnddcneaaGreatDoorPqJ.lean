/-
  The law of parts: its second loop, down the whole.
  The law of parts behind its first loop.
-/
import Derived.Test.YtdbijkgnddcneaaGreatDoorPoJ
namespace Go.Proofs.YtdbijkgnddcneaaGreatDoor
open Go.RowKit Go.ChangeMaps
attribute [local go_sem] refold2 cell3_0 cell3_1 b28_0 b28_01

noncomputable def bodyP2 : Code := (((pieceQ 12) |> firstLoop).getD .skip)
/-- In the second loop: how far it has come. -/
def L2Rp (k : Nat) (n : Int) (bq bx : Nat) (w : World) (i : Value) (wr : World) : Prop := ∃ (c : Nat) (x : MD) (pp : Option Addr) (pc : Nat), i = .int .i64 (c : Int) ∧ c ≤ k ∧ wr.heap[bq]? = some (.cells #[.int .i64 9, .string ⟨#[83]⟩, .int .i64 0, .int .u64 0, .string ⟨#[]⟩, .int .i64 1, .int .i64 0, .int .i64 0, .int .i64 0, .slice pp c pc, .slice none 0 0] 32) ∧ wr.heap[bx]? = some (.cells x.cells 32) ∧ MD.In wr.heap.size wr (5 + (k - c)) x ∧ MD.Avoid (fun i => i = bq ∨ i = bx) (5 + (k - c)) x ∧ MD.same (5 + (k - c)) (tow (base1 n) (k - c)) x = true ∧ OnesAt wr pp c ∧ c ≤ pc ∧ pc ≤ maxLen ∧ (c = 0 → pp = none) ∧ (∀ b o, pp = some ⟨b, o, none⟩ → w.heap.size ≤ b) ∧ Kp (fun i => i = bq ∨ i = bx) w wr
set_option maxRecDepth 1000000 in
def L2P (k : Nat) (m : Int) (hb bd bp bt bq bx : Nat) (n : Int) (w : World) (a : Act) (wr : World) : Prop := ∃ (u : Nat → Value) (i : Value), L2Rp k n bq bx w i wr ∧ a = (GP (u 0) (u 1) (.int .i64 m) (.pointer (some ⟨hb, 0, none⟩)) (.pointer (some ⟨bd, 0, none⟩)) (.int .i64 (k : Int)) (u 11) (.pointer (some ⟨bp, 0, none⟩)) (u 13) (.pointer (some ⟨bt, 0, none⟩)) (u 15) (.pointer (some ⟨bq, 0, none⟩)) (.pointer (some ⟨bx, 0, none⟩)) i (u 23) (u 24) (u 25) (u 26) (u 27) (u 28) (u 29) (u 30) (u 31) (u 32) (u 33) (u 34) (u 35) (u 36) u)
set_option maxRecDepth 1000000 in
theorem l2p_close (k : Nat) (m : Int) (hb bd bp bt bq bx : Nat) (n : Int) (w : World) (a : Act) (wr : World) (h : L2Rp k n bq bx w (a.tmps.getD 18 undef) wr) (ha : a = (GP (a.tmps.getD 0 undef) (a.tmps.getD 1 undef) (.int .i64 m) (.pointer (some ⟨hb, 0, none⟩)) (.pointer (some ⟨bd, 0, none⟩)) (.int .i64 (k : Int)) (a.tmps.getD 11 undef) (.pointer (some ⟨bp, 0, none⟩)) (a.tmps.getD 13 undef) (.pointer (some ⟨bt, 0, none⟩)) (a.tmps.getD 15 undef) (.pointer (some ⟨bq, 0, none⟩)) (.pointer (some ⟨bx, 0, none⟩)) (a.tmps.getD 18 undef) (a.tmps.getD 23 undef) (a.tmps.getD 24 undef) (a.tmps.getD 25 undef) (a.tmps.getD 26 undef) (a.tmps.getD 27 undef) (a.tmps.getD 28 undef) (a.tmps.getD 29 undef) (a.tmps.getD 30 undef) (a.tmps.getD 31 undef) (a.tmps.getD 32 undef) (a.tmps.getD 33 undef) (a.tmps.getD 34 undef) (a.tmps.getD 35 undef) (a.tmps.getD 36 undef) (fun k => a.tmps.getD k undef))) : L2P k m hb bd bp bt bq bx n w a wr := ⟨fun k => a.tmps.getD k undef, _, h, ha⟩
set_option maxRecDepth 1000000 in
def L2Q (k : Nat) (m : Int) (hb bd bp bt bq bx : Nat) (w : World) (a : Act) (wr : World) : Prop := ∃ (pp : Option Addr) (pc : Nat), wr.heap[bq]? = some (.cells #[.int .i64 9, .string ⟨#[83]⟩, .int .i64 0, .int .u64 0, .string ⟨#[]⟩, .int .i64 1, .int .i64 0, .int .i64 0, .int .i64 0, .slice pp k pc, .slice none 0 0] 32) ∧ OnesAt wr pp k ∧ k ≤ pc ∧ pc ≤ maxLen ∧ (∀ b o, pp = some ⟨b, o, none⟩ → w.heap.size ≤ b) ∧ Kp (fun i => i = bq ∨ i = bx) w wr ∧ a = (GP (a.tmps.getD 0 undef) (a.tmps.getD 1 undef) (.int .i64 m) (.pointer (some ⟨hb, 0, none⟩)) (.pointer (some ⟨bd, 0, none⟩)) (.int .i64 (k : Int)) (a.tmps.getD 11 undef) (.pointer (some ⟨bp, 0, none⟩)) (a.tmps.getD 13 undef) (.pointer (some ⟨bt, 0, none⟩)) (a.tmps.getD 15 undef) (.pointer (some ⟨bq, 0, none⟩)) (.pointer (some ⟨bx, 0, none⟩)) (.int .i64 (k : Int)) (a.tmps.getD 23 undef) (a.tmps.getD 24 undef) (a.tmps.getD 25 undef) (a.tmps.getD 26 undef) (a.tmps.getD 27 undef) (a.tmps.getD 28 undef) (a.tmps.getD 29 undef) (a.tmps.getD 30 undef) (a.tmps.getD 31 undef) (a.tmps.getD 32 undef) (a.tmps.getD 33 undef) (a.tmps.getD 34 undef) (a.tmps.getD 35 undef) (a.tmps.getD 36 undef) (fun k => a.tmps.getD k undef))
def L2mp (k : Nat) (a : Act) (_ : World) : Nat := k - (intOf (a.tmps.getD 18 undef)).toNat
set_option maxRecDepth 1000000 in
set_option maxHeartbeats 16000000 in
theorem loopP2 (k : Nat) (m : Int) (hb bd bp bt bq bx : Nat) (n : Int) (M ab1 ab2 : Nat) (d1 : MD) (hk6 : k ≤ 6) (w0 w : World) (u_w : Below w0.heap.size w0 w) (hN : ∀ W, Below w0.heap.size w0 W → NamesAt W) (h1_w : Held w hb M [.iface 84 (.pointer (some ⟨ab1, 0, none⟩)), .iface 84 (.pointer (some ⟨ab2, 0, none⟩))] 0 ab1 k (base1 n) d1) (hA1 : MD.Avoid (fun i => i = bq ∨ i = bx) (5 + k) d1) (hne : hb ≠ bq ∧ hb ≠ bx ∧ M ≠ bq ∧ M ≠ bx ∧ ab1 ≠ bq ∧ ab1 ≠ bx ∧ bp ≠ bq ∧ bp ≠ bx ∧ bq ≠ bx ∧ w0.heap.size ≤ bq ∧ w0.heap.size ≤ bx) (hlq : bq < w.heap.size ∧ bx < w.heap.size)
    (bp_w : w.heap[bp]? = some (.cells #[.int .i64 9, .string ⟨#[83]⟩, .int .i64 0, .int .u64 0, .string ⟨#[]⟩, .int .i64 1, .int .i64 0, .int .i64 0, .int .i64 0, .slice none 0 0, .slice none 0 0] 32)) (K : Act → World → Prop) (QQ : Exit → Act → World → Prop)
    (hK : ∀ (a : Act) (wr : World), L2Q k m hb bd bp bt bq bx w a wr → K a wr) (a1 : Act) (hI : L2P k m hb bd bp bt bq bx n w a1 w) :
    Code.wp Tryz.prog (Code.loop bodyP2) (Exit.inBlock 2 (Exit.then K QQ)) a1 w := by
  have HK : Hid _ := hK
  have HN : Hid _ := hN
  have HNE : Hid _ := hne
  clear hK hN hne
  refine wp_loop (L2P k m hb bd bp bt bq bx n w) (L2mp k) hI (fun a0 wr hGI => ?_)
  clear hI
  obtain ⟨u, i, ⟨c, x, pp, pc, rfl, hc, bqf_wr, bxf_wr, xi_wr, xav, xs, pO_wr, hcp, hcm, h0, hpl, kk_wr⟩, rfl⟩ := hGI
  have hws := kk_wr.size
  by_cases hlt : c < k
  · have h1_wr := h1_w.apart kk_wr (by have := HNE.out; omega) (by have := HNE.out; omega) (by have := HNE.out; omega) hA1
    have bp_wr := (kk_wr.block _ (hblk bp_w) (by have := HNE.out; omega)).trans bp_w
    have nm_wr := HN.out _ (u_w.trans (kk_wr.below u_w.size fun i hi e => by have := HNE.out; omega))
    have i1 : (c : Int) < k := by omega
    clear h1_w bp_w hA1
    unfold GP
    conv => arg 2; whnf
    have cc := (cells_of bqf_wr).1
    go_wp2_with fail
    refine Calls.mono (h1_wr.read nm_wr c hc pp pc pO_wr hcp hcm) ?_
    rintro _ V1 ⟨was, rfl, wi, wa, ws, cV1⟩
    obtain ⟨was0, ew⟩ : ∃ x, x = was := ⟨_, rfl⟩
    rw [← ew] at wi wa ws
    obtain ⟨⟨k1, t1, n1, f1, s1, x1, y1, z1, u1, pp1, path1, pc1⟩, ip1, ic1, items1⟩ := was
    simp only [MD.val, D]
    clear cc wa
    have h1_V1 := Held.below h1_wr cV1
    have bp_V1 := (cV1.block _ (hblk bp_wr)).trans bp_wr
    have bqf_V1 := (cV1.block _ (hblk bqf_wr)).trans bqf_wr
    have bxf_V1 := (cV1.block _ (hblk bxf_wr)).trans bxf_wr
    have pO_V1 := OnesAt.below pO_wr cV1
    have nm_V1 := NamesAt.kept nm_wr cV1
    have kk_V1 := kk_wr.next cV1
    have xi_V1 := MD.In.mono cV1.size _ _ (MD.In.below cV1 _ _ xi_wr)
    clear h1_wr bp_wr bqf_wr bxf_wr pO_wr nm_wr kk_wr xi_wr
    have zs1 := cV1.size
    clear cV1
    have cc := (cells_of bqf_V1).1
    have lq := hblk bqf_V1
    go_wp2_with fail
    obtain ⟨V2, eV2⟩ : ∃ W, W = V1.alloc (.cells #[.int .i64 k1, .string t1, .int .i64 n1, .int .u64 f1, .string s1, .int .i64 x1, .int .i64 y1, .int .i64 z1, .int .i64 u1, .slice pp1 path1.length pc1, .slice ip1 items1.length ic1] 32) := ⟨_, rfl⟩
    rw [← eV2]
    have cV2 : Below V1.heap.size V1 V2 := by rw [eV2]; exact below1 _ _
    have yV2 : V1.heap.size < V2.heap.size := by rw [eV2]; simp
    have nV2 : V2.heap[V1.heap.size]? = some (.cells #[.int .i64 k1, .string t1, .int .i64 n1, .int .u64 f1, .string s1, .int .i64 x1, .int .i64 y1, .int .i64 z1, .int .i64 u1, .slice pp1 path1.length pc1, .slice ip1 items1.length ic1] 32) := by rw [eV2]; exact heap_alloc_new _ _
    clear eV2
    have wi2 := MD.In.mono cV2.size _ _ (MD.In.below cV2 _ _ wi)
    have h1_V2 := Held.below h1_V1 cV2
    have bp_V2 := (cV2.block _ (hblk bp_V1)).trans bp_V1
    have bqf_V2 := (cV2.block _ (hblk bqf_V1)).trans bqf_V1
    have bxf_V2 := (cV2.block _ (hblk bxf_V1)).trans bxf_V1
    have pO_V2 := OnesAt.below pO_V1 cV2
    have nm_V2 := NamesAt.kept nm_V1 cV2
    have kk_V2 := kk_V1.next cV2
    have xi_V2 := MD.In.mono cV2.size _ _ (MD.In.below cV2 _ _ xi_V1)
    clear h1_V1 bp_V1 bqf_V1 bxf_V1 pO_V1 nm_V1 kk_V1 xi_V1
    clear cV2 cc lq wi
    refine Calls.mono (h1_V2.partAt nm_V2 c (by omega) pp pc pO_V2 h0 hcp hcm) ?_
    rintro _ V3 ⟨gp, gc, rfl, og, hgc, hgm, hgl, cV3⟩
    have wi3 := MD.In.mono cV3.size _ _ (MD.In.below cV3 _ _ wi2)
    have nw3 := (cV3.block _ (hblk nV2)).trans nV2
    have h1_V3 := Held.below h1_V2 cV3
    have bp_V3 := (cV3.block _ (hblk bp_V2)).trans bp_V2
    have bqf_V3 := (cV3.block _ (hblk bqf_V2)).trans bqf_V2
    have bxf_V3 := (cV3.block _ (hblk bxf_V2)).trans bxf_V2
    have pO_V3 := OnesAt.below pO_V2 cV3
    have nm_V3 := NamesAt.kept nm_V2 cV3
    have kk_V3 := kk_V2.next cV3
    have xi_V3 := MD.In.mono cV3.size _ _ (MD.In.below cV3 _ _ xi_V2)
    clear h1_V2 bp_V2 bqf_V2 bxf_V2 pO_V2 nm_V2 kk_V2 xi_V2
    have zs3 := cV3.size
    clear cV3 wi2 nV2 pO_V3
    have e1 : ((0 : Nat) : Int) + 1 = 1 := rfl
    simp only [ptrD, MD.val, D, List.length_replicate, List.length_nil, e1]
    clear e1
    obtain ⟨x0, ex⟩ : ∃ y, y = x := ⟨_, rfl⟩
    rw [← ex] at xi_V3 xav xs
    obtain ⟨⟨k3, t3, n3, f3, s3, x3, y3, z3, u3, pp3, path3, pc3⟩, ip3, ic3, items3⟩ := x
    simp only [MD.cells] at bxf_V3
    have HSM : Hid (∀ W, Below V3.heap.size V3 W → Calls Tryz.prog 19 #[.agg #[.int .i64 k1, .string t1, .int .i64 n1, .int .u64 f1, .string s1, .int .i64 x1, .int .i64 y1, .int .i64 z1, .int .i64 u1, .slice pp1 path1.length pc1, .slice ip1 items1.length ic1], .agg #[.int .i64 k3, .string t3, .int .i64 n3, .int .u64 f3, .string s3, .int .i64 x3, .int .i64 y3, .int .i64 z3, .int .i64 u3, .slice pp3 path3.length pc3, .slice ip3 items3.length ic3]] W fun r w' => r = .returned (.bool true) ∧ Below W.heap.size W w') := by
      have := same_call (5 + (k - c)) was0 x0 V3 wi3 xi_V3 (same_trans _ _ _ _ (same_comm _ _ _ ws) xs)
      rw [ew, ex] at this
      exact this
    have cw := (cells_of nw3).1
    have cx := (cells_of bxf_V3).1
    have lw := hblk nw3
    have lx := hblk bxf_V3
    clear wi3 ws ew
    go_wp2_with fail
    obtain ⟨V4, eV4⟩ : ∃ W, W = V3.alloc (.cells #[.int .i64 9, .string ⟨#[83]⟩, .int .i64 0, .int .u64 0, .string ⟨#[]⟩, .int .i64 1, .int .i64 0, .int .i64 0, .int .i64 0, .slice gp (c + 1) gc, .slice none 0 0] 32) := ⟨_, rfl⟩
    rw [← eV4]
    have cV4 : Below V3.heap.size V3 V4 := by rw [eV4]; exact below1 _ _
    have yV4 : V3.heap.size < V4.heap.size := by rw [eV4]; simp
    have nV4 : V4.heap[V3.heap.size]? = some (.cells #[.int .i64 9, .string ⟨#[83]⟩, .int .i64 0, .int .u64 0, .string ⟨#[]⟩, .int .i64 1, .int .i64 0, .int .i64 0, .int .i64 0, .slice gp (c + 1) gc, .slice none 0 0] 32) := by rw [eV4]; exact heap_alloc_new _ _
    clear eV4
    have h1_V4 := Held.below h1_V3 cV4
    have bp_V4 := (cV4.block _ (hblk bp_V3)).trans bp_V3
    have bqf_V4 := (cV4.block _ (hblk bqf_V3)).trans bqf_V3
    have bxf_V4 := (cV4.block _ (hblk bxf_V3)).trans bxf_V3
    have pO_V4 := OnesAt.below og cV4
    have nm_V4 := NamesAt.kept nm_V3 cV4
    have kk_V4 := kk_V3.next cV4
    have xi_V4 := MD.In.mono cV4.size _ _ (MD.In.below cV4 _ _ xi_V3)
    clear h1_V3 bp_V3 bqf_V3 bxf_V3 og nm_V3 kk_V3 xi_V3
    refine (HSM.out _ cV4).mono ?_
    clear cw cx lw lx nw3
    rintro _ V5 ⟨rfl, cV5⟩
    have np5 := (cV5.block _ (hblk nV4)).trans nV4
    have zs4 := cV4.size
    have h1_V5 := Held.below h1_V4 cV5
    have bp_V5 := (cV5.block _ (hblk bp_V4)).trans bp_V4
    have bqf_V5 := (cV5.block _ (hblk bqf_V4)).trans bqf_V4
    have bxf_V5 := (cV5.block _ (hblk bxf_V4)).trans bxf_V4
    have pO_V5 := OnesAt.below pO_V4 cV5
    have nm_V5 := NamesAt.kept nm_V4 cV5
    have kk_V5 := kk_V4.next cV5
    have xi_V5 := MD.In.mono cV5.size _ _ (MD.In.below cV5 _ _ xi_V4)
    clear h1_V4 bp_V4 bqf_V4 bxf_V4 pO_V4 nm_V4 kk_V4 xi_V4
    have zs5 := cV5.size
    clear cV5 cV4 nV4 HSM
    have cp := (cells_of np5).1
    have cb := (cells_of bp_V5).1
    obtain ⟨cq, fq⟩ := cells_of bqf_V5
    obtain ⟨cx, fx⟩ := cells_of bxf_V5
    subst ex
    obtain ⟨r, hr⟩ : ∃ r, k - c = r + 1 := ⟨k - c - 1, by omega⟩
    rw [hr] at xi_V5 xs xav
    obtain ⟨xa, xb, hit, _, hsb, _, _⟩ := tow_parts xs
    obtain rfl : items3 = [xa, xb] := hit
    obtain ⟨_, _, _, _, h5⟩ := (show MD.In V5.heap.size V5 (5 + r + 1) _ from xi_V5)
    obtain ⟨_, av2, av3⟩ := (show MD.Avoid (fun i => i = bq ∨ i = bx) (5 + r + 1) _ from xav)
    rcases h5 with h5 | ⟨gi, oi, e1, e2, e3⟩
    · cases h5
    obtain rfl : ip3 = some ⟨gi, oi, none⟩ := e1
    have hgi : ¬ (gi = bq ∨ gi = bx) := by
      rcases av2 with e | e
      · cases e
      · exact e gi oi rfl
    have hCb : MD.CellsAt V5 gi (oi + 1 * 11) xb ∧ MD.In V5.heap.size V5 (5 + r) xb := e3 1 (by simp)
    have hAb : MD.Avoid (fun i => i = bq ∨ i = bx) (5 + r) xb := av3 xb (by simp)
    have H : Hid (MD.In V5.heap.size V5 (5 + r) xb ∧ MD.Avoid (fun i => i = bq ∨ i = bx) (5 + r) xb ∧ MD.same (5 + r) (tow (base1 n) r) xb = true) := ⟨hCb.2, hAb, hsb⟩
    have hC := hCb.1
    have HO5 : Hid (OnesAt V5 gp (c + 1)) := pO_V5
    clear e3 xi_V5 xs xav av2 av3 hCb hAb hsb pO_V5
    obtain ⟨e4, he4⟩ : ∃ e4, e4 = xb := ⟨_, rfl⟩
    rw [← he4] at H
    have hec : e4.cells = xb.cells := by rw [he4]
    obtain ⟨⟨k4, t4, n4, f4, s4, x4, y4, z4, u4, pp4, path4, pc4⟩, ip4, ic4, items4⟩ := xb
    simp only [MD.cells] at hec
    have r0 : V5.cell? ⟨gi, oi + 1 * 11, none⟩ = some (.int .i64 k4) := hC 0 (by omega)
    have r1 : V5.cell? ⟨gi, oi + 1 * 11 + 1, none⟩ = some (.string t4) := hC 1 (by omega)
    have r2 : V5.cell? ⟨gi, oi + 1 * 11 + 2, none⟩ = some (.int .i64 n4) := hC 2 (by omega)
    have r3 : V5.cell? ⟨gi, oi + 1 * 11 + 3, none⟩ = some (.int .u64 f4) := hC 3 (by omega)
    have r4 : V5.cell? ⟨gi, oi + 1 * 11 + 4, none⟩ = some (.string s4) := hC 4 (by omega)
    have r5 : V5.cell? ⟨gi, oi + 1 * 11 + 5, none⟩ = some (.int .i64 x4) := hC 5 (by omega)
    have r6 : V5.cell? ⟨gi, oi + 1 * 11 + 6, none⟩ = some (.int .i64 y4) := hC 6 (by omega)
    have r7 : V5.cell? ⟨gi, oi + 1 * 11 + 7, none⟩ = some (.int .i64 z4) := hC 7 (by omega)
    have r8 : V5.cell? ⟨gi, oi + 1 * 11 + 8, none⟩ = some (.int .i64 u4) := hC 8 (by omega)
    have r9 : V5.cell? ⟨gi, oi + 1 * 11 + 9, none⟩ = some (.slice pp4 path4.length pc4) := hC 9 (by omega)
    have r10 : V5.cell? ⟨gi, oi + 1 * 11 + 10, none⟩ = some (.slice ip4 items4.length ic4) := hC 10 (by omega)
    have HEC : Hid (e4.cells = _) := hec
    have q1 : gi ≠ bq := fun e => hgi (.inl e)
    have q2 : gi ≠ bx := fun e => hgi (.inr e)
    have q3 : bx ≠ bq := fun e => HNE.out.2.2.2.2.2.2.2.2.1 e.symm
    have q4 : bq ≠ bx := fun e => q3 e.symm
    have HSZ : Hid (w.heap.size ≤ V5.heap.size ∧ bq < V5.heap.size ∧ bx < V5.heap.size) := ⟨kk_V5.size, hblk bqf_V5, hblk bxf_V5⟩
    have HG : Hid (∀ b o, gp = some ⟨b, o, none⟩ → w.heap.size ≤ b) := fun b o e => Nat.le_trans (Nat.le_trans hws (Nat.le_trans zs1 (by omega))) (hgl b o e)
    clear hC he4 hec e2 hgi hgl zs1 zs3 zs4 zs5 hws
    go_wp2_with fail
    have kU8 := kp_eleven V5 (bq) (.int .i64 9) (.string ⟨#[83]⟩) (.int .i64 0) (.int .u64 0) (.string ⟨#[]⟩) (.int .i64 1) (.int .i64 0) (.int .i64 0) (.int .i64 0) (.slice gp (c + 1) gc) (.slice none 0 0)
    have hrU8 := eleven_over bqf_V5 (.int .i64 9) (.string ⟨#[83]⟩) (.int .i64 0) (.int .u64 0) (.string ⟨#[]⟩) (.int .i64 1) (.int .i64 0) (.int .i64 0) (.int .i64 0) (.slice gp (c + 1) gc) (.slice none 0 0)
    obtain ⟨U8, hU8⟩ : ∃ W, W = (((((((((((V5.setCell ⟨bq, 0, none⟩ (.int .i64 9)).setCell ⟨bq, 1, none⟩ (.string ⟨#[83]⟩)).setCell ⟨bq, 2, none⟩ (.int .i64 0)).setCell ⟨bq, 3, none⟩ (.int .u64 0)).setCell ⟨bq, 4, none⟩ (.string ⟨#[]⟩)).setCell ⟨bq, 5, none⟩ (.int .i64 1)).setCell ⟨bq, 6, none⟩ (.int .i64 0)).setCell ⟨bq, 7, none⟩ (.int .i64 0)).setCell ⟨bq, 8, none⟩ (.int .i64 0)).setCell ⟨bq, 9, none⟩ (.slice gp (c + 1) gc)).setCell ⟨bq, 10, none⟩ (.slice none 0 0)) := ⟨_, rfl⟩
    rw [← hU8] at kU8 hrU8 ⊢
    clear hU8
    have rcU8 := (cells_of hrU8).1
    have bx8 := (kU8.block _ HSZ.out.2.2 q3).trans bxf_V5
    have kU9 := kp_eleven U8 (bx) (.int .i64 k4) (.string t4) (.int .i64 n4) (.int .u64 f4) (.string s4) (.int .i64 x4) (.int .i64 y4) (.int .i64 z4) (.int .i64 u4) (.slice pp4 path4.length pc4) (.slice ip4 items4.length ic4)
    have hrU9 := eleven_over bx8 (.int .i64 k4) (.string t4) (.int .i64 n4) (.int .u64 f4) (.string s4) (.int .i64 x4) (.int .i64 y4) (.int .i64 z4) (.int .i64 u4) (.slice pp4 path4.length pc4) (.slice ip4 items4.length ic4)
    obtain ⟨U9, hU9⟩ : ∃ W, W = (((((((((((U8.setCell ⟨bx, 0, none⟩ (.int .i64 k4)).setCell ⟨bx, 1, none⟩ (.string t4)).setCell ⟨bx, 2, none⟩ (.int .i64 n4)).setCell ⟨bx, 3, none⟩ (.int .u64 f4)).setCell ⟨bx, 4, none⟩ (.string s4)).setCell ⟨bx, 5, none⟩ (.int .i64 x4)).setCell ⟨bx, 6, none⟩ (.int .i64 y4)).setCell ⟨bx, 7, none⟩ (.int .i64 z4)).setCell ⟨bx, 8, none⟩ (.int .i64 u4)).setCell ⟨bx, 9, none⟩ (.slice pp4 path4.length pc4)).setCell ⟨bx, 10, none⟩ (.slice ip4 items4.length ic4)) := ⟨_, rfl⟩
    rw [← hU9] at kU9 hrU9 ⊢
    clear hU9
    have rcU9 := (cells_of hrU9).1
    have k9 : Kp (fun i => i = bq ∨ i = bx) V5 U9 := Kp.trans (S := (fun i => i = bq ∨ i = bx)) ⟨kU8.os, kU8.tape, kU8.output, kU8.size, fun i h1 h2 => kU8.block i h1 (fun e => h2 (.inl e))⟩ kU9 fun i _ e => .inr e
    have zz := HSZ.out
    refine ⟨l2p_close _ _ _ _ _ _ _ _ _ _ _ _ ⟨c + 1, e4, gp, gc, by simp, hlt, (kU9.block _ (Nat.lt_of_lt_of_le zz.2.1 kU8.size) q4).trans hrU8, ?_, ?_, ?_, ?_, ?_, hgc, hgm, fun e => by omega, HG.out, kk_V5.trans k9 fun _ _ e => e⟩ rfl, by simp [L2mp, intOf]; omega⟩
    · rw [HEC.out]; exact hrU9
    · rw [show k - (c + 1) = r by omega]; exact MD.In.mono k9.size _ _ (MD.In.apart (S := (fun i => i = bq ∨ i = bx)) (fun i h1 h2 => k9.block i h2 h1) _ _ H.out.1 H.out.2.1)
    · rw [show k - (c + 1) = r by omega]; exact H.out.2.1
    · rw [show k - (c + 1) = r by omega]; exact H.out.2.2
    · rcases HO5.out with e | ⟨g, o, e1, e2, e3⟩
      · exact .inl e
      · have := HG.out g o e1
        exact .inr ⟨g, o, e1, Nat.lt_of_lt_of_le e2 k9.size, fun i hi => (World.cell?_of_block (a := ⟨g, o + i, none⟩) (k9.block _ e2 (fun e => by have q : g = bq ∨ g = bx := e; omega))).trans (e3 i hi)⟩
  · have hck : c = k := by omega
    subst hck
    have i1 : ¬ (c : Int) < c := by omega
    unfold GP
    conv => arg 2; whnf
    have HQ : Hid (wr.heap[bq]? = some (.cells #[.int .i64 9, .string ⟨#[83]⟩, .int .i64 0, .int .u64 0, .string ⟨#[]⟩, .int .i64 1, .int .i64 0, .int .i64 0, .int .i64 0, .slice pp c pc, .slice none 0 0] 32) ∧ OnesAt wr pp c ∧ c ≤ pc ∧ pc ≤ maxLen ∧ (∀ b o, pp = some ⟨b, o, none⟩ → w.heap.size ≤ b) ∧ Kp (fun i => i = bq ∨ i = bx) w wr) := ⟨bqf_wr, pO_wr, hcp, hcm, hpl, kk_wr⟩
    clear bqf_wr bxf_wr xi_wr xav xs pO_wr hcp hcm h0 hpl kk_wr h1_w hA1 bp_w
    go_wp2_with fail
    refine HK.out _ _ ?_
    exact ⟨pp, pc, HQ.out.1, HQ.out.2.1, HQ.out.2.2.1, HQ.out.2.2.2.1, HQ.out.2.2.2.2.1, HQ.out.2.2.2.2.2, rfl⟩
end Go.Proofs.YtdbijkgnddcneaaGreatDoor
namespace Go.Proofs.YtdbijkgnddcneaaGreatDoor
open Go.RowKit Go.ChangeMaps
attribute [local go_sem] refold2 cell3_0 cell3_1 b28_0 b28_01

set_option maxRecDepth 1000000 in
set_option maxHeartbeats 16000000 in
theorem tail12 (k : Nat) (m n : Int) (hb M ab1 ab2 bd bp bt bq bx : Nat) (dd d1 d2 : MD) (u : Nat → Value) (w0 w : World) (hk6 : k ≤ 6) (hx : FlatR (wholeD m)) (hN : ∀ W, Below w0.heap.size w0 W → NamesAt W) (u_w : Below w0.heap.size w0 w) (hch : w0.heap.size ≤ hb ∧ w0.heap.size ≤ M ∧ hb < bd ∧ M < bd ∧ bd < ab1 ∧ ab1 < bp ∧ bp < ab2 ∧ ab2 < bt ∧ bt < bq ∧ bq < bx ∧ bx < w.heap.size)
    (dB : BoxD w (5 + k) bd (tow (base1 n) k) dd) (h1 : Held w hb M [.iface 84 (.pointer (some ⟨ab1, 0, none⟩)), .iface 84 (.pointer (some ⟨ab2, 0, none⟩))] 0 ab1 k (base1 n) d1) (h2 : Held w hb M [.iface 84 (.pointer (some ⟨ab1, 0, none⟩)), .iface 84 (.pointer (some ⟨ab2, 0, none⟩))] 1 ab2 k (base1 n) d2)
    (bp_w : w.heap[bp]? = some (.cells #[.int .i64 9, .string ⟨#[83]⟩, .int .i64 0, .int .u64 0, .string ⟨#[]⟩, .int .i64 1, .int .i64 0, .int .i64 0, .int .i64 0, .slice none 0 0, .slice none 0 0] 32)) (bt_w : w.heap[bt]? = some (.cells #[.int .i64 9, .string ⟨#[83]⟩, .int .i64 0, .int .u64 0, .string ⟨#[]⟩, .int .i64 2, .int .i64 0, .int .i64 0, .int .i64 0, .slice none 0 0, .slice none 0 0] 32)) (bq_w : w.heap[bq]? = some (.cells #[.int .i64 9, .string ⟨#[83]⟩, .int .i64 0, .int .u64 0, .string ⟨#[]⟩, .int .i64 1, .int .i64 0, .int .i64 0, .int .i64 0, .slice none 0 0, .slice none 0 0] 32)) (bx_w : w.heap[bx]? = some (.cells dd.cells 32))
    (dI : MD.In ab1 w (5 + k) dd) (d1I : MD.In bp w (5 + k) d1) (d2I : MD.In bt w (5 + k) d2) (d2A : MD.Above bp (5 + k) d2) :
    Code.wp Tryz.prog (pieceQ 12) (bodyPost Tryz.prog Tryz.f4 fun r w' => r = .returned (.bool true) ∧ Below w0.heap.size w0 w') (GP (u 0) (u 1) (.int .i64 m) (.pointer (some ⟨hb, 0, none⟩)) (.pointer (some ⟨bd, 0, none⟩)) (.int .i64 (k : Int)) (u 11) (.pointer (some ⟨bp, 0, none⟩)) (u 13) (.pointer (some ⟨bt, 0, none⟩)) (u 15) (.pointer (some ⟨bq, 0, none⟩)) (.pointer (some ⟨bx, 0, none⟩)) (u 18) (u 23) (u 24) (u 25) (u 26) (u 27) (u 28) (u 29) (u 30) (u 31) (u 32) (u 33) (u 34) (u 35) (u 36) u) w := by
  have hA1 : MD.Avoid (fun i => i = bq ∨ i = bx) (5 + k) d1 := MD.In.avoid (fun i hi e => by omega) _ _ d1I
  have hA2 : MD.Avoid (fun i => i = bq ∨ i = bx) (5 + k) d2 := MD.In.avoid (fun i hi e => by omega) _ _ d2I
  have hAd : MD.Avoid (fun i => i = bq ∨ i = bx) (5 + k) dd := MD.In.avoid (fun i hi e => by omega) _ _ dI
  have hB1 : MD.Avoid (· = ab1) (5 + k) d2 := MD.Above.avoid (lo := bp) (fun i hi e => by omega) _ _ d2A
  have hBd : MD.Avoid (· = ab1) (5 + k) dd := MD.In.avoid (fun i hi e => by omega) _ _ dI
  have TAIL : ∀ (a : Act) (wr : World), L2Q k m hb bd bp bt bq bx w a wr → Code.wp Tryz.prog (pieceQ 13) (bodyPost Tryz.prog Tryz.f4 fun r w' => r = .returned (.bool true) ∧ Below w0.heap.size w0 w') a wr := fun a wr hE => by
    obtain ⟨pp, pc, e1, e2, e3, e4, e5, hK, ha⟩ := hE
    have ur : Below w0.heap.size w0 wr := u_w.trans (hK.below u_w.size fun i hi e => by omega)
    refine tail13q k m n hb M ab1 ab2 bd bp bt bq pp pc dd d1 d2 w0 wr hk6 e3 e4 hx ur (hN _ ur) (dB.apart hK (by omega) hAd) (h1.apart hK (by omega) (by omega) (by omega) hA1) (h2.apart hK (by omega) (by omega) (by omega) hA2) ((hK.block _ (hblk bp_w) (by omega)).trans bp_w) ((hK.block _ (hblk bt_w) (by omega)).trans bt_w) e1 e2 ⟨hBd, hB1⟩ ⟨by omega, by omega, by omega, by omega, by omega⟩ ⟨by omega, by omega⟩ (fun b o e => by have := e5 b o e; omega) (by omega) hN a ?_
    rw [ha]
    rfl
  have TL : Hid _ := TAIL
  have HI : Hid (L2Rp k n bq bx w (.int .i64 0) w) := ⟨0, dd, none, 0, rfl, Nat.zero_le _, bq_w, bx_w, dB.inn, hAd, dB.same, .inl rfl, Nat.le_refl _, Nat.zero_le _, fun _ => rfl, (fun b o e => by cases e), Kp.refl _ _⟩
  have HCH : Hid _ := hch
  clear TAIL dB h2 bt_w bq_w bx_w dI d1I d2I d2A hA2 hAd hB1 hBd hx hch
  try unfold GP
  conv => arg 2; whnf
  refine wp_seq_k ?_
  intro K12 hK12
  have HK12 : Hid (∀ (a : Act) (w : World), Code.wp Tryz.prog (pieceQ 13) (bodyPost Tryz.prog Tryz.f4 fun r w' => r = .returned (.bool true) ∧ Below w0.heap.size w0 w') a w → K12 a w) := hK12
  clear hK12
  go_wp2_with fail
  refine loopP2 k m hb bd bp bt bq bx n M ab1 ab2 d1 hk6 w0 w u_w hN h1 hA1 ?_ ?_ bp_w _ _ (fun a wr hE => ?_) _ (l2p_close _ _ _ _ _ _ _ _ _ _ _ _ HI.out rfl)
  · have := HCH.out; exact ⟨by omega, by omega, by omega, by omega, by omega, by omega, by omega, by omega, by omega, by omega, by omega⟩
  · have := HCH.out; exact ⟨by omega, by omega⟩
  · exact HK12.out _ _ (TL.out a wr hE)
set_option maxRecDepth 1000000 in
theorem tail12q (k : Nat) (m n : Int) (hb M ab1 ab2 bd bp bt bq bx : Nat) (dd d1 d2 : MD) (w0 w : World) (hk6 : k ≤ 6) (hx : FlatR (wholeD m)) (hN : ∀ W, Below w0.heap.size w0 W → NamesAt W) (u_w : Below w0.heap.size w0 w) (hch : w0.heap.size ≤ hb ∧ w0.heap.size ≤ M ∧ hb < bd ∧ M < bd ∧ bd < ab1 ∧ ab1 < bp ∧ bp < ab2 ∧ ab2 < bt ∧ bt < bq ∧ bq < bx ∧ bx < w.heap.size)
    (dB : BoxD w (5 + k) bd (tow (base1 n) k) dd) (h1 : Held w hb M [.iface 84 (.pointer (some ⟨ab1, 0, none⟩)), .iface 84 (.pointer (some ⟨ab2, 0, none⟩))] 0 ab1 k (base1 n) d1) (h2 : Held w hb M [.iface 84 (.pointer (some ⟨ab1, 0, none⟩)), .iface 84 (.pointer (some ⟨ab2, 0, none⟩))] 1 ab2 k (base1 n) d2)
    (bp_w : w.heap[bp]? = some (.cells #[.int .i64 9, .string ⟨#[83]⟩, .int .i64 0, .int .u64 0, .string ⟨#[]⟩, .int .i64 1, .int .i64 0, .int .i64 0, .int .i64 0, .slice none 0 0, .slice none 0 0] 32)) (bt_w : w.heap[bt]? = some (.cells #[.int .i64 9, .string ⟨#[83]⟩, .int .i64 0, .int .u64 0, .string ⟨#[]⟩, .int .i64 2, .int .i64 0, .int .i64 0, .int .i64 0, .slice none 0 0, .slice none 0 0] 32)) (bq_w : w.heap[bq]? = some (.cells #[.int .i64 9, .string ⟨#[83]⟩, .int .i64 0, .int .u64 0, .string ⟨#[]⟩, .int .i64 1, .int .i64 0, .int .i64 0, .int .i64 0, .slice none 0 0, .slice none 0 0] 32)) (bx_w : w.heap[bx]? = some (.cells dd.cells 32))
    (dI : MD.In ab1 w (5 + k) dd) (d1I : MD.In bp w (5 + k) d1) (d2I : MD.In bt w (5 + k) d2) (d2A : MD.Above bp (5 + k) d2) (a : Act) (ha : a = (GP (a.tmps.getD 0 undef) (a.tmps.getD 1 undef) (.int .i64 m) (.pointer (some ⟨hb, 0, none⟩)) (.pointer (some ⟨bd, 0, none⟩)) (.int .i64 (k : Int)) (a.tmps.getD 11 undef) (.pointer (some ⟨bp, 0, none⟩)) (a.tmps.getD 13 undef) (.pointer (some ⟨bt, 0, none⟩)) (a.tmps.getD 15 undef) (.pointer (some ⟨bq, 0, none⟩)) (.pointer (some ⟨bx, 0, none⟩)) (a.tmps.getD 18 undef) (a.tmps.getD 23 undef) (a.tmps.getD 24 undef) (a.tmps.getD 25 undef) (a.tmps.getD 26 undef) (a.tmps.getD 27 undef) (a.tmps.getD 28 undef) (a.tmps.getD 29 undef) (a.tmps.getD 30 undef) (a.tmps.getD 31 undef) (a.tmps.getD 32 undef) (a.tmps.getD 33 undef) (a.tmps.getD 34 undef) (a.tmps.getD 35 undef) (a.tmps.getD 36 undef) (fun k => a.tmps.getD k undef))) :
    Code.wp Tryz.prog (pieceQ 12) (bodyPost Tryz.prog Tryz.f4 fun r w' => r = .returned (.bool true) ∧ Below w0.heap.size w0 w') a w := by
  rw [ha]
  exact tail12 k m n hb M ab1 ab2 bd bp bt bq bx dd d1 d2 (fun k => a.tmps.getD k undef) w0 w hk6 hx hN u_w hch dB h1 h2 bp_w bt_w bq_w bx_w dI d1I d2I d2A
set_option maxRecDepth 1000000 in
set_option maxHeartbeats 16000000 in
theorem tail7 (k : Nat) (m n : Int) (hb M bd L : Nat) (dd : MD) (u : Nat → Value) (w0 w : World) (hk6 : k ≤ 6) (hx : FlatR (wholeD m)) (hn : FlatR (wholeD n)) (hN : ∀ W, Below w0.heap.size w0 W → NamesAt W) (u_w : Below w0.heap.size w0 w) (hch : w0.heap.size ≤ hb ∧ w0.heap.size ≤ M ∧ hb < L ∧ M < L ∧ L ≤ bd) (h_w : HeapAt w hb M []) (dB_w : BoxD w (5 + k) bd (tow (base1 n) k) dd) (dA : MD.Above L (5 + k) dd) (hz : FlatR zeroD) :
    Code.wp Tryz.prog (pieceQ 7) (bodyPost Tryz.prog Tryz.f4 fun r w' => r = .returned (.bool true) ∧ Below w0.heap.size w0 w') (GP (u 0) (u 1) (.int .i64 m) (.pointer (some ⟨hb, 0, none⟩)) (.pointer (some ⟨bd, 0, none⟩)) (.int .i64 (k : Int)) (u 11) (u 12) (u 13) (u 14) (u 15) (u 16) (u 17) (u 18) (u 23) (u 24) (u 25) (u 26) (u 27) (u 28) (u 29) (u 30) (u 31) (u 32) (u 33) (u 34) (u 35) (u 36) u) w := by
  have HN : Hid _ := hN
  have hfull : MD.full 5 (base1 n) = true := pairE_full (full_of hn.right) (full_of hz.right)
  have hsize : MD.size 5 (base1 n) = 3 := by
    show MD.size (4 + 1) (pairE 0 (wholeD n) zeroD) = 3
    rw [pairE_size, flat_size (whole_k _), flat_size (by decide)]
  have hright : MD.right (5 + k) dd = true := (same_right _ _ _ dB_w.same).symm.trans (tow_right hfull hsize k (by omega))
  have hlb := hblk dB_w.box
  have hav : MD.Avoid (fun i => i = hb ∨ i = M) (5 + k) dd := MD.Above.avoid (lo := L) (fun i hi e => by omega) _ _ dA
  have hdt := tow_head (base := base1 n) ⟨rfl, rfl⟩ k
  obtain ⟨j, hj⟩ : ∃ j, 5 + k = j + 1 := ⟨4 + k, by omega⟩
  have hsp := same_parts (n := j) (show MD.same (j + 1) (tow (base1 n) k) dd = true by rw [← hj]; exact dB_w.same)
  obtain ⟨dd0, ed⟩ : ∃ x, x = dd := ⟨_, rfl⟩
  rw [← ed] at dB_w dA hright hav hsp
  obtain ⟨⟨k1, t1, n1, f1, s1, x1, y1, z1, u1, pp1, path1, pc1⟩, ip1, ic1, items1⟩ := dd
  have HOB : Hid (∀ (vs : List Value) (hl : vs.length < 1000) (W : World), NamesAt W → HeapAt W hb M vs → MD.In W.heap.size W (5 + k) dd0 → Calls Tryz.prog 16 #[.pointer (some ⟨hb, 0, none⟩), .agg #[.int .i64 k1, .string t1, .int .i64 n1, .int .u64 f1, .string s1, .int .i64 x1, .int .i64 y1, .int .i64 z1, .int .i64 u1, .slice pp1 path1.length pc1, .slice ip1 items1.length ic1]] W fun r w' => r = .returned (.tuple #[(leadD 9 ⟨#[83]⟩ ((vs.length : Int) + 1) 0 0 0).val, .nilIface]) ∧
      ∃ (ab : Nat) (d : MD), HeapAt w' hb M (vs ++ [.iface 84 (.pointer (some ⟨ab, 0, none⟩))]) ∧ w'.heap[ab]? = some (.cells d.cells 86) ∧ W.heap.size ≤ ab ∧ MD.In w'.heap.size w' (5 + k) d ∧ MD.Above W.heap.size (5 + k) d ∧ MD.same (5 + k) dd0 d = true ∧ Kp (fun b => b = hb ∨ b = M) W w') := fun vs hl W hNW hW hI => by
    have h8 := hsp.1.trans hdt.1
    have ht := hsp.2.1.trans hdt.2
    have hf := full_of hright
    clear hsp hdt hav dA dB_w
    subst ed
    obtain rfl : k1 = 8 := h8
    obtain rfl : t1 = ⟨#[83]⟩ := ht
    exact Object_any hb M vs hl (5 + k) ⟨#[83]⟩ (by decide) n1 f1 s1 x1 y1 z1 u1 pp1 path1 pc1 ip1 ic1 items1 W hNW hW hI hright hf
  have EC : Hid (dd0.cells = #[.int .i64 k1, .string t1, .int .i64 n1, .int .u64 f1, .string s1, .int .i64 x1, .int .i64 y1, .int .i64 z1, .int .i64 u1, .slice pp1 path1.length pc1, .slice ip1 items1.length ic1]) := by rw [ed]; rfl
  have e1 : (([] : List Value).length : Int) + 1 = 1 := rfl
  have hds := dB_w.same
  have dI_w := dB_w.inn
  clear hsp hdt ed dA hright hsize hj
  have cc : ∀ j, w.cell? ⟨bd, j, none⟩ = (#[.int .i64 k1, .string t1, .int .i64 n1, .int .u64 f1, .string s1, .int .i64 x1, .int .i64 y1, .int .i64 z1, .int .i64 u1, .slice pp1 path1.length pc1, .slice ip1 items1.length ic1] : Array Value)[j]? := by have := (cells_of dB_w.box).1; rwa [EC.out] at this
  try unfold GP
  conv => arg 2; whnf
  refine wp_seq_k ?_
  intro K7 hK7
  have HK7 : Hid (∀ (a : Act) (w : World), Code.wp Tryz.prog (pieceQ 8) (bodyPost Tryz.prog Tryz.f4 fun r w' => r = .returned (.bool true) ∧ Below w0.heap.size w0 w') a w → K7 a w) := hK7
  clear hK7
  go_wp2_with fail
  refine Calls.mono (HOB.out [] (by decide) w (HN.out _ u_w) h_w dB_w.inn) ?_
  rintro _ V1 ⟨rfl, ab1, d1, h_V1, a1_V1, hl1, d1i, d1a, d1s, kV1⟩
  have u_V1 : Below w0.heap.size w0 V1 := u_w.trans (kV1.below u_w.size fun i hi e => by omega)
  have dB_V1 := dB_w.apart kV1 (by omega) hav
  have dI_V1 : MD.In w.heap.size V1 (5 + k) dd0 := MD.In.apart (S := fun i => i = hb ∨ i = M) (fun i h1 h2 => kV1.block i h2 h1) _ _ dI_w hav
  have la1 := hblk a1_V1
  have zs1 := kV1.size
  have av1 : MD.Avoid (fun i => i = hb ∨ i = M) (5 + k) d1 := MD.Above.avoid (lo := w.heap.size) (fun i hi e => by omega) _ _ d1a
  clear kV1 dB_w dI_w h_w u_w cc d1a
  simp only [leadD, MD.val, D, e1]
  go_wp2_with fail
  obtain ⟨V2, eV2⟩ : ∃ W, W = V1.alloc (.cells #[.int .i64 9, .string ⟨#[83]⟩, .int .i64 0, .int .u64 0, .string ⟨#[]⟩, .int .i64 1, .int .i64 0, .int .i64 0, .int .i64 0, .slice none 0 0, .slice none 0 0] 32) := ⟨_, rfl⟩
  rw [← eV2]
  have cV2 : Below V1.heap.size V1 V2 := by rw [eV2]; exact below1 _ _
  have yV2 : V1.heap.size < V2.heap.size := by rw [eV2]; simp
  have nV2 : V2.heap[V1.heap.size]? = some (.cells #[.int .i64 9, .string ⟨#[83]⟩, .int .i64 0, .int .u64 0, .string ⟨#[]⟩, .int .i64 1, .int .i64 0, .int .i64 0, .int .i64 0, .slice none 0 0, .slice none 0 0] 32) := by rw [eV2]; exact heap_alloc_new _ _
  clear eV2
  have u_V2 := u_V1.trans (cV2.mono u_V1.size)
  have dB_V2 := dB_V1.below cV2
  have h_V2 := h_V1.below cV2
  have a1_V2 := (cV2.block _ la1).trans a1_V1
  have dI_V2 := MD.In.below (cV2.mono zs1) _ _ dI_V1
  have d1I_V2 : MD.In V1.heap.size V2 (5 + k) d1 := MD.In.below cV2 _ _ d1i
  have l2 : hb < V2.heap.size ∧ M < V2.heap.size := ⟨hblk h_V2.box, hblk h_V2.map⟩
  clear cV2 u_V1 dB_V1 h_V1 a1_V1 dI_V1 d1i
  refine HK7.out _ _ ?_
  clear HK7
  have e2 : (([.iface 84 (.pointer (some ⟨ab1, 0, none⟩))] : List Value).length : Int) + 1 = 2 := rfl
  have cc : ∀ j, V2.cell? ⟨bd, j, none⟩ = (#[.int .i64 k1, .string t1, .int .i64 n1, .int .u64 f1, .string s1, .int .i64 x1, .int .i64 y1, .int .i64 z1, .int .i64 u1, .slice pp1 path1.length pc1, .slice ip1 items1.length ic1] : Array Value)[j]? := by have := (cells_of dB_V2.box).1; rwa [EC.out] at this
  try unfold GP
  conv => arg 2; whnf
  refine wp_seq_k ?_
  intro K8 hK8
  have HK8 : Hid (∀ (a : Act) (w : World), Code.wp Tryz.prog (pieceQ 9) (bodyPost Tryz.prog Tryz.f4 fun r w' => r = .returned (.bool true) ∧ Below w0.heap.size w0 w') a w → K8 a w) := hK8
  clear hK8
  go_wp2_with fail
  refine Calls.mono (HOB.out [.iface 84 (.pointer (some ⟨ab1, 0, none⟩))] (by simp) V2 (HN.out _ u_V2) h_V2 dB_V2.inn) ?_
  rintro _ V3 ⟨rfl, ab2, d2, h_V3, a2_V3, hl2, d2i, d2a, d2s, kV3⟩
  have u_V3 : Below w0.heap.size w0 V3 := u_V2.trans (kV3.below u_V2.size fun i hi e => by omega)
  have dB_V3 := dB_V2.apart kV3 (by omega) hav
  have dI_V3 : MD.In w.heap.size V3 (5 + k) dd0 := MD.In.apart (S := fun i => i = hb ∨ i = M) (fun i h1 h2 => kV3.block i (by omega) h1) _ _ dI_V2 hav
  have d1I_V3 : MD.In V1.heap.size V3 (5 + k) d1 := MD.In.apart (S := fun i => i = hb ∨ i = M) (fun i h1 h2 => kV3.block i (by omega) h1) _ _ d1I_V2 av1
  have a1_V3 := (kV3.block _ (hblk a1_V2) (by omega)).trans a1_V2
  have bp_V3 := (kV3.block _ (hblk nV2) (by omega)).trans nV2
  have la2 := hblk a2_V3
  have zs3 := kV3.size
  clear kV3 dB_V2 dI_V2 h_V2 u_V2 cc hav av1 d1I_V2 a1_V2 nV2
  simp only [leadD, MD.val, D, e2]
  go_wp2_with fail
  obtain ⟨V4, eV4⟩ : ∃ W, W = V3.alloc (.cells #[.int .i64 9, .string ⟨#[83]⟩, .int .i64 0, .int .u64 0, .string ⟨#[]⟩, .int .i64 2, .int .i64 0, .int .i64 0, .int .i64 0, .slice none 0 0, .slice none 0 0] 32) := ⟨_, rfl⟩
  rw [← eV4]
  have cV4 : Below V3.heap.size V3 V4 := by rw [eV4]; exact below1 _ _
  have yV4 : V3.heap.size < V4.heap.size := by rw [eV4]; simp
  have nV4 : V4.heap[V3.heap.size]? = some (.cells #[.int .i64 9, .string ⟨#[83]⟩, .int .i64 0, .int .u64 0, .string ⟨#[]⟩, .int .i64 2, .int .i64 0, .int .i64 0, .int .i64 0, .slice none 0 0, .slice none 0 0] 32) := by rw [eV4]; exact heap_alloc_new _ _
  clear eV4
  have u_V4 := u_V3.trans (cV4.mono u_V3.size)
  have dB_V4 := dB_V3.below cV4
  have h_V4 := h_V3.below cV4
  have a1_V4 := (cV4.block _ (hblk a1_V3)).trans a1_V3
  have a2_V4 := (cV4.block _ la2).trans a2_V3
  have bp_V4 := (cV4.block _ (hblk bp_V3)).trans bp_V3
  have dI_V4 := MD.In.below (cV4.mono (by omega)) _ _ dI_V3
  have d1I_V4 := MD.In.below (cV4.mono (by omega)) _ _ d1I_V3
  have d2I_V4 : MD.In V3.heap.size V4 (5 + k) d2 := MD.In.below cV4 _ _ d2i
  clear cV4 u_V3 dB_V3 h_V3 a1_V3 a2_V3 bp_V3 dI_V3 d1I_V3 d2i
  refine HK8.out _ _ ?_
  clear HK8
  try unfold GP
  conv => arg 2; whnf
  refine wp_seq_k ?_
  intro K9 hK9
  have HK9 : Hid (∀ (a : Act) (w : World), Code.wp Tryz.prog (pieceQ 10) (bodyPost Tryz.prog Tryz.f4 fun r w' => r = .returned (.bool true) ∧ Below w0.heap.size w0 w') a w → K9 a w) := hK9
  clear hK9
  go_wp2_with fail
  refine HK9.out _ _ ?_
  clear HK9
  have cc := (cells_of bp_V4).1
  try unfold GP
  conv => arg 2; whnf
  refine wp_seq_k ?_
  intro K10 hK10
  have HK10 : Hid (∀ (a : Act) (w : World), Code.wp Tryz.prog (pieceQ 11) (bodyPost Tryz.prog Tryz.f4 fun r w' => r = .returned (.bool true) ∧ Below w0.heap.size w0 w') a w → K10 a w) := hK10
  clear hK10
  go_wp2_with fail
  obtain ⟨V5, eV5⟩ : ∃ W, W = V4.alloc (.cells #[.int .i64 9, .string ⟨#[83]⟩, .int .i64 0, .int .u64 0, .string ⟨#[]⟩, .int .i64 1, .int .i64 0, .int .i64 0, .int .i64 0, .slice none 0 0, .slice none 0 0] 32) := ⟨_, rfl⟩
  rw [← eV5]
  have cV5 : Below V4.heap.size V4 V5 := by rw [eV5]; exact below1 _ _
  have yV5 : V4.heap.size < V5.heap.size := by rw [eV5]; simp
  have nV5 : V5.heap[V4.heap.size]? = some (.cells #[.int .i64 9, .string ⟨#[83]⟩, .int .i64 0, .int .u64 0, .string ⟨#[]⟩, .int .i64 1, .int .i64 0, .int .i64 0, .int .i64 0, .slice none 0 0, .slice none 0 0] 32) := by rw [eV5]; exact heap_alloc_new _ _
  clear eV5
  have cV5' := cV5
  have u_V5 := u_V4.trans (cV5.mono u_V4.size)
  have dB_V5 := dB_V4.below cV5
  have h_V5 := h_V4.below cV5
  have a1_V5 := (cV5.block _ (hblk a1_V4)).trans a1_V4
  have a2_V5 := (cV5.block _ (hblk a2_V4)).trans a2_V4
  have bp_V5 := (cV5.block _ (hblk bp_V4)).trans bp_V4
  have bt_V5 := (cV5.block _ (hblk nV4)).trans nV4
  have dI_V5 := MD.In.below (cV5.mono (by omega)) _ _ dI_V4
  have d1I_V5 := MD.In.below (cV5.mono (by omega)) _ _ d1I_V4
  have d2I_V5 := MD.In.below (cV5.mono (by omega)) _ _ d2I_V4
  clear cV5' cV5 cc u_V4 dB_V4 h_V4 a1_V4 a2_V4 bp_V4 nV4 dI_V4 d1I_V4 d2I_V4
  refine HK10.out _ _ ?_
  clear HK10
  have cc : ∀ j, V5.cell? ⟨bd, j, none⟩ = (#[.int .i64 k1, .string t1, .int .i64 n1, .int .u64 f1, .string s1, .int .i64 x1, .int .i64 y1, .int .i64 z1, .int .i64 u1, .slice pp1 path1.length pc1, .slice ip1 items1.length ic1] : Array Value)[j]? := by have := (cells_of dB_V5.box).1; rwa [EC.out] at this
  try unfold GP
  conv => arg 2; whnf
  refine wp_seq_k ?_
  intro K11 hK11
  have HK11 : Hid (∀ (a : Act) (w : World), Code.wp Tryz.prog (pieceQ 12) (bodyPost Tryz.prog Tryz.f4 fun r w' => r = .returned (.bool true) ∧ Below w0.heap.size w0 w') a w → K11 a w) := hK11
  clear hK11
  go_wp2_with fail
  obtain ⟨V6, eV6⟩ : ∃ W, W = V5.alloc (.cells #[.int .i64 k1, .string t1, .int .i64 n1, .int .u64 f1, .string s1, .int .i64 x1, .int .i64 y1, .int .i64 z1, .int .i64 u1, .slice pp1 path1.length pc1, .slice ip1 items1.length ic1] 32) := ⟨_, rfl⟩
  rw [← eV6]
  have cV6 : Below V5.heap.size V5 V6 := by rw [eV6]; exact below1 _ _
  have yV6 : V5.heap.size < V6.heap.size := by rw [eV6]; simp
  have nV6 : V6.heap[V5.heap.size]? = some (.cells #[.int .i64 k1, .string t1, .int .i64 n1, .int .u64 f1, .string s1, .int .i64 x1, .int .i64 y1, .int .i64 z1, .int .i64 u1, .slice pp1 path1.length pc1, .slice ip1 items1.length ic1] 32) := by rw [eV6]; exact heap_alloc_new _ _
  clear eV6
  have u_V6 := u_V5.trans (cV6.mono u_V5.size)
  have dB_V6 := dB_V5.below cV6
  have h_V6 := h_V5.below cV6
  have a1_V6 := (cV6.block _ (hblk a1_V5)).trans a1_V5
  have a2_V6 := (cV6.block _ (hblk a2_V5)).trans a2_V5
  have bp_V6 := (cV6.block _ (hblk bp_V5)).trans bp_V5
  have bt_V6 := (cV6.block _ (hblk bt_V5)).trans bt_V5
  have bq_V6 := (cV6.block _ (hblk nV5)).trans nV5
  have dI_V6 := MD.In.below (cV6.mono (by omega)) _ _ dI_V5
  have d1I_V6 := MD.In.below (cV6.mono (by omega)) _ _ d1I_V5
  have d2I_V6 := MD.In.below (cV6.mono (by omega)) _ _ d2I_V5
  rw [← EC.out] at nV6
  clear cV6 cc u_V5 dB_V5 h_V5 a1_V5 a2_V5 bp_V5 bt_V5 nV5 dI_V5 d1I_V5 d2I_V5
  refine HK11.out _ _ ?_
  clear HK11
  have hs1 := same_trans _ _ _ _ hds d1s
  have hs2 := same_trans _ _ _ _ hds d2s
  refine tail12q k m n hb M ab1 ab2 bd V1.heap.size V3.heap.size V4.heap.size V5.heap.size dd0 d1 d2 w0 V6 hk6 hx HN.out u_V6 ⟨by omega, by omega, by omega, by omega, by omega, by omega, by omega, by omega, by omega, by omega, by omega⟩ dB_V6 ⟨h_V6, rfl, a1_V6, MD.In.mono (by omega) _ _ d1I_V6, hs1, hfull, ⟨rfl, rfl⟩, ⟨by omega, hk6⟩⟩ ⟨h_V6, rfl, a2_V6, MD.In.mono (by omega) _ _ d2I_V6, hs2, hfull, ⟨rfl, rfl⟩, ⟨by omega, hk6⟩⟩ bp_V6 bt_V6 bq_V6 nV6 (MD.In.mono hl1 _ _ dI_V6) d1I_V6 d2I_V6 (MD.Above.mono (by omega) _ _ d2a) _ rfl
end Go.Proofs.YtdbijkgnddcneaaGreatDoor
