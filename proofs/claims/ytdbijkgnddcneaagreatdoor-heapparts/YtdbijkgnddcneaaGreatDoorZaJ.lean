/-
  .
  .
  .
  .
  .
  .
  .
  .
-/
import Derived.Test.YtdbijkgnddcneaaGreatDoorSq
import Derived.Test.YtdbijkgnddcneaaGreatDoorXyJ
import Derived.Laws.IdiomStrings
import Derived.Lib.BufferRead
import Derived.Test.YtdbijkgnddcneaaGreatDoorMhJ
namespace Go.Proofs.YtdbijkgnddcneaaGreatDoor
open Go.RowKit Go.ChangeMaps
set_option maxRecDepth 100000
set_option maxHeartbeats 4000000
attribute [local go_sem] refold2 cell3_0 cell3_1 b28_0 b28_01 nz26 nz23
theorem conv_own {w : World} {base g cap : Nat} {t : List UInt8} (h : w.ownsRow base 5 1 (.slice (some ⟨g, 0, none⟩) t.length cap) t.length (Lib.byteCells t)) : (convert 121 9 (.slice (some ⟨g, 0, none⟩) t.length cap)).run Tryz.prog w = .ok (.string ⟨t.toArray⟩) w := by
 obtain ⟨h1, h2⟩ := h
 rcases h2 with ⟨h2, _⟩ | ⟨g', cap', cur, hv, hg, hh, a1, a2, a3, ht⟩
 ·cases h2
 ·cases hv
  exact run_convert_bytes_back w 121 9 5 ⟨g, 0, none⟩ cap t Tryz.underlying121 Tryz.underlying5 Tryz.underlying9 (Lib.bytes_of_row hh (by rw [← ht, Nat.mul_one]))
theorem b123_01 (x y : Option Addr) (w : World) : (Instr.build 123 #[(0, .pointer x), (1, .pointer y)]).run Tryz.prog w = .ok (.agg #[.pointer x, .pointer y, .slice none 0 0]) w := by kernel_rfl
attribute [local go_sem] b123_01
theorem Show_list (hb M : Nat) (py : Option Addr) (vs : List Value) (m ab g : Nat) (hm : vs[m]? = some (arrV ab)) (hF : FlatR (leadD 5 ⟨#[108, 105, 115, 116]⟩ ((m : Int) + 1) 0 1 1)) (i : Nat) (hi : i < 100) (hz : FlatR (wholeD (i : Int))) (w : World) (hN : NamesAt w) (hH : HeapAt w hb M vs) (ha : w.heap[ab]? = some (.cells #[.slice (some ⟨g, 0, none⟩) 1 1] 131)) (hg : w.heap[g]? = some (.cells (rowOf [wholeD (i : Int)]).toArray 32)) :
  Calls Tryz.prog 30 #[.pointer (some ⟨hb, 0, none⟩), .pointer py, .agg #[.int .i64 5, .string ⟨#[108, 105, 115, 116]⟩, .int .i64 0, .int .u64 0, .string ⟨#[]⟩, .int .i64 ((m : Int) + 1), .int .i64 0, .int .i64 1, .int .i64 1, .slice none 0 0, .slice none 0 0]] w fun r w' => r = .returned (.string ⟨([91] ++ Lib.decDigits i ++ [93]).toArray⟩) ∧ Below w.heap.size w w' := by
 have hgl := hblk hg
 go_enter Tryz.func30, Tryz.ntmps30
 go_wp2_with fail
 obtain ⟨U0, hU0⟩ : ∃ W, W = (w.alloc (.cells #[.int .i64 5, .string ⟨#[108, 105, 115, 116]⟩, .int .i64 0, .int .u64 0, .string ⟨#[]⟩, .int .i64 ((m : Int) + 1), .int .i64 0, .int .i64 1, .int .i64 1, .slice none 0 0, .slice none 0 0] 32)).alloc (.cells #[.pointer (some ⟨hb, 0, none⟩), .pointer py, .slice none 0 0] 123) := ⟨_, rfl⟩
 rw [← hU0]
 have u0 : Below w.heap.size w U0 := by rw [hU0]; exact below2 w _ _
 have x0 : U0.heap[w.heap.size + 1]? = some (.cells #[.pointer (some ⟨hb, 0, none⟩), .pointer py, .slice none 0 0] 123) := by rw [hU0]; exact heap2_1 _ _ _
 have z0 : U0.heap.size = w.heap.size + 1 + 1 := by rw [hU0]; simp
 have W0 : WrAt (w.heap.size + 1 + 1) (w.heap.size + 1) (.pointer (some ⟨hb, 0, none⟩)) (.pointer py) [] U0 := ⟨⟨_, x0, World.ownsRow_nil _ _ _ _⟩, by omega, by omega⟩
 have HD := datum_list (w.heap.size + 1 + 1) (w.heap.size + 1) hb M (.pointer py) [] (by simp) vs m ab g hm hF i hi hz U0 (hN.kept u0) (hH.below u0) ((u0.block _ (hblk ha)).trans ha) ((u0.block _ hgl).trans hg) (by omega) (by omega) W0
 clear hU0 z0 x0
 refine Calls.mono HD ?_
 rintro _ U1 ⟨rfl, h1, k1⟩
 clear HD W0
 have b1 : Below w.heap.size w U1 := u0.trans (k1.below u0.size (by omega) (by omega))
 obtain ⟨⟨v, x1, o1⟩, _, _⟩ := h1
 obtain ⟨DL, hDL⟩ : ∃ DL, DL = ([91] ++ Lib.decDigits i ++ [93]) := ⟨_, rfl⟩
 have hDL2 : [] ++ [91] ++ Lib.decDigits i ++ [93] = DL := by rw [hDL]; simp
 have hDs : DL.length ≤ 20 := by rw [hDL]; have := dig_size i hi; simp; omega
 have hD0 : 0 < DL.length := by rw [hDL]; simp
 rw [hDL2] at o1
 have HDL : Hid (DL = ([91] ++ Lib.decDigits i ++ [93])) := hDL
 clear hDL hDL2
 obtain ⟨gg, cap, rfl⟩ : ∃ gg cap, v = .slice (some ⟨gg, 0, none⟩) DL.length cap := by
  rcases o1.2 with ⟨_, h2⟩ | ⟨g', cap', cur, hv, _⟩
  ·omega
  ·exact ⟨g', cap', hv⟩
 have i1 : (DL.length : Int) ≤ 65537 := by omega
 have hmin : min (DL.length : Int) 65537 = DL.length := by omega
 have hcap : DL.length ≤ cap := by
  rcases o1.2 with ⟨h2, _⟩ | ⟨g', cap', cur, hv, _, _, q1, _⟩
  ·cases h2
  ·cases hv; exact q1
 go_wp2_with fail
 refine rg (S := fun W => (∀ j, W.cell? ⟨w.heap.size + 1, j, none⟩ = (#[.pointer (some ⟨hb, 0, none⟩), .pointer py, .slice (some ⟨gg, 0, none⟩) DL.length cap] : Array Value)[j]?) ∧ W.ownsRow (w.heap.size + 1 + 1) 5 1 (.slice (some ⟨gg, 0, none⟩) DL.length cap) DL.length (Lib.byteCells DL)) (fun U2 hB4 HU2 => ?_)
 have hS : (∀ j, U2.cell? ⟨w.heap.size + 1, j, none⟩ = (#[.pointer (some ⟨hb, 0, none⟩), .pointer py, .slice (some ⟨gg, 0, none⟩) DL.length cap] : Array Value)[j]?) ∧ U2.ownsRow (w.heap.size + 1 + 1) 5 1 (.slice (some ⟨gg, 0, none⟩) DL.length cap) DL.length (Lib.byteCells DL) := ⟨(cells_of ((hB4.block _ (hblk x1)).trans x1)).1, ownsRow_below o1 hB4⟩
 refine tq 0 (.pointer (some ⟨w.heap.size + 1, 0, none⟩)) rfl hS ?_
 simp only [sa, sb, Act.put, sd, se, sf]
 refine tq 1 (.pointer (some ⟨w.heap.size + 1, 0, none⟩)) rfl hS ?_
 simp only [sa, sb, sc, Act.put, sd, se, sf]
 refine tq 2 (.pointer (some ⟨w.heap.size + 1, 2, none⟩)) rfl hS ?_
 simp only [sa, sb, sc, Act.put, sd, se, sf]
 refine tk 3 (.slice (some ⟨gg, 0, none⟩) DL.length cap) rfl (.inl ⟨by rfl, ?r⟩) hS ?_
 case r => intro W hW; simp [go_sem, execOp, Act.eval, hW.1]
 simp only [sa, sb, sc, Act.put, sd, se, sf]
 refine tq 4 (.pointer (some ⟨w.heap.size + 1, 0, none⟩)) rfl hS ?_
 simp only [sa, sb, sc, Act.put, sd, se, sf]
 refine tq 5 (.pointer (some ⟨w.heap.size + 1, 0, none⟩)) rfl hS ?_
 simp only [sa, sb, sc, Act.put, sd, se, sf]
 refine tq 6 (.pointer (some ⟨w.heap.size + 1, 2, none⟩)) rfl hS ?_
 simp only [sa, sb, sc, Act.put, sd, se, sf]
 refine tk 7 (.slice (some ⟨gg, 0, none⟩) DL.length cap) rfl (.inl ⟨by rfl, ?r⟩) hS ?_
 case r => intro W hW; simp [go_sem, execOp, Act.eval, hW.1]
 simp only [sa, sb, sc, Act.put, sd, se, sf]
 refine tq 8 (.int .i64 (DL.length : Int)) rfl hS ?_
 simp only [sa, sb, sc, Act.put, sd, se, sf]
 refine tk 9 (.int .i64 (DL.length : Int)) rfl (.inl ⟨by rfl, ?r⟩) hS ?_
 case r => intro W hW; simp [go_sem, execOp, Act.eval, hmin]
 simp only [sa, sb, sc, Act.put, sd, se, sf]
 have b2 : Below w.heap.size w U2 := b1.trans (hB4.mono b1.size)
 have hcv := conv_own hS.2
 have i2 : (DL.length : Int) ≤ cap := by omega
 have i3 : (0 : Int) ≤ DL.length := by omega
 refine one 10 rfl (fun K hK => ?_)
 simp only [sa, sb, sc]
 go_simp
 refine hK _ _ ⟨hS, ?_⟩
 clear hK K
 try simp only [Act.put, sd, se, sf]
 refine one 11 rfl (fun K hK => ?_)
 simp only [sa, sb, sc]
 go_simp
 refine hK _ _ ⟨hS, ?_⟩
 clear hK K
 try simp only [Act.put, sd, se, sf]
 refine one 12 rfl (fun K hK => ?_)
 simp only [sa, sb, sc]
 go_simp
 refine hK _ _ ⟨hS, ?_⟩
 clear hK K
 try simp only [Act.put, sd, se, sf]
 refine dn ?_
 try simp only [Act.put]
 go_wp2_with fail
 have eD := HDL.out
 exact bodyPost_ret (v := .string ⟨DL.toArray⟩) (by simp [results, Tryz.results30, go_sem]) rfl ⟨by clear hcv hS o1 x1 hmin hcap hDs hD0 HDL i1 i2 i3; subst eD; first | rfl | simp, b2⟩
end Go.Proofs.YtdbijkgnddcneaaGreatDoor
namespace Go.Proofs.YtdbijkgnddcneaaGreatDoor
open Go.RowKit Go.ChangeMaps
set_option maxRecDepth 100000
set_option maxHeartbeats 4000000
attribute [local go_sem] refold2 cell3_0 cell3_1 b28_0 b28_01 nz26 nz23
def HCopyC (n : Nat) : Prop := ∀ (d : MD) (w : World), MD.In w.heap.size w n d → MD.full n d = true → Calls Tryz.prog 41 #[d.val] w (CopyG n d w)
theorem layCopies_lev (n : Nat) (hI : HCopyC n) (m g gs os cu cap : Nat) (items : List MD) (hfull : ∀ d ∈ items, MD.full n d = true) (hl : items.length ≤ 1048576) (hm : items.length * 11 ≤ m) (W w : World) (hgl : W.heap.size ≤ g) (hgw : g < w.heap.size) (hB : Below W.heap.size W w) (hT : ∃ c, w.heap[g]? = some (.cells c 32 (0, 0)) ∧ c.size = m) (hgs : gs < W.heap.size) (hsrc : ∀ (i : Nat) (hi : i < items.length), MD.CellsAt W gs (os + i * 11) items[i] ∧ MD.In W.heap.size W n items[i]) :
  Calls Tryz.prog 42 #[.slice (some ⟨g, 0, none⟩) items.length cu, .slice (some ⟨gs, os, none⟩) items.length cap] w fun r w' => r = .returned (.tuple #[]) ∧ GRel False m n items W g (.int .i64 items.length) w' := by
 go_enter Tryz.func42, Tryz.ntmps42
 go_wp2_with fail
 go_loopw [8] (fun i wr => GRel False m n items W g i wr) (fun i _ => items.length - (intOf i).toNat)
 case atStart => exact ⟨0, [], Nat.zero_le _, rfl, rfl, hB, hgw, hT, fun i hi => absurd hi (by simp), rfl⟩
 case round =>
  obtain ⟨k', ds, hk, rfl, hds, hb', hg, hth, hc', ha⟩ := hrel
  have hlen : items.length ≤ 1048576 := hl
  by_cases hlt : k' < items.length
  ·have i1 : (k' : Int) < items.length := by omega
   have hC := (hsrc k' hlt).1.below hgs hb'
   have hIn := MD.In.below hb' n _ (hsrc k' hlt).2
   have HN : Hid (∀ (w9 : World) (d : MD), Below wr.heap.size wr w9 → MD.In w9.heap.size w9 n d → MD.Above wr.heap.size n d → MD.same n items[k'] d = true → Good wr.heap.size w9.heap.size w9 n d → GRel False m n items W g (.int .i64 ((k' : Int) + 1)) (w9.setCells g (k' * 11) d.cells.toList)) := fun w9 d h1 h2 h3 h4 h5 => GRel.next (mk := False) hlt hm hds hb' hgl hg hth hc' ha h1 h2 h3 h4 h5 (fun h => h.elim)
   have HO : Hid (wr.there g 0 (items.length * 11)) := by
    obtain ⟨c, x1, x2⟩ := hth
    exact there_at x1 (by omega)
   have HFk := hfull _ (List.getElem_mem hlt)
   have hbs := hb'.size
   generalize items[k'] = kid at hC hIn HN HFk
   obtain ⟨⟨k0, k1, k2, k3, k4, k5, k6, k7, k8, kp, kpath, kpc⟩, kip, kic, kit⟩ := kid
   have c0 : wr.cell? ⟨gs, os + k' * 11, none⟩ = some (.int .i64 k0) := hC 0 (by omega)
   have c1 : wr.cell? ⟨gs, os + k' * 11 + 1, none⟩ = some (.string k1) := hC 1 (by omega)
   have c2 : wr.cell? ⟨gs, os + k' * 11 + 2, none⟩ = some (.int .i64 k2) := hC 2 (by omega)
   have c3 : wr.cell? ⟨gs, os + k' * 11 + 3, none⟩ = some (.int .u64 k3) := hC 3 (by omega)
   have c4 : wr.cell? ⟨gs, os + k' * 11 + 4, none⟩ = some (.string k4) := hC 4 (by omega)
   have c5 : wr.cell? ⟨gs, os + k' * 11 + 5, none⟩ = some (.int .i64 k5) := hC 5 (by omega)
   have c6 : wr.cell? ⟨gs, os + k' * 11 + 6, none⟩ = some (.int .i64 k6) := hC 6 (by omega)
   have c7 : wr.cell? ⟨gs, os + k' * 11 + 7, none⟩ = some (.int .i64 k7) := hC 7 (by omega)
   have c8 : wr.cell? ⟨gs, os + k' * 11 + 8, none⟩ = some (.int .i64 k8) := hC 8 (by omega)
   have c9 : wr.cell? ⟨gs, os + k' * 11 + 9, none⟩ = some (.slice kp kpath.length kpc) := hC 9 (by omega)
   have c10 : wr.cell? ⟨gs, os + k' * 11 + 10, none⟩ = some (.slice kip kit.length kic) := hC 10 (by omega)
   have HC : Hid (∀ W', Below wr.heap.size wr W' → Calls Tryz.prog 41 #[.agg #[.int .i64 k0, .string k1, .int .i64 k2, .int .u64 k3, .string k4, .int .i64 k5, .int .i64 k6, .int .i64 k7, .int .i64 k8, .slice kp kpath.length kpc, .slice kip kit.length kic]] W' (CopyG n ⟨⟨k0, k1, k2, k3, k4, k5, k6, k7, k8, kp, kpath, kpc⟩, kip, kic, kit⟩ W')) := fun W' hW => hI ⟨⟨k0, k1, k2, k3, k4, k5, k6, k7, k8, kp, kpath, kpc⟩, kip, kic, kit⟩ W' (MD.In.later hIn hb'.size hW) HFk
   clear hC hIn HFk ha hc' hb' hth hI hsrc hT hB
   go_wp2_with fail
   refine (HC.out _ (below1 _ _)).mono ?_
   rintro r w9 ⟨d', rfl, hd1, hd2, hd3, hd4, hd6⟩
   obtain ⟨⟨l0, l1, l2, l3, l4, l5, l6, l7, l8, lp, lpath, lpc⟩, lip, lic, lit⟩ := d'
   have hd5 : Below wr.heap.size wr w9 := (below1 _ _).trans (hd4.mono (by simp))
   have HR2 : Hid _ := HN.out w9 ⟨⟨l0, l1, l2, l3, l4, l5, l6, l7, l8, lp, lpath, lpc⟩, lip, lic, lit⟩ hd5 hd1 (MD.Above.mono (by simp) n _ hd2) hd3 (Good.mono (by simp) (Nat.le_refl _) n _ hd6)
   obtain ⟨u0, u1, u2, u3, u4, u5, u6, u7, u8, u9, u10, ⟨e0, e1, e2, e3, e4, e5, e6, e7, e8, e9, e10⟩, f0, f1, f2, f3, f4, f5, f6, f7, f8, f9, f10⟩ := old_cells (there_below HO.out hg hd5) (show k' * 11 + 11 ≤ items.length * 11 by omega)
   simp only [MD.val, D]
   clear hd1 hd2 hd3 hd4 hd5 hd6
   go_wp2_with fail
   exact ⟨HR2.out, by simp [intOf]; omega⟩
  ·have i1 : ¬ (k' : Int) < items.length := by omega
   obtain rfl : k' = items.length := by omega
   go_wp2_with fail
   exact bodyPost_end (results_none rfl _ _ _) rfl ⟨rfl, ⟨items.length, ds, Nat.le_refl _, rfl, hds, hb', hg, hth, hc', ha⟩⟩
end Go.Proofs.YtdbijkgnddcneaaGreatDoor
namespace Go.Proofs.YtdbijkgnddcneaaGreatDoor
open Go.RowKit Go.ChangeMaps
set_option maxRecDepth 100000
set_option maxHeartbeats 4000000
attribute [local go_sem] refold2 cell3_0 cell3_1 b28_0 b28_01 nz26 nz23
def CopiesP (n : Nat) (items : List MD) (w : World) (r : Ending) (w' : World) : Prop := ∃ g ds, r = .returned (.slice (some ⟨g, 0, none⟩) items.length items.length) ∧ ds.length = items.length ∧ Below w.heap.size w w' ∧ w.heap.size ≤ g ∧ g < w'.heap.size ∧ (∃ c, w'.heap[g]? = some (.cells c 32 (0, 0)) ∧ c.size = items.length * 11) ∧
 (∀ (i : Nat) (hi : i < ds.length), MD.CellsAt w' g (i * 11) ds[i] ∧ MD.In w'.heap.size w' n ds[i] ∧ MD.Above (g + 1) n ds[i] ∧ Good (g + 1) w'.heap.size w' n ds[i]) ∧ all2 (MD.same n) items ds = true
theorem copies_lev (n : Nat) (hI : HCopyC n) (gs os cap : Nat) (items : List MD) (hfull : ∀ d ∈ items, MD.full n d = true) (h0 : 0 < items.length) (hl : items.length ≤ 1048576) (w : World) (hgs : gs < w.heap.size) (hsrc : ∀ (i : Nat) (hi : i < items.length), MD.CellsAt w gs (os + i * 11) items[i] ∧ MD.In w.heap.size w n items[i]) :
  Calls Tryz.prog 35 #[.slice (some ⟨gs, os, none⟩) items.length cap] w (CopiesP n items w) := by
 obtain ⟨Y, hY, hmk⟩ := mk_rows items.length hl
 have h00 : ¬ items.length = 0 := by omega
 have h01 : ((items.length : Int) == 0) = false := by rw [beq_eq_false_iff_ne]; omega
 go_enter Tryz.func35, Tryz.ntmps35
 go_wp2_with fail
 have hrow : (w.alloc (.cells Y 32)).heap[w.heap.size]? = some (.cells Y 32) := heap_alloc_new w _
 have hb := below1 w (.cells Y 32)
 refine Calls.mono (layCopies_lev n hI (items.length * 11) w.heap.size gs os items.length cap items hfull hl (Nat.le_refl _) w _ (Nat.le_refl _) (by simp) hb ⟨Y, hrow, hY⟩ hgs hsrc) ?_
 rintro _ V ⟨rfl, k, ds, hk, e, hds, hb', hg, hth, hc', ha⟩
 obtain rfl : k = items.length := by injection e with _ e2; omega
 rw [List.take_of_length_le (Nat.le_refl _)] at ha
 have HH : Hid (CopiesP n items w (.returned (.slice (some ⟨w.heap.size, 0, none⟩) items.length items.length)) V) := ⟨w.heap.size, ds, rfl, hds, hb', Nat.le_refl _, hg, hth, fun i hi => ⟨(hc' i hi).1, (hc' i hi).2.1, (hc' i hi).2.2.1, (hc' i hi).2.2.2.1⟩, ha⟩
 clear hrow hb hb' hg hth hc' ha hds e
 go_wp2_with fail
 go_ret
 exact HH.out
end Go.Proofs.YtdbijkgnddcneaaGreatDoor
namespace Go.Proofs.YtdbijkgnddcneaaGreatDoor
open Go.RowKit Go.ChangeMaps
set_option maxRecDepth 100000
set_option maxHeartbeats 4000000
attribute [local go_sem] refold2 cell3_0 cell3_1 b28_0 b28_01 nz26 nz23
theorem copies_none (p : Option Addr) (c : Nat) (w : World) : Calls Tryz.prog 35 #[.slice p 0 c] w fun r w' => r = .returned (.slice none 0 0) ∧ w' = w := by
 go_enter Tryz.func35, Tryz.ntmps35
 go_wp2_with fail
 go_ret
 exact ⟨rfl, rfl⟩
theorem cps (n : Nat) (hI : HCopyC n) {h : Hd} (ip : Option Addr) (ic : Nat) (items : List MD) (hfull : ∀ q ∈ items, MD.full n q = true) (hi30 : items.length ≤ 30) (hlen : items.length ≤ ic ∧ ic ≤ maxLen) (w U : World) (hU : Below w.heap.size w U) (hits : MD.ItemsIn w.heap.size w n ⟨h, ip, ic, items⟩) :
  Calls Tryz.prog 35 #[.slice ip items.length ic] U fun r w' => ∃ ip2 ic2 ds, r = .returned (.slice ip2 items.length ic2) ∧ ds.length = items.length ∧ Below U.heap.size U w' ∧ items.length ≤ ic2 ∧ ic2 ≤ maxLen ∧ ((ds = [] ∧ ip2 = none) ∨ ∃ g, ip2 = some ⟨g, 0, none⟩ ∧ U.heap.size ≤ g ∧ g < w'.heap.size ∧ (∃ c, w'.heap[g]? = some (.cells c 32 (0, 0)) ∧ c.size = items.length * 11) ∧ ∀ (i : Nat) (hi : i < ds.length), MD.CellsAt w' g (i * 11) ds[i] ∧ MD.In w'.heap.size w' n ds[i] ∧ MD.Above (g + 1) n ds[i] ∧ Good (g + 1) w'.heap.size w' n ds[i]) ∧ all2 (MD.same n) items ds = true := by
 by_cases he : items = []
 ·subst he
  refine (copies_none ip ic U).mono ?_
  rintro _ V ⟨rfl, hV⟩
  obtain rfl := hV.symm
  exact ⟨none, 0, [], rfl, rfl, Below.refl _ _, Nat.le_refl _, Nat.zero_le _, .inl ⟨rfl, rfl⟩, rfl⟩
 ·rcases hits with e | ⟨b, o, e1, e2, e3⟩
  ·exact absurd e he
  ·have e1' : ip = some ⟨b, o, none⟩ := e1
   subst e1'
   have h0 : 0 < items.length := List.length_pos_iff.2 he
   refine (copies_lev n hI b o ic items hfull h0 (by omega) U (Nat.lt_of_lt_of_le e2 hU.size) (fun i hi => ⟨(e3 i hi).1.below e2 hU, MD.In.mono hU.size n _ (MD.In.below hU n _ (e3 i hi).2)⟩)).mono ?_
   rintro _ V ⟨g, ds, rfl, a1, a2, a3, a4, a5, a6, a7⟩
   exact ⟨some ⟨g, 0, none⟩, items.length, ds, rfl, a1, a2, Nat.le_refl _, by unfold maxLen; omega, .inr ⟨g, rfl, a3, a4, a5, a6⟩, a7⟩
theorem copiedH_lev (n : Nat) (hI : HCopyC n) (k : Int) (t : ByteArray) (a f : Int) (s : ByteArray) (r0 r1 r2 r3 : Int) (pp : Option Addr) (path : List Int) (pc : Nat) (ip : Option Addr) (ic : Nat) (items : List MD) (w : World)
  (hin : MD.In w.heap.size w (n + 1) ⟨⟨k, t, a, f, s, r0, r1, r2, r3, pp, path, pc⟩, ip, ic, items⟩) (hf : MD.full (n + 1) ⟨⟨k, t, a, f, s, r0, r1, r2, r3, pp, path, pc⟩, ip, ic, items⟩ = true) :
  Calls Tryz.prog 41 #[.agg #[.int .i64 k, .string t, .int .i64 a, .int .u64 f, .string s, .int .i64 r0, .int .i64 r1, .int .i64 r2, .int .i64 r3, .slice pp path.length pc, .slice ip items.length ic]] w (CopyG (n + 1) ⟨⟨k, t, a, f, s, r0, r1, r2, r3, pp, path, pc⟩, ip, ic, items⟩ w) := by
 have hF := hin.fine
 have hP := hin.path
 have hits := hin.items
 have hlen := hin.len
 have fx2 : (headOK ⟨k, t, a, f, s, r0, r1, r2, r3, pp, path, pc⟩ items.length && (k != 8 || (decide (items.length ≤ 30) && items.all (MD.full n)))) = true := hf
 rw [Bool.and_eq_true] at fx2
 obtain ⟨hp100, _⟩ := head_path fx2.1
 have hty : tyB k t = true := by
  have := fx2.1
  unfold headOK at this
  rw [Bool.and_eq_true, Bool.and_eq_true] at this
  exact this.1.1
 have ht40 := ty_small hty
 obtain ⟨hs65, hi30⟩ := full_small hf
 have HFi : Hid (∀ q ∈ items, MD.full n q = true) := full_items hf
 simp only at hp100 hs65 hi30
 have ht : t.size ≤ 140737488351232 := by omega
 have hs : s.size ≤ 140737488351232 := by omega
 have HPn : Hid (pp = none → path.length = 0) := fun e => by
  rcases hP.2 with e1 | ⟨b, o, e1, _⟩
  ·have e1' : path = [] := e1
   rw [e1']; rfl
  ·exact absurd (e.symm.trans e1) (by simp)
 have HPC : Hid (∀ W : World, (∀ b, b < w.heap.size → W.heap[b]? = w.heap[b]?) → ∀ ad, pp = some ad → ∀ (j : Nat) (u : Value), (path.map (Value.int .i64))[j]? = some u → W.cell? (ad.add j) = some u) := fun W hW ad e => path_cells (by rw [← e]; exact hP.2) W hW
 obtain ⟨i3, hi3, hz30, hz31, hz32⟩ := info_parts info3z
 have HA : Hid (MD.Fine ⟨k, t, a, f, s, r0, r1, r2, r3, pp, path, pc⟩ ∧ ∀ x ∈ path, -9223372036854775808 ≤ x ∧ x ≤ 9223372036854775807) := ⟨hF, hP.1⟩
 have HIt : Hid (MD.ItemsIn w.heap.size w n ⟨⟨k, t, a, f, s, r0, r1, r2, r3, pp, path, pc⟩, ip, ic, items⟩) := hits
 have HLn : Hid (items.length ≤ ic ∧ ic ≤ maxLen) := hlen
 clear hF hP hits hlen fx2 hty hin hf
 go_enter Tryz.func41, Tryz.ntmps41
 go_wp2_with fail
 obtain ⟨U0, hU0⟩ : ∃ W, W = (w.alloc (.cells #[.int .i64 k, .string t, .int .i64 a, .int .u64 f, .string s, .int .i64 r0, .int .i64 r1, .int .i64 r2, .int .i64 r3, .slice pp path.length pc, .slice ip items.length ic] 32)).alloc (.cells #[.int .i64 0, .string ⟨#[]⟩, .int .i64 0, .int .u64 0, .string ⟨#[]⟩, .int .i64 0, .int .i64 0, .int .i64 0, .int .i64 0, .slice none 0 0, .slice none 0 0] 32) := ⟨_, rfl⟩
 rw [← hU0]
 have u0 : Below w.heap.size w U0 := by rw [hU0]; exact below2 w _ _
 have y0 : w.heap.size + 1 < U0.heap.size := by rw [hU0]; simp
 have b0 : U0.heap[w.heap.size]? = some (.cells #[.int .i64 k, .string t, .int .i64 a, .int .u64 f, .string s, .int .i64 r0, .int .i64 r1, .int .i64 r2, .int .i64 r3, .slice pp path.length pc, .slice ip items.length ic] 32) := by rw [hU0, Below.heap_alloc _ _ _ (by simp)]; exact heap_alloc_new _ _
 have q0 : U0.heap[w.heap.size + 1]? = some (.cells #[.int .i64 0, .string ⟨#[]⟩, .int .i64 0, .int .u64 0, .string ⟨#[]⟩, .int .i64 0, .int .i64 0, .int .i64 0, .int .i64 0, .slice none 0 0, .slice none 0 0] 32) := by rw [hU0]; exact heap2_1 _ _ _
 clear hU0
 refine rg (S := fun W => (∀ j, W.cell? ⟨w.heap.size, j, none⟩ = (#[.int .i64 k, .string t, .int .i64 a, .int .u64 f, .string s, .int .i64 r0, .int .i64 r1, .int .i64 r2, .int .i64 r3, .slice pp path.length pc, .slice ip items.length ic] : Array Value)[j]?)) (fun U1 hB4 HU1 => ?_)
 have hS := (cells_of ((hB4.block _ (by omega)).trans b0)).1
 refine tq 0 (.pointer (some ⟨w.heap.size, 1, none⟩)) rfl hS ?_
 simp only [sa, sb, Act.put, sd, se, sf]
 refine tk 1 (.string t) rfl (.inl ⟨by rfl, ?r⟩) hS ?_
 case r => intro W hW; simp [go_sem, execOp, Act.eval, hW]
 simp only [sa, sb, sc, Act.put, sd, se, sf]
 refine tq 3 (.pointer (some ⟨w.heap.size, 4, none⟩)) rfl hS ?_
 simp only [sa, sb, sc, Act.put, sd, se, sf]
 refine tk 4 (.string s) rfl (.inl ⟨by rfl, ?r⟩) hS ?_
 case r => intro W hW; simp [go_sem, execOp, Act.eval, hW]
 simp only [sa, sb, sc, Act.put, sd, se, sf]
 have u1 : Below w.heap.size w U1 := u0.trans (hB4.mono (by omega))
 have y1 : w.heap.size + 1 < U1.heap.size := Nat.lt_of_lt_of_le y0 hB4.size
 have b1 : U1.heap[w.heap.size]? = _ := (hB4.block _ (by omega)).trans b0
 have q1 : U1.heap[w.heap.size + 1]? = _ := (hB4.block _ (by omega)).trans q0
 clear HU1 hB4
 refine one 2 rfl (fun K hK => ?_)
 simp only [sa, sb, sc]
 go_simp
 refine (clone_any t _ ht).mono ?_
 rintro r U2 ⟨rfl, c2⟩
 have y2 : w.heap.size + 1 < U2.heap.size := Nat.lt_of_lt_of_le y1 c2.size
 have u2 : Below w.heap.size w U2 := u1.trans (c2.mono (by omega))
 have b2 : U2.heap[w.heap.size]? = _ := (c2.block _ (by omega)).trans b1
 have q2 : U2.heap[w.heap.size + 1]? = _ := (c2.block _ (by omega)).trans q1
 go_simp
 have hS2 := (cells_of b2).1
 refine hK _ _ ⟨hS2, ?_⟩
 clear hK K hS
 have hS := hS2
 clear hS2
 try simp only [Act.put, sd, se, sf]
 refine tq 6 (.pointer (some ⟨w.heap.size, 1, none⟩)) rfl hS ?_
 simp only [sa, sb, sc, Act.put, sd, se, sf]
 refine one 5 rfl (fun K hK => ?_)
 simp only [sa, sb, sc]
 go_simp
 refine (clone_any s _ hs).mono ?_
 rintro r U3 ⟨rfl, c3⟩
 have y3 : w.heap.size + 1 < U3.heap.size := Nat.lt_of_lt_of_le y2 c3.size
 have u3 : Below w.heap.size w U3 := u2.trans (c3.mono (by omega))
 have b3 : U3.heap[w.heap.size]? = _ := (c3.block _ (by omega)).trans b2
 have q3 : U3.heap[w.heap.size + 1]? = _ := (c3.block _ (by omega)).trans q2
 go_simp
 have hS2 := (cells_of b3).1
 refine hK _ _ ⟨hS2, ?_⟩
 clear hK K hS
 have hS := hS2
 clear hS2
 try simp only [Act.put, sd, se, sf]
 obtain ⟨bc3, bf3⟩ := cells_of b3
 refine one 7 rfl (fun K hK => ?_)
 simp only [sa, sb, sc]
 go_simp
 obtain ⟨U4, hU4⟩ : ∃ W, W = U3.setCell ⟨w.heap.size, 1, none⟩ (.string t) := ⟨_, rfl⟩
 rw [← hU4]
 have k4 : Kp (· = w.heap.size) U3 U4 := by rw [hU4]; exact Kp.set _ _ _ _ rfl
 have b4 : U4.heap[w.heap.size]? = some (.cells #[.int .i64 k, .string t, .int .i64 a, .int .u64 f, .string s, .int .i64 r0, .int .i64 r1, .int .i64 r2, .int .i64 r3, .slice pp path.length pc, .slice ip items.length ic] 32) := by rw [hU4]; exact heap_set b3 1 _
 clear hU4
 have y4 := k4.size
 have q4 : U4.heap[w.heap.size + 1]? = _ := (k4.block _ (by omega) (by omega)).trans q3
 have u4 : Below w.heap.size w U4 := u3.trans (k4.below (by omega) fun i hi h => by omega)
 refine hK _ _ ⟨(cells_of b4).1, ?_⟩
 clear hK K hS
 have hS := (cells_of b4).1
 try simp only [Act.put, sd, se, sf]
 obtain ⟨bc4, bf4⟩ := cells_of b4
 refine tq 8 (.pointer (some ⟨w.heap.size, 4, none⟩)) rfl hS ?_
 simp only [sa, sb, sc, Act.put, sd, se, sf]
 refine one 9 rfl (fun K hK => ?_)
 simp only [sa, sb, sc]
 go_simp
 obtain ⟨U5, hU5⟩ : ∃ W, W = U4.setCell ⟨w.heap.size, 4, none⟩ (.string s) := ⟨_, rfl⟩
 rw [← hU5]
 have k5 : Kp (· = w.heap.size) U4 U5 := by rw [hU5]; exact Kp.set _ _ _ _ rfl
 have b5 : U5.heap[w.heap.size]? = some (.cells #[.int .i64 k, .string t, .int .i64 a, .int .u64 f, .string s, .int .i64 r0, .int .i64 r1, .int .i64 r2, .int .i64 r3, .slice pp path.length pc, .slice ip items.length ic] 32) := by rw [hU5]; exact heap_set b4 4 _
 clear hU5
 have y5 := k5.size
 have q5 : U5.heap[w.heap.size + 1]? = _ := (k5.block _ (by omega) (by omega)).trans q4
 have u5 : Below w.heap.size w U5 := u4.trans (k5.below (by omega) fun i hi h => by omega)
 refine hK _ _ ⟨(cells_of b5).1, ?_⟩
 clear hK K hS
 have hS := (cells_of b5).1
 try simp only [Act.put, sd, se, sf]
 refine dn ?_
 try simp only [Act.put]
 clear bc3 bf3 bc4 bf4 hS b0 b1 b2 b3 b4 q0 q1 q2 q3 q4 u0 u1 u2 u3 u4 k4 k5 c2 c3
 have z5 : w.heap.size + 1 < U5.heap.size := by omega
 clear y0 y1 y2 y3 y4 y5
 obtain ⟨bc5, bf5⟩ := cells_of b5
 have hw5 : ∀ b, b < w.heap.size → U5.heap[b]? = w.heap[b]? := fun b hb => u5.block b hb
 go_wp2_with (at_builtin; refine wpList_append_new rfl _ _ 22 rfl 3 i3 (.int .i64 0) 1 8 Tryz.underlying22 hi3 hz30 hz31 hz32 rfl (by decide) rfl pp path.length pc (path.map (Value.int .i64)) rfl (by simp) HPn.out (HPC.out U5 hw5) (numsOf path) (by unfold maxLen; omega) (by omega) ?_; intro pp2 pc2 U6 hN6; have HN6 : Hid (NewRow U5 U6 3 1 path.length (path.map (Value.int .i64)) pp2 pc2) := hN6; have b6 : U6.heap[w.heap.size]? = some (.cells #[.int .i64 k, .string t, .int .i64 a, .int .u64 f, .string s, .int .i64 r0, .int .i64 r1, .int .i64 r2, .int .i64 r3, .slice pp path.length pc, .slice ip items.length ic] 32) := (hN6.2.2.1.block _ (by omega)).trans b5; have q6 : U6.heap[w.heap.size + 1]? = some (.cells #[.int .i64 0, .string ⟨#[]⟩, .int .i64 0, .int .u64 0, .string ⟨#[]⟩, .int .i64 0, .int .i64 0, .int .i64 0, .int .i64 0, .slice none 0 0, .slice none 0 0] 32) := (hN6.2.2.1.block _ (by omega)).trans q5; have z6 := hN6.2.2.1.size; obtain ⟨bc6, bf6⟩ := cells_of b6; clear hN6)
 obtain ⟨U7, hU7⟩ : ∃ W, W = U6.setCell ⟨w.heap.size, 9, none⟩ (.slice pp2 path.length pc2) := ⟨_, rfl⟩
 rw [← hU7]
 have k7 : Kp (· = w.heap.size) U6 U7 := by rw [hU7]; exact Kp.set _ _ _ _ rfl
 have b7 : U7.heap[w.heap.size]? = some (.cells #[.int .i64 k, .string t, .int .i64 a, .int .u64 f, .string s, .int .i64 r0, .int .i64 r1, .int .i64 r2, .int .i64 r3, .slice pp2 path.length pc2, .slice ip items.length ic] 32) := by rw [hU7]; exact heap_set b6 9 _
 clear hU7
 have z7 := k7.size
 have q7 := (k7.block _ (hblk q6) (by omega)).trans q6
 have u7 : Below w.heap.size w U7 := (u5.trans (HN6.out.2.2.1.mono u5.size)).trans (k7.below (by omega) fun i hi e => by omega)
 clear b6 q6 bc6 bf6 b5 q5 bc5 bf5
 refine (cps n hI ip ic items HFi.out hi30 HLn.out w U7 u7 HIt.out).mono ?_
 rintro _ U8 ⟨ip2, ic2, ds, rfl, hds, c8, hi1, hi2, hrow, hsm⟩
 have z8 := c8.size
 have b8 := (c8.block _ (hblk b7)).trans b7
 have q8 := (c8.block _ (hblk q7)).trans q7
 have u8 : Below w.heap.size w U8 := u7.trans (c8.mono u7.size)
 have HR8 : Hid (ds.length = items.length ∧ items.length ≤ ic2 ∧ ic2 ≤ maxLen ∧ ((ds = [] ∧ ip2 = none) ∨ ∃ g, ip2 = some ⟨g, 0, none⟩ ∧ U7.heap.size ≤ g ∧ g < U8.heap.size ∧ (∃ c, U8.heap[g]? = some (.cells c 32 (0, 0)) ∧ c.size = items.length * 11) ∧ ∀ (i : Nat) (hi : i < ds.length), MD.CellsAt U8 g (i * 11) ds[i] ∧ MD.In U8.heap.size U8 n ds[i] ∧ MD.Above (g + 1) n ds[i] ∧ Good (g + 1) U8.heap.size U8 n ds[i]) ∧ all2 (MD.same n) items ds = true) := ⟨hds, hi1, hi2, hrow, hsm⟩
 clear hds hi1 hi2 hrow hsm b7 q7 u7
 obtain ⟨bc8, bf8⟩ := cells_of b8
 obtain ⟨qc8, qf8⟩ := cells_of q8
 go_wp2_with fail
 obtain ⟨U9, hU9⟩ : ∃ W, W = U8.setCell ⟨w.heap.size, 10, none⟩ (.slice ip2 items.length ic2) := ⟨_, rfl⟩
 rw [← hU9]
 have k9 : Kp (· = w.heap.size) U8 U9 := by rw [hU9]; exact Kp.set _ _ _ _ rfl
 clear hU9
 have z9 := k9.size
 have q9 := (k9.block _ (hblk q8) (by omega)).trans q8
 have kUA := kp_eleven U9 (w.heap.size + 1) (.int .i64 k) (.string t) (.int .i64 a) (.int .u64 f) (.string s) (.int .i64 r0) (.int .i64 r1) (.int .i64 r2) (.int .i64 r3) (.slice pp2 path.length pc2) (.slice ip2 items.length ic2)
 have hrUA := eleven_set q9 (.int .i64 k) (.string t) (.int .i64 a) (.int .u64 f) (.string s) (.int .i64 r0) (.int .i64 r1) (.int .i64 r2) (.int .i64 r3) (.slice pp2 path.length pc2) (.slice ip2 items.length ic2)
 obtain ⟨UA, hUA⟩ : ∃ W, W = (((((((((((U9.setCell ⟨w.heap.size + 1, 0, none⟩ (.int .i64 k)).setCell ⟨w.heap.size + 1, 1, none⟩ (.string t)).setCell ⟨w.heap.size + 1, 2, none⟩ (.int .i64 a)).setCell ⟨w.heap.size + 1, 3, none⟩ (.int .u64 f)).setCell ⟨w.heap.size + 1, 4, none⟩ (.string s)).setCell ⟨w.heap.size + 1, 5, none⟩ (.int .i64 r0)).setCell ⟨w.heap.size + 1, 6, none⟩ (.int .i64 r1)).setCell ⟨w.heap.size + 1, 7, none⟩ (.int .i64 r2)).setCell ⟨w.heap.size + 1, 8, none⟩ (.int .i64 r3)).setCell ⟨w.heap.size + 1, 9, none⟩ (.slice pp2 path.length pc2)).setCell ⟨w.heap.size + 1, 10, none⟩ (.slice ip2 items.length ic2)) := ⟨_, rfl⟩
 rw [← hUA] at kUA hrUA ⊢
 clear hUA
 have rcUA := (cells_of hrUA).1
 refine bodyPost_ret (v := .agg #[.int .i64 k, .string t, .int .i64 a, .int .u64 f, .string s, .int .i64 r0, .int .i64 r1, .int .i64 r2, .int .i64 r3, .slice pp2 path.length pc2, .slice ip2 items.length ic2]) (by simp [results, Tryz.results41, go_sem, rcUA]) rfl ?_
 have zA := kUA.size
 have keep8 : ∀ b, w.heap.size + 2 ≤ b → b < U8.heap.size → UA.heap[b]? = U8.heap[b]? := fun b h1 h2 => (kUA.block b (by omega) (by omega)).trans (k9.block b h2 (by omega))
 have keep6 : ∀ b, w.heap.size + 2 ≤ b → b < U6.heap.size → UA.heap[b]? = U6.heap[b]? := fun b h1 h2 => (keep8 b h1 (by omega)).trans ((c8.block b (by omega)).trans (k7.block b h2 (by omega)))
 have uA : Below w.heap.size w UA := (u8.trans (k9.below u8.size fun i hi e => by omega)).trans (kUA.below (by omega) fun i hi e => by omega)
 obtain ⟨hds, hi1, hi2, hrow, hsm⟩ := HR8.out
 obtain ⟨n1, n2, n3, n4, n5⟩ := HN6.out
 have hPr := path_row HN6.out
 have hPg : path.length = 0 ∨ ∃ g cur, pp2 = some ⟨g, 0, none⟩ ∧ w.heap.size + 2 ≤ g ∧ g < U6.heap.size ∧ U6.heap[g]? = some (.cells cur 3 (0, 0)) ∧ path.length ≤ cur.size := by
  rcases n5 with ⟨e, _⟩ | ⟨g, cur, _, e1, e2, e3, e4, e5, _⟩
  ·exact .inl e
  ·exact .inr ⟨g, cur, e1, by omega, e3, e4, by omega⟩
 have hz6 : U6.heap.size ≤ UA.heap.size := by omega
 rcases hrow with ⟨rfl, rfl⟩ | ⟨g, rfl, hg1, hg2, hg3, hg4⟩
 ·have hie : items.length = 0 := by simpa using hds.symm
  exact copy_doneG pp2 pc2 none ic2 [] uA HA.out.1 HA.out.2 n1 n2 ⟨path_kept2 hPr (by omega) keep6 hz6, fun b o e => by have := n4 b o e; omega⟩ hds hi1 hi2 (.inl rfl) ⟨fun b o e => (by cases e), fun x hx => (by cases hx)⟩ hsm (path_good hPg keep6 hz6) (.inl rfl)
 ·obtain ⟨zr1, zr2⟩ := rows_kept2 (lo := w.heap.size) (fun i hi => ⟨(hg4 i hi).1, (hg4 i hi).2.1, (hg4 i hi).2.2.1⟩) (by omega) hg2 (fun b h1 h2 => keep8 b (by omega) h2) (by omega)
  exact copy_doneG pp2 pc2 (some ⟨g, 0, none⟩) ic2 ds uA HA.out.1 HA.out.2 n1 n2 ⟨path_kept2 hPr (by omega) keep6 hz6, fun b o e => by have := n4 b o e; omega⟩ hds hi1 hi2 zr1 ⟨fun b o e => (by cases e; omega), zr2⟩ hsm (path_good hPg keep6 hz6) (rows_good (fun i hi => ⟨(hg4 i hi).1, (hg4 i hi).2.2.2⟩) hg3 (by rw [hds]; exact Nat.le_refl _) (by omega) hg2 (fun b h1 h2 => keep8 b (by omega) h2) (by omega))
theorem copiedH_any : ∀ n, HCopyC n
 | 0 => fun _ _ h _ => h.elim
 | n + 1 => fun d w hin hf => by
  obtain ⟨⟨k, t, a, f, s, r0, r1, r2, r3, pp, path, pc⟩, ip, ic, items⟩ := d
  exact copiedH_lev n (copiedH_any n) k t a f s r0 r1 r2 r3 pp path pc ip ic items w hin hf
end Go.Proofs.YtdbijkgnddcneaaGreatDoor
namespace Go.Proofs.YtdbijkgnddcneaaGreatDoor
open Go.RowKit Go.ChangeMaps
set_option maxRecDepth 100000
set_option maxHeartbeats 4000000
attribute [local go_sem] refold2 cell3_0 cell3_1 b28_0 b28_01 nz26 nz23
theorem partOf_none (k : Int) (t : ByteArray) (a f : Int) (s : ByteArray) (r0 r1 r2 r3 : Int) (pp : Option Addr) (pl pc : Nat) (ip : Option Addr) (il ic : Nat) (w : World) :
  Calls Tryz.prog 46 #[.agg #[.int .i64 k, .string t, .int .i64 a, .int .u64 f, .string s, .int .i64 r0, .int .i64 r1, .int .i64 r2, .int .i64 r3, .slice pp pl pc, .slice ip il ic], .slice none 0 0] w fun r w' => r = .returned (.tuple #[.agg #[.int .i64 k, .string t, .int .i64 a, .int .u64 f, .string s, .int .i64 r0, .int .i64 r1, .int .i64 r2, .int .i64 r3, .slice pp pl pc, .slice ip il ic], .bool true]) ∧ Below w.heap.size w w' := by
 go_enter Tryz.func46, Tryz.ntmps46
 go_wp2_with fail
 obtain ⟨U0, hU0, u0, b0, z0⟩ := an2 w (.cells #[.int .i64 k, .string t, .int .i64 a, .int .u64 f, .string s, .int .i64 r0, .int .i64 r1, .int .i64 r2, .int .i64 r3, .slice pp pl pc, .slice ip il ic] 32) (.cells #[.int .i64 0, .string ⟨#[]⟩, .int .i64 0, .int .u64 0, .string ⟨#[]⟩, .int .i64 0, .int .i64 0, .int .i64 0, .int .i64 0, .slice none 0 0, .slice none 0 0] 32)
 rw [← hU0]
 clear hU0
 obtain ⟨bc, bf⟩ := cells_of b0
 obtain ⟨rc, rf⟩ := cells_of z0
 go_loopw [10] (fun i wr => i = .int .i64 0 ∧ wr = U0) (fun _ _ => 0)
 case atStart => exact ⟨rfl, rfl⟩
 case round =>
  obtain ⟨rfl, e⟩ := hrel
  obtain rfl := e.symm
  go_wp2_with fail
  have kU8 := kp_eleven U0 (w.heap.size + 1) (.int .i64 k) (.string t) (.int .i64 a) (.int .u64 f) (.string s) (.int .i64 r0) (.int .i64 r1) (.int .i64 r2) (.int .i64 r3) (.slice pp pl pc) (.slice ip il ic)
  have hrU8 := eleven_set z0 (.int .i64 k) (.string t) (.int .i64 a) (.int .u64 f) (.string s) (.int .i64 r0) (.int .i64 r1) (.int .i64 r2) (.int .i64 r3) (.slice pp pl pc) (.slice ip il ic)
  obtain ⟨U8, hU8⟩ : ∃ W, W = (((((((((((U0.setCell ⟨w.heap.size + 1, 0, none⟩ (.int .i64 k)).setCell ⟨w.heap.size + 1, 1, none⟩ (.string t)).setCell ⟨w.heap.size + 1, 2, none⟩ (.int .i64 a)).setCell ⟨w.heap.size + 1, 3, none⟩ (.int .u64 f)).setCell ⟨w.heap.size + 1, 4, none⟩ (.string s)).setCell ⟨w.heap.size + 1, 5, none⟩ (.int .i64 r0)).setCell ⟨w.heap.size + 1, 6, none⟩ (.int .i64 r1)).setCell ⟨w.heap.size + 1, 7, none⟩ (.int .i64 r2)).setCell ⟨w.heap.size + 1, 8, none⟩ (.int .i64 r3)).setCell ⟨w.heap.size + 1, 9, none⟩ (.slice pp pl pc)).setCell ⟨w.heap.size + 1, 10, none⟩ (.slice ip il ic)) := ⟨_, rfl⟩
  rw [← hU8] at kU8 hrU8 ⊢
  clear hU8
  have rcU8 := (cells_of hrU8).1
  exact bodyPost_ret (v := .tuple #[.agg #[.int .i64 k, .string t, .int .i64 a, .int .u64 f, .string s, .int .i64 r0, .int .i64 r1, .int .i64 r2, .int .i64 r3, .slice pp pl pc, .slice ip il ic], .bool true]) (by simp [results, Tryz.results46, go_sem, rcU8]) rfl ⟨rfl, u0.trans (kU8.below u0.size fun i hi e => by omega)⟩
end Go.Proofs.YtdbijkgnddcneaaGreatDoor
namespace Go.Proofs.YtdbijkgnddcneaaGreatDoor
open Go.RowKit Go.ChangeMaps
set_option maxRecDepth 100000
set_option maxHeartbeats 4000000
attribute [local go_sem] refold2 cell3_0 cell3_1 b28_0 b28_01 nz26 nz23 b32_012 b32_015 b30_023 b30_0123 b30_0 b131_0
theorem b86_0 (k : Int) (t : ByteArray) (a f : Int) (s : ByteArray) (r0 r1 r2 r3 : Int) (pp : Option Addr) (pl pc : Nat) (ip : Option Addr) (il ic : Nat) (w : World) : (Instr.build 86 #[(0, .agg #[.int .i64 k, .string t, .int .i64 a, .int .u64 f, .string s, .int .i64 r0, .int .i64 r1, .int .i64 r2, .int .i64 r3, .slice pp pl pc, .slice ip il ic])]).run Tryz.prog w = .ok (.agg #[.int .i64 k, .string t, .int .i64 a, .int .u64 f, .string s, .int .i64 r0, .int .i64 r1, .int .i64 r2, .int .i64 r3, .slice pp pl pc, .slice ip il ic]) w := by kernel_rfl
attribute [local go_sem] b86_0
theorem Object_any (hb M : Nat) (vs : List Value) (hl : vs.length < 1000) (n : Nat) (t : ByteArray) (ht : t.size ≤ 60000) (a f : Int) (s : ByteArray) (r0 r1 r2 r3 : Int) (pp : Option Addr) (path : List Int) (pc : Nat) (ip : Option Addr) (ic : Nat) (items : List MD) (w : World) (hN : NamesAt w) (h : HeapAt w hb M vs)
  (hin : MD.In w.heap.size w n ⟨⟨8, t, a, f, s, r0, r1, r2, r3, pp, path, pc⟩, ip, ic, items⟩) (hr : MD.right n ⟨⟨8, t, a, f, s, r0, r1, r2, r3, pp, path, pc⟩, ip, ic, items⟩ = true) (hf : MD.full n ⟨⟨8, t, a, f, s, r0, r1, r2, r3, pp, path, pc⟩, ip, ic, items⟩ = true) :
  Calls Tryz.prog 16 #[.pointer (some ⟨hb, 0, none⟩), .agg #[.int .i64 8, .string t, .int .i64 a, .int .u64 f, .string s, .int .i64 r0, .int .i64 r1, .int .i64 r2, .int .i64 r3, .slice pp path.length pc, .slice ip items.length ic]] w fun r w' => r = .returned (.tuple #[(leadD 9 t ((vs.length : Int) + 1) 0 0 0).val, .nilIface]) ∧
   ∃ (ab : Nat) (d : MD), HeapAt w' hb M (vs ++ [.iface 84 (.pointer (some ⟨ab, 0, none⟩))]) ∧ w'.heap[ab]? = some (.cells d.cells 86) ∧ w.heap.size ≤ ab ∧ MD.In w'.heap.size w' n d ∧ MD.Above w.heap.size n d ∧ MD.same n ⟨⟨8, t, a, f, s, r0, r1, r2, r3, pp, path, pc⟩, ip, ic, items⟩ d = true ∧ Kp (fun b => b = hb ∨ b = M) w w' := by
 have hlt1 := hblk h.box
 have hlt2 := hblk h.map
 have HA : Hid (∀ v W, HeapAt W hb M vs → Calls Tryz.prog 43 #[.pointer (some ⟨hb, 0, none⟩), v] W fun r w' => r = .returned (.tuple #[.int .i64 ((vs.length : Int) + 1), .nilIface]) ∧ HeapAt w' hb M (vs ++ [v]) ∧ Kp (fun b => b = hb ∨ b = M) W w') := fun v W hW => add_any v hb M vs hl W hW
 have HR : Hid (∀ W, Below w.heap.size w W → Calls Tryz.prog 39 #[.agg #[.int .i64 8, .string t, .int .i64 a, .int .u64 f, .string s, .int .i64 r0, .int .i64 r1, .int .i64 r2, .int .i64 r3, .slice pp path.length pc, .slice ip items.length ic]] W fun r w' => r = .returned (.bool true) ∧ Below W.heap.size W w') := fun W hW => by
  have := Right_any n ⟨⟨8, t, a, f, s, r0, r1, r2, r3, pp, path, pc⟩, ip, ic, items⟩ W (hN.kept hW) (MD.In.mono hW.size n _ (MD.In.below hW n _ hin))
  rw [hr] at this
  exact this
 have HC : Hid (∀ W, Below w.heap.size w W → Calls Tryz.prog 41 #[.agg #[.int .i64 8, .string t, .int .i64 a, .int .u64 f, .string s, .int .i64 r0, .int .i64 r1, .int .i64 r2, .int .i64 r3, .slice pp path.length pc, .slice ip items.length ic]] W (CopyG n ⟨⟨8, t, a, f, s, r0, r1, r2, r3, pp, path, pc⟩, ip, ic, items⟩ W)) := fun W hW => copiedH_any n ⟨⟨8, t, a, f, s, r0, r1, r2, r3, pp, path, pc⟩, ip, ic, items⟩ W (MD.In.mono hW.size n _ (MD.In.below hW n _ hin)) hf
 clear hin hf hr
 go_enter Tryz.func16, Tryz.ntmps16
 go_wp2_with fail
 obtain ⟨U0, hU0, u0, b0, z0⟩ := an2 w (.cells #[.int .i64 8, .string t, .int .i64 a, .int .u64 f, .string s, .int .i64 r0, .int .i64 r1, .int .i64 r2, .int .i64 r3, .slice pp path.length pc, .slice ip items.length ic] 32) (.cells #[.int .i64 0, .string ⟨#[]⟩, .int .i64 0, .int .u64 0, .string ⟨#[]⟩, .int .i64 0, .int .i64 0, .int .i64 0, .int .i64 0, .slice none 0 0, .slice none 0 0] 32)
 rw [← hU0]
 clear hU0
 have bc0 := (cells_of b0).1
 go_wp2_with fail
 refine (HR.out _ u0).mono ?_
 rintro _ U1 ⟨rfl, c1⟩
 have u1 : Below w.heap.size w U1 := u0.trans (c1.mono u0.size)
 have b1 := (c1.block _ (hblk b0)).trans b0
 have z1 := (c1.block _ (hblk z0)).trans z0
 clear b0 u0 c1 z0 bc0
 have bc1 := (cells_of b1).1
 go_wp2_with fail
 refine (HC.out _ u1).mono ?_
 rintro _ U2 ⟨⟨⟨k', t', a', f', s', q0, q1, q2, q3, pp', path', pc'⟩, ip', ic', items'⟩, rfl, i2, j2, e2, c2, _⟩
 have u2 : Below w.heap.size w U2 := u1.trans (c2.mono u1.size)
 have b2 := (c2.block _ (hblk b1)).trans b1
 have z2 := (c2.block _ (hblk z1)).trans z1
 have y1 := u1.size
 have y2 := c2.size
 have j2 := MD.Above.mono (lo' := w.heap.size + 2) (hblk z1) n _ j2
 have I2 : Hid (MD.In U2.heap.size U2 n _ ∧ MD.Above (w.heap.size + 2) n _ ∧ MD.same n _ _ = true) := ⟨i2, j2, e2⟩
 clear b1 bc1 u1 c2 z1 i2 j2 e2
 simp only [MD.val, D]
 go_wp2_with fail
 obtain ⟨U3, hU3⟩ : ∃ W, W = U2.alloc (.cells (MD.cells ⟨⟨k', t', a', f', s', q0, q1, q2, q3, pp', path', pc'⟩, ip', ic', items'⟩) 86) := ⟨_, rfl⟩
 have c3 : Below U2.heap.size U2 U3 := by rw [hU3]; exact below1 _ _
 have a3 : U3.heap[U2.heap.size]? = some (.cells (MD.cells ⟨⟨k', t', a', f', s', q0, q1, q2, q3, pp', path', pc'⟩, ip', ic', items'⟩) 86) := by rw [hU3]; exact heap_alloc_new _ _
 simp only [MD.cells] at hU3
 rw [← hU3]
 clear hU3
 have u3 : Below w.heap.size w U3 := u2.trans (c3.mono u2.size)
 have b3 := (c3.block _ (hblk b2)).trans b2
 have z3 := (c3.block _ (hblk z2)).trans z2
 have yz := hblk z2
 have I3 : Hid (MD.In U2.heap.size U3 n _ ∧ MD.Above (w.heap.size + 2) n _ ∧ MD.same n _ _ = true) := ⟨MD.In.below c3 n _ I2.out.1, I2.out.2⟩
 clear b2 z2 I2 u2
 refine (HA.out _ _ (h.below u3)).mono ?_
 rintro _ U4 ⟨rfl, h4, k4⟩
 have a4 := (k4.block _ (hblk a3) (by omega)).trans a3
 have b4 := (k4.block _ (hblk b3) (by omega)).trans b3
 have z4 := (k4.block _ (hblk z3) (by omega)).trans z3
 have k5 : Kp (fun b => b = hb ∨ b = M) w U4 := (Kp.of u3).trans k4 fun _ _ e => e
 have y3 := c3.size
 have I4 : Hid (MD.In U2.heap.size U4 n _ ∧ MD.Above (w.heap.size + 2) n _ ∧ MD.same n _ _ = true) := ⟨MD.In.aloft (lo := w.heap.size + 2) (fun b h1 h2 => k4.block b (Nat.lt_of_lt_of_le h2 y3) (by omega)) n _ I3.out.1 I3.out.2.1, I3.out.2⟩
 have y4 := k4.size
 clear a3 b3 z3 I3 u3 c3 k4
 have bc4 := (cells_of b4).1
 go_wp2_with fail
 refine Calls.mono (leading_any 9 ((vs.length : Int) + 1) 0 0 0 t ht _) ?_
 rintro _ U5 ⟨rfl, c5⟩
 have z5 := (c5.block _ (hblk z4)).trans z4
 have a5 := (c5.block _ (hblk a4)).trans a4
 have h5 := h4.below c5
 have k6 := k5.next c5
 have I5 : Hid (MD.In U2.heap.size U5 n _ ∧ MD.Above (w.heap.size + 2) n _ ∧ MD.same n _ _ = true) := ⟨MD.In.below (c5.mono (Nat.le_trans y3 y4)) n _ I4.out.1, I4.out.2⟩
 have y5 := c5.size
 clear z4 a4 h4 k5 c5 I4 b4 bc4
 obtain ⟨rc5, rf5⟩ := cells_of z5
 simp only [leadD, MD.val, D, List.length_nil]
 go_wp2_with fail
 have kU8 := kp_eleven U5 (w.heap.size + 1) (.int .i64 9) (.string t) (.int .i64 0) (.int .u64 0) (.string ⟨#[]⟩) (.int .i64 ((vs.length : Int) + 1)) (.int .i64 0) (.int .i64 0) (.int .i64 0) (.slice none 0 0) (.slice none 0 0)
 have hrU8 := eleven_set z5 (.int .i64 9) (.string t) (.int .i64 0) (.int .u64 0) (.string ⟨#[]⟩) (.int .i64 ((vs.length : Int) + 1)) (.int .i64 0) (.int .i64 0) (.int .i64 0) (.slice none 0 0) (.slice none 0 0)
 obtain ⟨U8, hU8⟩ : ∃ W, W = (((((((((((U5.setCell ⟨w.heap.size + 1, 0, none⟩ (.int .i64 9)).setCell ⟨w.heap.size + 1, 1, none⟩ (.string t)).setCell ⟨w.heap.size + 1, 2, none⟩ (.int .i64 0)).setCell ⟨w.heap.size + 1, 3, none⟩ (.int .u64 0)).setCell ⟨w.heap.size + 1, 4, none⟩ (.string ⟨#[]⟩)).setCell ⟨w.heap.size + 1, 5, none⟩ (.int .i64 ((vs.length : Int) + 1))).setCell ⟨w.heap.size + 1, 6, none⟩ (.int .i64 0)).setCell ⟨w.heap.size + 1, 7, none⟩ (.int .i64 0)).setCell ⟨w.heap.size + 1, 8, none⟩ (.int .i64 0)).setCell ⟨w.heap.size + 1, 9, none⟩ (.slice none 0 0)).setCell ⟨w.heap.size + 1, 10, none⟩ (.slice none 0 0)) := ⟨_, rfl⟩
 rw [← hU8] at kU8 hrU8 ⊢
 clear hU8
 have rcU8 := (cells_of hrU8).1
 have I8 := MD.In.aloft (lo := w.heap.size + 2) (w' := U8) (fun b h1 h2 => kU8.block b (by omega) (by omega)) n _ I5.out.1 I5.out.2.1
 exact bodyPost_ret (v := .tuple #[(leadD 9 t ((vs.length : Int) + 1) 0 0 0).val, .nilIface]) (by simp [results, Tryz.results16, go_sem, rcU8, leadD, MD.val, D]) rfl ⟨rfl, U2.heap.size, _, h5.kp kU8 (by omega) (by omega), (kU8.block _ (hblk a5) (by omega)).trans a5, by omega, MD.In.mono (by have := kU8.size; omega) n _ I8, MD.Above.mono (Nat.le_add_right _ 2) n _ I5.out.2.1, I5.out.2.2, k6.trans kU8 fun i hi e => by omega⟩
end Go.Proofs.YtdbijkgnddcneaaGreatDoor
namespace Go.Proofs.YtdbijkgnddcneaaGreatDoor
open Go.RowKit Go.ChangeMaps
set_option maxRecDepth 100000
set_option maxHeartbeats 4000000
attribute [local go_sem] refold2 cell3_0 cell3_1 b28_0 b28_01 nz26 nz23
theorem b32_016 (p : Option Addr) (w : World) : (Instr.build 32 #[(0, .int .i64 8), (1, .string ⟨#[83]⟩), (6, .slice p 2 2)]).run Tryz.prog w = .ok (.agg #[.int .i64 8, .string ⟨#[83]⟩, .int .i64 0, .int .u64 0, .string ⟨#[]⟩, .int .i64 0, .int .i64 0, .int .i64 0, .int .i64 0, .slice none 0 0, .slice p 2 2]) w := by kernel_rfl
attribute [local go_sem] b32_016
theorem pair_any (x y : Int) (w : World) :
  Calls Tryz.prog 15 #[.agg #[.int .i64 2, .string ⟨#[105, 110, 116]⟩, .int .i64 x, .int .u64 0, .string ⟨#[]⟩, .int .i64 0, .int .i64 0, .int .i64 0, .int .i64 0, .slice none 0 0, .slice none 0 0], .agg #[.int .i64 2, .string ⟨#[105, 110, 116]⟩, .int .i64 y, .int .u64 0, .string ⟨#[]⟩, .int .i64 0, .int .i64 0, .int .i64 0, .int .i64 0, .slice none 0 0, .slice none 0 0]] w fun r w' => r = .returned (.agg #[.int .i64 8, .string ⟨#[83]⟩, .int .i64 0, .int .u64 0, .string ⟨#[]⟩, .int .i64 0, .int .i64 0, .int .i64 0, .int .i64 0, .slice none 0 0, .slice (some ⟨w.heap.size + 3, 0, none⟩) 2 2]) ∧ Below w.heap.size w w' ∧ w'.heap[w.heap.size + 3]? = some (.cells #[.int .i64 2, .string ⟨#[105, 110, 116]⟩, .int .i64 x, .int .u64 0, .string ⟨#[]⟩, .int .i64 0, .int .i64 0, .int .i64 0, .int .i64 0, .slice none 0 0, .slice none 0 0, .int .i64 2, .string ⟨#[105, 110, 116]⟩, .int .i64 y, .int .u64 0, .string ⟨#[]⟩, .int .i64 0, .int .i64 0, .int .i64 0, .int .i64 0, .slice none 0 0, .slice none 0 0] 32 (0, 0)) := by
 go_enter Tryz.func15, Tryz.ntmps15
 go_wp2_with fail
 obtain ⟨U0, hU0⟩ : ∃ W, W = (((w.alloc (.cells #[.int .i64 2, .string ⟨#[105, 110, 116]⟩, .int .i64 x, .int .u64 0, .string ⟨#[]⟩, .int .i64 0, .int .i64 0, .int .i64 0, .int .i64 0, .slice none 0 0, .slice none 0 0] 32)).alloc (.cells #[.int .i64 2, .string ⟨#[105, 110, 116]⟩, .int .i64 y, .int .u64 0, .string ⟨#[]⟩, .int .i64 0, .int .i64 0, .int .i64 0, .int .i64 0, .slice none 0 0, .slice none 0 0] 32)).alloc (.cells #[.int .i64 8, .string ⟨#[83]⟩, .int .i64 0, .int .u64 0, .string ⟨#[]⟩, .int .i64 0, .int .i64 0, .int .i64 0, .int .i64 0, .slice none 0 0, .slice (some ⟨w.heap.size + 1 + 1 + 1, 0, none⟩) 2 2] 32)).alloc (.cells #[.int .i64 2, .string ⟨#[105, 110, 116]⟩, .int .i64 x, .int .u64 0, .string ⟨#[]⟩, .int .i64 0, .int .i64 0, .int .i64 0, .int .i64 0, .slice none 0 0, .slice none 0 0, .int .i64 2, .string ⟨#[105, 110, 116]⟩, .int .i64 y, .int .u64 0, .string ⟨#[]⟩, .int .i64 0, .int .i64 0, .int .i64 0, .int .i64 0, .slice none 0 0, .slice none 0 0] 32) := ⟨_, rfl⟩
 rw [← hU0]
 have u0 : Below w.heap.size w U0 := by rw [hU0]; exact (below3 w _ _ _).trans ((below1 _ _).mono (by simp; omega))
 have z0 : U0.heap[w.heap.size + 1 + 1]? = some (.cells #[.int .i64 8, .string ⟨#[83]⟩, .int .i64 0, .int .u64 0, .string ⟨#[]⟩, .int .i64 0, .int .i64 0, .int .i64 0, .int .i64 0, .slice none 0 0, .slice (some ⟨w.heap.size + 1 + 1 + 1, 0, none⟩) 2 2] 32) := by
  rw [hU0, Below.heap_alloc _ _ _ (by simp)]
  have := heap_alloc_new ((w.alloc (.cells #[.int .i64 2, .string ⟨#[105, 110, 116]⟩, .int .i64 x, .int .u64 0, .string ⟨#[]⟩, .int .i64 0, .int .i64 0, .int .i64 0, .int .i64 0, .slice none 0 0, .slice none 0 0] 32)).alloc (.cells #[.int .i64 2, .string ⟨#[105, 110, 116]⟩, .int .i64 y, .int .u64 0, .string ⟨#[]⟩, .int .i64 0, .int .i64 0, .int .i64 0, .int .i64 0, .slice none 0 0, .slice none 0 0] 32)) (.cells #[.int .i64 8, .string ⟨#[83]⟩, .int .i64 0, .int .u64 0, .string ⟨#[]⟩, .int .i64 0, .int .i64 0, .int .i64 0, .int .i64 0, .slice none 0 0, .slice (some ⟨w.heap.size + 1 + 1 + 1, 0, none⟩) 2 2] 32)
  simpa using this
 have y0 : U0.heap[w.heap.size + 1 + 1 + 1]? = some (.cells #[.int .i64 2, .string ⟨#[105, 110, 116]⟩, .int .i64 x, .int .u64 0, .string ⟨#[]⟩, .int .i64 0, .int .i64 0, .int .i64 0, .int .i64 0, .slice none 0 0, .slice none 0 0, .int .i64 2, .string ⟨#[105, 110, 116]⟩, .int .i64 y, .int .u64 0, .string ⟨#[]⟩, .int .i64 0, .int .i64 0, .int .i64 0, .int .i64 0, .slice none 0 0, .slice none 0 0] 32) := by
  rw [hU0]
  have := heap_alloc_new (((w.alloc (.cells #[.int .i64 2, .string ⟨#[105, 110, 116]⟩, .int .i64 x, .int .u64 0, .string ⟨#[]⟩, .int .i64 0, .int .i64 0, .int .i64 0, .int .i64 0, .slice none 0 0, .slice none 0 0] 32)).alloc (.cells #[.int .i64 2, .string ⟨#[105, 110, 116]⟩, .int .i64 y, .int .u64 0, .string ⟨#[]⟩, .int .i64 0, .int .i64 0, .int .i64 0, .int .i64 0, .slice none 0 0, .slice none 0 0] 32)).alloc (.cells #[.int .i64 8, .string ⟨#[83]⟩, .int .i64 0, .int .u64 0, .string ⟨#[]⟩, .int .i64 0, .int .i64 0, .int .i64 0, .int .i64 0, .slice none 0 0, .slice (some ⟨w.heap.size + 1 + 1 + 1, 0, none⟩) 2 2] 32)) (.cells #[.int .i64 2, .string ⟨#[105, 110, 116]⟩, .int .i64 x, .int .u64 0, .string ⟨#[]⟩, .int .i64 0, .int .i64 0, .int .i64 0, .int .i64 0, .slice none 0 0, .slice none 0 0, .int .i64 2, .string ⟨#[105, 110, 116]⟩, .int .i64 y, .int .u64 0, .string ⟨#[]⟩, .int .i64 0, .int .i64 0, .int .i64 0, .int .i64 0, .slice none 0 0, .slice none 0 0] 32)
  simpa using this
 clear hU0
 have zc := (cells_of z0).1
 exact bodyPost_ret (v := .agg #[.int .i64 8, .string ⟨#[83]⟩, .int .i64 0, .int .u64 0, .string ⟨#[]⟩, .int .i64 0, .int .i64 0, .int .i64 0, .int .i64 0, .slice none 0 0, .slice (some ⟨w.heap.size + 1 + 1 + 1, 0, none⟩) 2 2]) (by simp [results, Tryz.results15, go_sem, zc]) rfl ⟨rfl, u0, y0⟩
end Go.Proofs.YtdbijkgnddcneaaGreatDoor
namespace Go.Proofs.YtdbijkgnddcneaaGreatDoor
open Go.RowKit Go.ChangeMaps
set_option maxRecDepth 100000
set_option maxHeartbeats 4000000
attribute [local go_sem] refold2 cell3_0 cell3_1 b28_0 b28_01 nz26 nz23 b32_012 b32_015 b30_023 b30_0123 b30_0 b131_0
theorem ta84_84 (ab : Nat) (w : World) : (Instr.typeAssert (.iface 84 (.pointer (some ⟨ab, 0, none⟩))) 134 84 true).run Tryz.prog w = .ok (.tuple #[.pointer (some ⟨ab, 0, none⟩), .bool true]) w := by kernel_rfl
attribute [local go_sem] ta84_84
theorem fits_ptr (hb M : Nat) (vs : List Value) (m ab : Nat) (hm : vs[m]? = some (.iface 84 (.pointer (some ⟨ab, 0, none⟩)))) (t : ByteArray) (pp : Option Addr) (pl pc : Nat) (h0 h1 h2 h3 h4 h5 h6 h7 h8 h9 h10 : Value) (k a f : Int) (s : ByteArray) (r0 r1 r2 r3 : Int) (qp : Option Addr) (ql qc : Nat) (ip : Option Addr) (il ic : Nat) (w : World) (h : HeapAt w hb M vs) (ha : w.heap[ab]? = some (.cells #[h0, h1, h2, h3, h4, h5, h6, h7, h8, h9, h10] 86)) (HR0 : ∀ W, Below w.heap.size w W → Calls Tryz.prog 39 #[.agg #[.int .i64 9, .string t, .int .i64 0, .int .u64 0, .string ⟨#[]⟩, .int .i64 ((m : Int) + 1), .int .i64 0, .int .i64 0, .int .i64 0, .slice pp pl pc, .slice none 0 0]] W fun r w' => r = .returned (.bool true) ∧ Below W.heap.size W w') (HP0 : ∀ W, Below w.heap.size w W → Calls Tryz.prog 46 #[.agg #[h0, h1, h2, h3, h4, h5, h6, h7, h8, h9, h10], .slice pp pl pc] W fun r w' => r = .returned (.tuple #[.agg #[.int .i64 k, .string t, .int .i64 a, .int .u64 f, .string s, .int .i64 r0, .int .i64 r1, .int .i64 r2, .int .i64 r3, .slice qp ql qc, .slice ip il ic], .bool true]) ∧ Below W.heap.size W w') :
  Calls Tryz.prog 64 #[.pointer (some ⟨hb, 0, none⟩), .agg #[.int .i64 9, .string t, .int .i64 0, .int .u64 0, .string ⟨#[]⟩, .int .i64 ((m : Int) + 1), .int .i64 0, .int .i64 0, .int .i64 0, .slice pp pl pc, .slice none 0 0]] w fun r w' => r = .returned (.bool true) ∧ Below w.heap.size w w' := by
 have o1 : ¬ (m : Int) + 1 = 0 := by omega
 have HR : Hid _ := HR0
 have HP : Hid _ := HP0
 clear HR0 HP0
 go_enter Tryz.func64, Tryz.ntmps64
 go_wp2_with fail
 obtain ⟨U0, hU0⟩ : ∃ W, W = w.alloc (.cells #[.int .i64 9, .string t, .int .i64 0, .int .u64 0, .string ⟨#[]⟩, .int .i64 ((m : Int) + 1), .int .i64 0, .int .i64 0, .int .i64 0, .slice pp pl pc, .slice none 0 0] 32) := ⟨_, rfl⟩
 have u0 : Below w.heap.size w U0 := by rw [hU0]; exact below1 w _
 have b0 : U0.heap[w.heap.size]? = some (.cells #[.int .i64 9, .string t, .int .i64 0, .int .u64 0, .string ⟨#[]⟩, .int .i64 ((m : Int) + 1), .int .i64 0, .int .i64 0, .int .i64 0, .slice pp pl pc, .slice none 0 0] 32) := by rw [hU0]; exact heap_alloc_new _ _
 rw [← hU0]
 clear hU0
 refine (HR.out U0 u0).mono ?_
 rintro _ U1 ⟨rfl, c1⟩
 have u1 : Below w.heap.size w U1 := u0.trans (c1.mono u0.size)
 have b1 := (c1.block _ (hblk b0)).trans b0
 clear b0 u0 c1 HR
 have bc1 := (cells_of b1).1
 go_wp2_with fail
 refine rg (S := fun W => (∀ j, W.cell? ⟨w.heap.size, j, none⟩ = (#[.int .i64 9, .string t, .int .i64 0, .int .u64 0, .string ⟨#[]⟩, .int .i64 ((m : Int) + 1), .int .i64 0, .int .i64 0, .int .i64 0, .slice pp pl pc, .slice none 0 0] : Array Value)[j]?) ∧ (∀ j, W.cell? ⟨hb, j, none⟩ = (#[.map (some M), .int .i64 vs.length] : Array Value)[j]?) ∧ HeapAt W hb M vs) (fun U2 hB4 HU2 => ?_)
 have hS : (∀ j, U2.cell? ⟨w.heap.size, j, none⟩ = (#[.int .i64 9, .string t, .int .i64 0, .int .u64 0, .string ⟨#[]⟩, .int .i64 ((m : Int) + 1), .int .i64 0, .int .i64 0, .int .i64 0, .slice pp pl pc, .slice none 0 0] : Array Value)[j]?) ∧ (∀ j, U2.cell? ⟨hb, j, none⟩ = (#[.map (some M), .int .i64 vs.length] : Array Value)[j]?) ∧ HeapAt U2 hb M vs := ⟨(cells_of ((hB4.block _ (hblk b1)).trans b1)).1, (cells_of ((h.below u1).below hB4).box).1, (h.below u1).below hB4⟩
 refine tq 0 (.pointer (some ⟨hb, 0, none⟩)) rfl hS ?_
 simp only [sa, sb, Act.put, sd, se, sf]
 refine tq 1 (.pointer (some ⟨hb, 0, none⟩)) rfl hS ?_
 simp only [sa, sb, sc, Act.put, sd, se, sf]
 refine tq 2 (.pointer (some ⟨hb, 0, none⟩)) rfl hS ?_
 simp only [sa, sb, sc, Act.put, sd, se, sf]
 refine tk 3 (.map (some M)) rfl (.inl ⟨by rfl, ?r⟩) hS ?_
 case r => intro W hW; simp [go_sem, execOp, Act.eval, hW.2.1]
 simp only [sa, sb, sc, Act.put, sd, se, sf]
 refine tq 4 (.pointer (some ⟨w.heap.size, 5, none⟩)) rfl hS ?_
 simp only [sa, sb, sc, Act.put, sd, se, sf]
 refine tq 5 (.pointer (some ⟨w.heap.size, 5, none⟩)) rfl hS ?_
 simp only [sa, sb, sc, Act.put, sd, se, sf]
 refine tk 6 (.int .i64 ((m : Int) + 1)) rfl (.inl ⟨by rfl, ?r⟩) hS ?_
 case r => intro W hW; simp [go_sem, execOp, Act.eval, hW.1]
 simp only [sa, sb, sc, Act.put, sd, se, sf]
 refine tk 7 (.iface 84 (.pointer (some ⟨ab, 0, none⟩))) rfl (.inl ⟨by rfl, ?r⟩) hS ?_
 case r => intro W hW; simp [go_sem, execOp, Act.eval, hW.2.2.look hm rfl]
 simp only [sa, sb, sc, Act.put, sd, se, sf]
 have b2 := (hB4.block _ (hblk b1)).trans b1
 have u2 : Below w.heap.size w U2 := u1.trans (hB4.mono u1.size)
 clear HU2 hB4 hS b1 bc1 u1
 refine dn ?_
 try simp only [Act.put]
 have a2 := (u2.block _ (hblk ha)).trans ha
 have bc2 := (cells_of b2).1
 go_wp2_with fail
 refine rg (S := fun W => (∀ j, W.cell? ⟨w.heap.size, j, none⟩ = (#[.int .i64 9, .string t, .int .i64 0, .int .u64 0, .string ⟨#[]⟩, .int .i64 ((m : Int) + 1), .int .i64 0, .int .i64 0, .int .i64 0, .slice pp pl pc, .slice none 0 0] : Array Value)[j]?) ∧ (∀ j, W.cell? ⟨ab, j, none⟩ = (#[h0, h1, h2, h3, h4, h5, h6, h7, h8, h9, h10] : Array Value)[j]?)) (fun U3 hB4 HU3 => ?_)
 have hS : (∀ j, U3.cell? ⟨w.heap.size, j, none⟩ = (#[.int .i64 9, .string t, .int .i64 0, .int .u64 0, .string ⟨#[]⟩, .int .i64 ((m : Int) + 1), .int .i64 0, .int .i64 0, .int .i64 0, .slice pp pl pc, .slice none 0 0] : Array Value)[j]?) ∧ (∀ j, U3.cell? ⟨ab, j, none⟩ = (#[h0, h1, h2, h3, h4, h5, h6, h7, h8, h9, h10] : Array Value)[j]?) := ⟨(cells_of ((hB4.block _ (hblk b2)).trans b2)).1, (cells_of ((hB4.block _ (hblk a2)).trans a2)).1⟩
 refine tq 0 (.pointer (some ⟨ab, 0, none⟩)) rfl hS ?_
 simp only [sa, sb, Act.put, sd, se, sf]
 refine tq 1 (.pointer (some ⟨ab, 0, none⟩)) rfl hS ?_
 simp only [sa, sb, sc, Act.put, sd, se, sf]
 refine tq 2 (.pointer (some ⟨ab, 0, none⟩)) rfl hS ?_
 simp only [sa, sb, sc, Act.put, sd, se, sf]
 refine tk 3 (.agg #[h0, h1, h2, h3, h4, h5, h6, h7, h8, h9, h10]) rfl (.inl ⟨by rfl, ?r⟩) hS ?_
 case r => intro W hW; simp [go_sem, execOp, Act.eval, hW.2]
 simp only [sa, sb, sc, Act.put, sd, se, sf]
 refine tq 4 (.pointer (some ⟨w.heap.size, 5, none⟩)) rfl hS ?_
 simp only [sa, sb, sc, Act.put, sd, se, sf]
 refine tq 5 (.pointer (some ⟨w.heap.size, 9, none⟩)) rfl hS ?_
 simp only [sa, sb, sc, Act.put, sd, se, sf]
 refine tk 6 (.slice pp pl pc) rfl (.inl ⟨by rfl, ?r⟩) hS ?_
 case r => intro W hW; simp [go_sem, execOp, Act.eval, hW.1]
 simp only [sa, sb, sc, Act.put, sd, se, sf]
 have uU3 : Below w.heap.size w U3 := u2.trans (hB4.mono u2.size)
 have bU3 := (hB4.block _ (hblk b2)).trans b2
 have aU3 := (hB4.block _ (hblk a2)).trans a2
 clear HU3 hB4 b2 a2 u2 bc2
 refine wpAnyH_all (rs := [7, 11]) (by kernel_rfl) (by simp) (fun i2 hi2 => ?_)
 have hi3 : i2 = 7 ∨ i2 = 11 := by simpa using hi2
 clear hi2
 rcases hi3 with rfl | rfl
 ·refine wpOp_step rfl (fun K hK => ite_yes rfl ?_)
  simp only [sa, sb, sc]
  go_simp
  refine (HP.out U3 uU3).mono ?_
  rintro _ V1 ⟨rfl, cV1⟩
  have uV1 : Below w.heap.size w V1 := uU3.trans (cV1.mono uU3.size)
  have bV1 := (cV1.block _ (hblk bU3)).trans bU3
  have aV1 := (cV1.block _ (hblk aU3)).trans aU3
  go_simp
  have hSV1 : (∀ j, V1.cell? ⟨w.heap.size, j, none⟩ = (#[.int .i64 9, .string t, .int .i64 0, .int .u64 0, .string ⟨#[]⟩, .int .i64 ((m : Int) + 1), .int .i64 0, .int .i64 0, .int .i64 0, .slice pp pl pc, .slice none 0 0] : Array Value)[j]?) ∧ (∀ j, V1.cell? ⟨ab, j, none⟩ = (#[h0, h1, h2, h3, h4, h5, h6, h7, h8, h9, h10] : Array Value)[j]?) := ⟨(cells_of bV1).1, (cells_of aV1).1⟩
  refine hK _ _ ⟨hSV1, ?_⟩
  clear hK K hS
  have hS := hSV1
  clear hSV1
  try simp only [Act.put, sd, se, sf]
  refine tq 8 (.tuple #[.agg #[.int .i64 k, .string t, .int .i64 a, .int .u64 f, .string s, .int .i64 r0, .int .i64 r1, .int .i64 r2, .int .i64 r3, .slice qp ql qc, .slice ip il ic], .bool true]) rfl hS ?_
  simp only [sa, sb, sc, Act.put, sd, se, sf]
  refine tq 9 (.agg #[.int .i64 k, .string t, .int .i64 a, .int .u64 f, .string s, .int .i64 r0, .int .i64 r1, .int .i64 r2, .int .i64 r3, .slice qp ql qc, .slice ip il ic]) rfl hS ?_
  simp only [sa, sb, sc, Act.put, sd, se, sf]
  refine tq 10 (.bool true) rfl hS ?_
  simp only [sa, sb, sc, Act.put, sd, se, sf]
  refine one 11 rfl (fun K hK => ?_)
  simp only [sa, sb, sc]
  go_simp
  obtain ⟨V2, hV2, cV2, _, nV2⟩ := an V1 (.cells #[.int .i64 0, .string ⟨#[]⟩, .int .i64 0, .int .u64 0, .string ⟨#[]⟩, .int .i64 0, .int .i64 0, .int .i64 0, .int .i64 0, .slice none 0 0, .slice none 0 0] 32)
  rw [← hV2]
  clear hV2
  have uV2 : Below w.heap.size w V2 := uV1.trans (cV2.mono uV1.size)
  have bV2 := (cV2.block _ (hblk bV1)).trans bV1
  have aV2 := (cV2.block _ (hblk aV1)).trans aV1
  have hSV2 : (∀ j, V2.cell? ⟨w.heap.size, j, none⟩ = (#[.int .i64 9, .string t, .int .i64 0, .int .u64 0, .string ⟨#[]⟩, .int .i64 ((m : Int) + 1), .int .i64 0, .int .i64 0, .int .i64 0, .slice pp pl pc, .slice none 0 0] : Array Value)[j]?) ∧ (∀ j, V2.cell? ⟨ab, j, none⟩ = (#[h0, h1, h2, h3, h4, h5, h6, h7, h8, h9, h10] : Array Value)[j]?) := ⟨(cells_of bV2).1, (cells_of aV2).1⟩
  refine hK _ _ ⟨hSV2, ?_⟩
  clear hK K hS
  have hS := hSV2
  clear hSV2
  try simp only [Act.put, sd, se, sf]
  have hnb : w.heap.size < V1.heap.size ∧ ab < V1.heap.size := ⟨hblk bV1, hblk aV1⟩
  have xl := hblk bV2
  have al := hblk aV2
  obtain ⟨nc, nf⟩ := cells_of nV2
  refine one 12 rfl (fun K hK => ?_)
  simp only [sa, sb, sc]
  go_simp
  have kV3 := kp_eleven V2 (V1.heap.size) (.int .i64 k) (.string t) (.int .i64 a) (.int .u64 f) (.string s) (.int .i64 r0) (.int .i64 r1) (.int .i64 r2) (.int .i64 r3) (.slice qp ql qc) (.slice ip il ic)
  have hrV3 := eleven_set nV2 (.int .i64 k) (.string t) (.int .i64 a) (.int .u64 f) (.string s) (.int .i64 r0) (.int .i64 r1) (.int .i64 r2) (.int .i64 r3) (.slice qp ql qc) (.slice ip il ic)
  obtain ⟨V3, hV3⟩ : ∃ W, W = (((((((((((V2.setCell ⟨V1.heap.size, 0, none⟩ (.int .i64 k)).setCell ⟨V1.heap.size, 1, none⟩ (.string t)).setCell ⟨V1.heap.size, 2, none⟩ (.int .i64 a)).setCell ⟨V1.heap.size, 3, none⟩ (.int .u64 f)).setCell ⟨V1.heap.size, 4, none⟩ (.string s)).setCell ⟨V1.heap.size, 5, none⟩ (.int .i64 r0)).setCell ⟨V1.heap.size, 6, none⟩ (.int .i64 r1)).setCell ⟨V1.heap.size, 7, none⟩ (.int .i64 r2)).setCell ⟨V1.heap.size, 8, none⟩ (.int .i64 r3)).setCell ⟨V1.heap.size, 9, none⟩ (.slice qp ql qc)).setCell ⟨V1.heap.size, 10, none⟩ (.slice ip il ic)) := ⟨_, rfl⟩
  rw [← hV3] at kV3 hrV3 ⊢
  clear hV3
  have rcV3 := (cells_of hrV3).1
  have uV3 : Below w.heap.size w V3 := uV2.trans (kV3.below uV2.size fun i hi e => by have := hnb; omega)
  have bV3 : V3.heap[w.heap.size]? = some (.cells #[.int .i64 9, .string t, .int .i64 0, .int .u64 0, .string ⟨#[]⟩, .int .i64 ((m : Int) + 1), .int .i64 0, .int .i64 0, .int .i64 0, .slice pp pl pc, .slice none 0 0] 32) := (kV3.block _ xl (fun e => by have := hnb; omega)).trans bV2
  have aV3 : V3.heap[ab]? = some (.cells #[h0, h1, h2, h3, h4, h5, h6, h7, h8, h9, h10] 86) := (kV3.block _ al (fun e => by have := hnb; omega)).trans aV2
  have hSV3 : (∀ j, V3.cell? ⟨w.heap.size, j, none⟩ = (#[.int .i64 9, .string t, .int .i64 0, .int .u64 0, .string ⟨#[]⟩, .int .i64 ((m : Int) + 1), .int .i64 0, .int .i64 0, .int .i64 0, .slice pp pl pc, .slice none 0 0] : Array Value)[j]?) ∧ (∀ j, V3.cell? ⟨ab, j, none⟩ = (#[h0, h1, h2, h3, h4, h5, h6, h7, h8, h9, h10] : Array Value)[j]?) := ⟨(cells_of bV3).1, (cells_of aV3).1⟩
  refine hK _ _ ⟨hSV3, ?_⟩
  clear hK K hS
  have hS := hSV3
  clear hSV3
  try simp only [Act.put, sd, se, sf]
  refine one 13 rfl (fun K hK => ?_)
  simp only [sa, sb, sc]
  go_simp
  refine hK _ _ ⟨hS, ?_⟩
  clear hK K hS
  try simp only [Act.put, sd, se, sf]
  refine dn ?_
  try simp only [Act.put]
  have bc := (cells_of bV3).1
  go_wp2_with fail
  go_ret
  exact ⟨rfl, uV3⟩
 ·refine wpOp_step rfl (fun K hK => ite_yes rfl ?_)
  simp only [sa, sb, sc]
  go_simp
  obtain ⟨V1, hV1, cV1, _, nV1⟩ := an U3 (.cells #[.int .i64 0, .string ⟨#[]⟩, .int .i64 0, .int .u64 0, .string ⟨#[]⟩, .int .i64 0, .int .i64 0, .int .i64 0, .int .i64 0, .slice none 0 0, .slice none 0 0] 32)
  rw [← hV1]
  clear hV1
  have uV1 : Below w.heap.size w V1 := uU3.trans (cV1.mono uU3.size)
  have bV1 := (cV1.block _ (hblk bU3)).trans bU3
  have aV1 := (cV1.block _ (hblk aU3)).trans aU3
  have hSV1 : (∀ j, V1.cell? ⟨w.heap.size, j, none⟩ = (#[.int .i64 9, .string t, .int .i64 0, .int .u64 0, .string ⟨#[]⟩, .int .i64 ((m : Int) + 1), .int .i64 0, .int .i64 0, .int .i64 0, .slice pp pl pc, .slice none 0 0] : Array Value)[j]?) ∧ (∀ j, V1.cell? ⟨ab, j, none⟩ = (#[h0, h1, h2, h3, h4, h5, h6, h7, h8, h9, h10] : Array Value)[j]?) := ⟨(cells_of bV1).1, (cells_of aV1).1⟩
  refine hK _ _ ⟨hSV1, ?_⟩
  clear hK K hS
  have hS := hSV1
  clear hSV1
  try simp only [Act.put, sd, se, sf]
  refine one 7 rfl (fun K hK => ?_)
  simp only [sa, sb, sc]
  go_simp
  refine (HP.out V1 uV1).mono ?_
  rintro _ V2 ⟨rfl, cV2⟩
  have uV2 : Below w.heap.size w V2 := uV1.trans (cV2.mono uV1.size)
  have bV2 := (cV2.block _ (hblk bV1)).trans bV1
  have aV2 := (cV2.block _ (hblk aV1)).trans aV1
  have nV2 := (cV2.block _ (hblk nV1)).trans nV1
  go_simp
  have hSV2 : (∀ j, V2.cell? ⟨w.heap.size, j, none⟩ = (#[.int .i64 9, .string t, .int .i64 0, .int .u64 0, .string ⟨#[]⟩, .int .i64 ((m : Int) + 1), .int .i64 0, .int .i64 0, .int .i64 0, .slice pp pl pc, .slice none 0 0] : Array Value)[j]?) ∧ (∀ j, V2.cell? ⟨ab, j, none⟩ = (#[h0, h1, h2, h3, h4, h5, h6, h7, h8, h9, h10] : Array Value)[j]?) := ⟨(cells_of bV2).1, (cells_of aV2).1⟩
  refine hK _ _ ⟨hSV2, ?_⟩
  clear hK K hS
  have hS := hSV2
  clear hSV2
  try simp only [Act.put, sd, se, sf]
  refine tq 8 (.tuple #[.agg #[.int .i64 k, .string t, .int .i64 a, .int .u64 f, .string s, .int .i64 r0, .int .i64 r1, .int .i64 r2, .int .i64 r3, .slice qp ql qc, .slice ip il ic], .bool true]) rfl hS ?_
  simp only [sa, sb, sc, Act.put, sd, se, sf]
  refine tq 9 (.agg #[.int .i64 k, .string t, .int .i64 a, .int .u64 f, .string s, .int .i64 r0, .int .i64 r1, .int .i64 r2, .int .i64 r3, .slice qp ql qc, .slice ip il ic]) rfl hS ?_
  simp only [sa, sb, sc, Act.put, sd, se, sf]
  have hnb : w.heap.size < U3.heap.size ∧ ab < U3.heap.size := ⟨hblk bU3, hblk aU3⟩
  refine tq 10 (.bool true) rfl hS ?_
  simp only [sa, sb, sc, Act.put, sd, se, sf]
  have xl := hblk bV2
  have al := hblk aV2
  obtain ⟨nc, nf⟩ := cells_of nV2
  refine one 12 rfl (fun K hK => ?_)
  simp only [sa, sb, sc]
  go_simp
  have kV3 := kp_eleven V2 (U3.heap.size) (.int .i64 k) (.string t) (.int .i64 a) (.int .u64 f) (.string s) (.int .i64 r0) (.int .i64 r1) (.int .i64 r2) (.int .i64 r3) (.slice qp ql qc) (.slice ip il ic)
  have hrV3 := eleven_set nV2 (.int .i64 k) (.string t) (.int .i64 a) (.int .u64 f) (.string s) (.int .i64 r0) (.int .i64 r1) (.int .i64 r2) (.int .i64 r3) (.slice qp ql qc) (.slice ip il ic)
  obtain ⟨V3, hV3⟩ : ∃ W, W = (((((((((((V2.setCell ⟨U3.heap.size, 0, none⟩ (.int .i64 k)).setCell ⟨U3.heap.size, 1, none⟩ (.string t)).setCell ⟨U3.heap.size, 2, none⟩ (.int .i64 a)).setCell ⟨U3.heap.size, 3, none⟩ (.int .u64 f)).setCell ⟨U3.heap.size, 4, none⟩ (.string s)).setCell ⟨U3.heap.size, 5, none⟩ (.int .i64 r0)).setCell ⟨U3.heap.size, 6, none⟩ (.int .i64 r1)).setCell ⟨U3.heap.size, 7, none⟩ (.int .i64 r2)).setCell ⟨U3.heap.size, 8, none⟩ (.int .i64 r3)).setCell ⟨U3.heap.size, 9, none⟩ (.slice qp ql qc)).setCell ⟨U3.heap.size, 10, none⟩ (.slice ip il ic)) := ⟨_, rfl⟩
  rw [← hV3] at kV3 hrV3 ⊢
  clear hV3
  have rcV3 := (cells_of hrV3).1
  have uV3 : Below w.heap.size w V3 := uV2.trans (kV3.below uV2.size fun i hi e => by have := hnb; omega)
  have bV3 : V3.heap[w.heap.size]? = some (.cells #[.int .i64 9, .string t, .int .i64 0, .int .u64 0, .string ⟨#[]⟩, .int .i64 ((m : Int) + 1), .int .i64 0, .int .i64 0, .int .i64 0, .slice pp pl pc, .slice none 0 0] 32) := (kV3.block _ xl (fun e => by have := hnb; omega)).trans bV2
  have aV3 : V3.heap[ab]? = some (.cells #[h0, h1, h2, h3, h4, h5, h6, h7, h8, h9, h10] 86) := (kV3.block _ al (fun e => by have := hnb; omega)).trans aV2
  have hSV3 : (∀ j, V3.cell? ⟨w.heap.size, j, none⟩ = (#[.int .i64 9, .string t, .int .i64 0, .int .u64 0, .string ⟨#[]⟩, .int .i64 ((m : Int) + 1), .int .i64 0, .int .i64 0, .int .i64 0, .slice pp pl pc, .slice none 0 0] : Array Value)[j]?) ∧ (∀ j, V3.cell? ⟨ab, j, none⟩ = (#[h0, h1, h2, h3, h4, h5, h6, h7, h8, h9, h10] : Array Value)[j]?) := ⟨(cells_of bV3).1, (cells_of aV3).1⟩
  refine hK _ _ ⟨hSV3, ?_⟩
  clear hK K hS
  have hS := hSV3
  clear hSV3
  try simp only [Act.put, sd, se, sf]
  refine one 13 rfl (fun K hK => ?_)
  simp only [sa, sb, sc]
  go_simp
  refine hK _ _ ⟨hS, ?_⟩
  clear hK K hS
  try simp only [Act.put, sd, se, sf]
  refine dn ?_
  try simp only [Act.put]
  have bc := (cells_of bV3).1
  go_wp2_with fail
  go_ret
  exact ⟨rfl, uV3⟩
end Go.Proofs.YtdbijkgnddcneaaGreatDoor
