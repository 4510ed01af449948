/-
  .
-/
import Derived.Test.YtdbijkgnddcneaaGreatDoorSq
import Derived.Test.YtdbijkgnddcneaaGreatDoorPeJ
namespace Go.Proofs.YtdbijkgnddcneaaGreatDoor
open Go.RowKit Go.ChangeMaps
set_option maxRecDepth 100000
set_option maxHeartbeats 4000000
attribute [local go_sem] refold2 cell3_0 cell3_1 b28_0 b28_01 nz26 nz23
theorem size_tow {base : MD} {x y : Int} (hb : ∃ g, base = pairE g (wholeD x) (wholeD y)) : ∀ (j : Nat) (d : MD) (w : World), j ≤ 100 → MD.same (5 + j) (tow base j) d = true → MD.In w.heap.size w (5 + j) d → Calls Tryz.prog 50 #[d.val] w fun r w' => r = .returned (.int .i64 (2 * (j : Int) + 3)) ∧ Below w.heap.size w w'
 | 0, d, w, _, hs, hI => by
  obtain ⟨g, rfl⟩ := hb
  obtain ⟨a, b, hit, ha, hb', _, _⟩ := same_pairE (n := 4) hs
  obtain ⟨_, _, hai, _⟩ := same_flat (n := 3) ha
  obtain ⟨_, _, hbi, _⟩ := same_flat (n := 3) hb'
  refine (size_two d a b 4 1 1 (by omega) (by omega) w hit hI (fun W _ => size_flat a hai W) (fun W _ => size_flat b hbi W)).mono ?_
  rintro r w' ⟨rfl, h⟩
  exact ⟨rfl, h⟩
 | j + 1, d, w, hj, hs, hI => by
  obtain ⟨a, b, hit, ha, hb', _, _⟩ := tow_parts hs
  obtain ⟨_, _, hai, _⟩ := same_flat (n := 4 + j) (show MD.same (4 + j + 1) (wholeD (j : Int)) a = true by rw [show 4 + j + 1 = 5 + j by omega]; exact ha)
  have hIb : MD.In w.heap.size w (5 + j) b := by
   obtain ⟨_, _, _, _, h5⟩ := (show MD.In w.heap.size w (5 + j + 1) d from hI)
   rcases h5 with h5 | ⟨gi, oi, _, _, e3⟩
   ·rw [hit] at h5; cases h5
   ·have := (e3 1 (by rw [hit]; simp)).2
    simpa only [hit, List.getElem_cons_succ, List.getElem_cons_zero] using this
  refine (size_two d a b (5 + j) 1 (2 * j + 3) (by omega) (by omega) w hit hI (fun W _ => size_flat a hai W) (fun W hW => ?_)).mono ?_
  ·have := size_tow hb j b W (by omega) hb' (MD.In.mono hW.size _ _ (MD.In.below hW _ _ hIb))
   refine this.mono ?_
   rintro r w' ⟨rfl, h⟩
   exact ⟨by simp, h⟩
  ·rintro r w' ⟨rfl, h⟩
   refine ⟨?_, h⟩
   rw [show (1 : Int) + ((1 : Nat) : Int) + ((2 * j + 3 : Nat) : Int) = 2 * ((j + 1 : Nat) : Int) + 3 by omega]
theorem Write_ptr (hb m ab : Nat) (pp : Option Addr) (jp pc : Nat) (h0 h1 h2 h3 h4 h5 h6 h7 h8 h9 h10 : Value) (n2 f2 : Int) (s2 : ByteArray) (x2 y2 z2 u2 : Int) (pp2 : Option Addr) (path2 : List Int) (pc2 : Nat) (ip2 : Option Addr) (ic2 : Nat) (items2 : List MD) (sz : Nat) (hsz : sz ≤ 100) (w : World) (R : MD → World → Prop)
  (ha : w.heap[ab]? = some (.cells #[h0, h1, h2, h3, h4, h5, h6, h7, h8, h9, h10] 86))
  (HO0 : ∀ W, Below w.heap.size w W → Calls Tryz.prog 44 #[.pointer (some ⟨hb, 0, none⟩), .agg #[.int .i64 9, .string ⟨#[83]⟩, .int .i64 0, .int .u64 0, .string ⟨#[]⟩, .int .i64 ((m : Int) + 1), .int .i64 0, .int .i64 0, .int .i64 0, .slice pp jp pc, .slice none 0 0]] W fun r w' => r = .returned (.tuple #[.pointer (some ⟨ab, 0, none⟩), .bool true]) ∧ Below W.heap.size W w')
  (HR0 : ∀ W, Below w.heap.size w W → Calls Tryz.prog 39 #[.agg #[.int .i64 8, .string ⟨#[83]⟩, .int .i64 n2, .int .u64 f2, .string s2, .int .i64 x2, .int .i64 y2, .int .i64 z2, .int .i64 u2, .slice pp2 path2.length pc2, .slice ip2 items2.length ic2]] W fun r w' => r = .returned (.bool true) ∧ Below W.heap.size W w')
  (HC0 : ∀ W, Below w.heap.size w W → Calls Tryz.prog 41 #[.agg #[.int .i64 8, .string ⟨#[83]⟩, .int .i64 n2, .int .u64 f2, .string s2, .int .i64 x2, .int .i64 y2, .int .i64 z2, .int .i64 u2, .slice pp2 path2.length pc2, .slice ip2 items2.length ic2]] W fun r w' => ∃ e' : MD, r = .returned e'.val ∧ (∀ (V : World) (pb : Nat), Below w'.heap.size w' V → (pb < W.heap.size ∨ w'.heap.size ≤ pb) → pb < V.heap.size → Calls Tryz.prog 49 #[.agg #[h0, h1, h2, h3, h4, h5, h6, h7, h8, h9, h10], .slice pp jp pc, e'.val] V fun r V' => ∃ r' : MD, r = .returned r'.val ∧ (∀ X, Kp (fun i => i = ab ∨ i = pb) V' X → R r' X ∧ Calls Tryz.prog 50 #[r'.val] X fun r X' => r = .returned (.int .i64 sz) ∧ Below X.heap.size X X') ∧ Below V.heap.size V V') ∧ Below W.heap.size W w') :
  Calls Tryz.prog 20 #[.pointer (some ⟨hb, 0, none⟩), .agg #[.int .i64 9, .string ⟨#[83]⟩, .int .i64 0, .int .u64 0, .string ⟨#[]⟩, .int .i64 ((m : Int) + 1), .int .i64 0, .int .i64 0, .int .i64 0, .slice pp jp pc, .slice none 0 0], .agg #[.int .i64 8, .string ⟨#[83]⟩, .int .i64 n2, .int .u64 f2, .string s2, .int .i64 x2, .int .i64 y2, .int .i64 z2, .int .i64 u2, .slice pp2 path2.length pc2, .slice ip2 items2.length ic2]] w fun r w' => r = .returned .nilIface ∧ ∃ r' : MD, R r' w' ∧ w'.heap[ab]? = some (.cells r'.cells 86) ∧ Kp (· = ab) w w' := by
 have HO : Hid _ := HO0
 have HR : Hid _ := HR0
 have HC : Hid _ := HC0
 clear HO0 HR0 HC0
 go_enter Tryz.func20, Tryz.ntmps20
 go_wp2_with fail
 obtain ⟨U0, hU0, u0, b0, z0⟩ := an2 w (.cells #[.int .i64 9, .string ⟨#[83]⟩, .int .i64 0, .int .u64 0, .string ⟨#[]⟩, .int .i64 ((m : Int) + 1), .int .i64 0, .int .i64 0, .int .i64 0, .slice pp jp pc, .slice none 0 0] 32) (.cells #[.int .i64 8, .string ⟨#[83]⟩, .int .i64 n2, .int .u64 f2, .string s2, .int .i64 x2, .int .i64 y2, .int .i64 z2, .int .i64 u2, .slice pp2 path2.length pc2, .slice ip2 items2.length ic2] 32)
 rw [← hU0]
 clear hU0
 have c0 := (cells_of b0).1
 have d0 := (cells_of z0).1
 go_wp2_with fail
 refine (HO.out _ u0).mono ?_
 rintro _ U1 ⟨rfl, k1⟩
 have u1 : Below w.heap.size w U1 := u0.trans (k1.mono u0.size)
 have b1 := (k1.block _ (hblk b0)).trans b0
 have z1 := (k1.block _ (hblk z0)).trans z0
 clear u0 b0 z0 c0 d0 k1 HO
 have c1 := (cells_of b1).1
 have d1 := (cells_of z1).1
 go_wp2_with fail
 refine (HR.out _ u1).mono ?_
 rintro _ U2 ⟨rfl, k2⟩
 have u2' : Below w.heap.size w U2 := u1.trans (k2.mono u1.size)
 have b2 := (k2.block _ (hblk b1)).trans b1
 have z2' := (k2.block _ (hblk z1)).trans z1
 clear u1 b1 z1 c1 d1 k2 HR
 have c2 := (cells_of b2).1
 have d2 := (cells_of z2').1
 have hal := hblk ha
 have a2 : U2.heap[ab]? = _ := (u2'.block _ hal).trans ha
 go_wp2_with fail
 refine rg (S := fun W => (∀ j, W.cell? ⟨w.heap.size, j, none⟩ = (#[.int .i64 9, .string ⟨#[83]⟩, .int .i64 0, .int .u64 0, .string ⟨#[]⟩, .int .i64 ((m : Int) + 1), .int .i64 0, .int .i64 0, .int .i64 0, .slice pp jp pc, .slice none 0 0] : Array Value)[j]?) ∧ (∀ j, W.cell? ⟨w.heap.size + 1, j, none⟩ = (#[.int .i64 8, .string ⟨#[83]⟩, .int .i64 n2, .int .u64 f2, .string s2, .int .i64 x2, .int .i64 y2, .int .i64 z2, .int .i64 u2, .slice pp2 path2.length pc2, .slice ip2 items2.length ic2] : Array Value)[j]?) ∧ (∀ j, W.cell? ⟨ab, j, none⟩ = (#[h0, h1, h2, h3, h4, h5, h6, h7, h8, h9, h10] : Array Value)[j]?)) (fun U3 hB4 HU3 => ?_)
 have hS : (∀ j, U3.cell? ⟨w.heap.size, j, none⟩ = (#[.int .i64 9, .string ⟨#[83]⟩, .int .i64 0, .int .u64 0, .string ⟨#[]⟩, .int .i64 ((m : Int) + 1), .int .i64 0, .int .i64 0, .int .i64 0, .slice pp jp pc, .slice none 0 0] : Array Value)[j]?) ∧ (∀ j, U3.cell? ⟨w.heap.size + 1, j, none⟩ = (#[.int .i64 8, .string ⟨#[83]⟩, .int .i64 n2, .int .u64 f2, .string s2, .int .i64 x2, .int .i64 y2, .int .i64 z2, .int .i64 u2, .slice pp2 path2.length pc2, .slice ip2 items2.length ic2] : Array Value)[j]?) ∧ (∀ j, U3.cell? ⟨ab, j, none⟩ = (#[h0, h1, h2, h3, h4, h5, h6, h7, h8, h9, h10] : Array Value)[j]?) := ⟨(cells_of ((hB4.block _ (hblk b2)).trans b2)).1, (cells_of ((hB4.block _ (hblk z2')).trans z2')).1, (cells_of ((hB4.block _ (hblk a2)).trans a2)).1⟩
 refine tq 0 (.pointer (some ⟨ab, 0, none⟩)) rfl hS ?_
 simp only [sa, sb, Act.put, sd, se, sf]
 refine tq 1 (.pointer (some ⟨ab, 0, none⟩)) rfl hS ?_
 simp only [sa, sb, sc, Act.put, sd, se, sf]
 refine tq 2 (.pointer (some ⟨ab, 0, none⟩)) rfl hS ?_
 simp only [sa, sb, sc, Act.put, sd, se, sf]
 refine tk 3 (.agg #[h0, h1, h2, h3, h4, h5, h6, h7, h8, h9, h10]) rfl (.inl ⟨by rfl, ?r⟩) hS ?_
 case r => intro W hW; simp [go_sem, execOp, Act.eval, hW.2.2]
 simp only [sa, sb, sc, Act.put, sd, se, sf]
 refine tq 4 (.pointer (some ⟨w.heap.size, 5, none⟩)) rfl hS ?_
 simp only [sa, sb, sc, Act.put, sd, se, sf]
 refine tq 5 (.pointer (some ⟨w.heap.size, 9, none⟩)) rfl hS ?_
 simp only [sa, sb, sc, Act.put, sd, se, sf]
 refine tk 6 (.slice pp jp pc) rfl (.inl ⟨by rfl, ?r⟩) hS ?_
 case r => intro W hW; simp [go_sem, execOp, Act.eval, hW.1]
 simp only [sa, sb, sc, Act.put, sd, se, sf]
 refine tk 7 (.agg #[.int .i64 8, .string ⟨#[83]⟩, .int .i64 n2, .int .u64 f2, .string s2, .int .i64 x2, .int .i64 y2, .int .i64 z2, .int .i64 u2, .slice pp2 path2.length pc2, .slice ip2 items2.length ic2]) rfl (.inl ⟨by rfl, ?r⟩) hS ?_
 case r => intro W hW; simp [go_sem, execOp, Act.eval, hW.2.1]
 simp only [sa, sb, sc, Act.put, sd, se, sf]
 have u3 : Below w.heap.size w U3 := u2'.trans (hB4.mono u2'.size)
 have bU3 := (hB4.block _ (hblk b2)).trans b2
 have zU3 := (hB4.block _ (hblk z2')).trans z2'
 have aU3 := (hB4.block _ (hblk a2)).trans a2
 have uU3 := u3
 have l3 := hblk zU3
 clear HU3 hB4 b2 z2' a2 u2' c2 d2 u3
 refine wpAnyH_all (rs := [8, 10]) (by kernel_rfl) (by simp) (fun i2 hi2 => ?_)
 have hi3 : i2 = 8 ∨ i2 = 10 := by simpa using hi2
 clear hi2
 rcases hi3 with rfl | rfl
 ·refine wpOp_step rfl (fun K hK => ite_yes rfl ?_)
  simp only [sa, sb, sc]
  go_simp
  refine (HC.out U3 uU3).mono ?_
  rintro _ V1 ⟨e', rfl, h49, cV1⟩
  have HD : Hid _ := h49
  clear h49
  have cV1s := cV1.size
  have uV1 : Below w.heap.size w V1 := uU3.trans (cV1.mono uU3.size)
  have bV1 := (cV1.block _ (hblk bU3)).trans bU3
  have zV1 := (cV1.block _ (hblk zU3)).trans zU3
  have aV1 := (cV1.block _ (hblk aU3)).trans aU3
  go_simp
  have hSV1 : (∀ j, V1.cell? ⟨w.heap.size, j, none⟩ = (#[.int .i64 9, .string ⟨#[83]⟩, .int .i64 0, .int .u64 0, .string ⟨#[]⟩, .int .i64 ((m : Int) + 1), .int .i64 0, .int .i64 0, .int .i64 0, .slice pp jp pc, .slice none 0 0] : Array Value)[j]?) ∧ (∀ j, V1.cell? ⟨w.heap.size + 1, j, none⟩ = (#[.int .i64 8, .string ⟨#[83]⟩, .int .i64 n2, .int .u64 f2, .string s2, .int .i64 x2, .int .i64 y2, .int .i64 z2, .int .i64 u2, .slice pp2 path2.length pc2, .slice ip2 items2.length ic2] : Array Value)[j]?) ∧ (∀ j, V1.cell? ⟨ab, j, none⟩ = (#[h0, h1, h2, h3, h4, h5, h6, h7, h8, h9, h10] : Array Value)[j]?) := ⟨(cells_of bV1).1, (cells_of zV1).1, (cells_of aV1).1⟩
  refine hK _ _ ⟨hSV1, ?_⟩
  clear hK K hS
  have hS := hSV1
  clear hSV1
  try simp only [Act.put, sd, se, sf]
  refine wpAnyH_all (rs := [9, 10]) (by kernel_rfl) (by simp) (fun i2 hi2 => ?_)
  have hi3 : i2 = 9 ∨ i2 = 10 := by simpa using hi2
  clear hi2
  rcases hi3 with rfl | rfl
  ·refine wpOp_step rfl (fun K hK => ite_yes rfl ?_)
   simp only [sa, sb, sc]
   go_simp
   refine (HD.out V1 (ab) (Below.refl _ _) (.inl (by have := hblk aU3; omega)) (by have := hblk aV1; omega)).mono ?_
   rintro _ V2 ⟨r', rfl, hz, cV2⟩
   have HZ : Hid _ := hz
   clear hz
   have cV2s := cV2.size
   have uV2 : Below w.heap.size w V2 := uV1.trans (cV2.mono uV1.size)
   have bV2 := (cV2.block _ (hblk bV1)).trans bV1
   have zV2 := (cV2.block _ (hblk zV1)).trans zV1
   have aV2 := (cV2.block _ (hblk aV1)).trans aV1
   go_simp
   have hSV2 : (∀ j, V2.cell? ⟨w.heap.size, j, none⟩ = (#[.int .i64 9, .string ⟨#[83]⟩, .int .i64 0, .int .u64 0, .string ⟨#[]⟩, .int .i64 ((m : Int) + 1), .int .i64 0, .int .i64 0, .int .i64 0, .slice pp jp pc, .slice none 0 0] : Array Value)[j]?) ∧ (∀ j, V2.cell? ⟨w.heap.size + 1, j, none⟩ = (#[.int .i64 8, .string ⟨#[83]⟩, .int .i64 n2, .int .u64 f2, .string s2, .int .i64 x2, .int .i64 y2, .int .i64 z2, .int .i64 u2, .slice pp2 path2.length pc2, .slice ip2 items2.length ic2] : Array Value)[j]?) ∧ (∀ j, V2.cell? ⟨ab, j, none⟩ = (#[h0, h1, h2, h3, h4, h5, h6, h7, h8, h9, h10] : Array Value)[j]?) := ⟨(cells_of bV2).1, (cells_of zV2).1, (cells_of aV2).1⟩
   refine hK _ _ ⟨hSV2, ?_⟩
   clear hK K hS
   have hS := hSV2
   clear hSV2
   try simp only [Act.put, sd, se, sf]
   refine one 10 rfl (fun K hK => ?_)
   simp only [sa, sb, sc]
   go_simp
   obtain ⟨V3, hV3, cV3, _, nV3⟩ := an V2 (.cells #[.int .i64 0, .string ⟨#[]⟩, .int .i64 0, .int .u64 0, .string ⟨#[]⟩, .int .i64 0, .int .i64 0, .int .i64 0, .int .i64 0, .slice none 0 0, .slice none 0 0] 32)
   rw [← hV3]
   clear hV3
   have cV3s := cV3.size
   have uV3 : Below w.heap.size w V3 := uV2.trans (cV3.mono uV2.size)
   have bV3 := (cV3.block _ (hblk bV2)).trans bV2
   have zV3 := (cV3.block _ (hblk zV2)).trans zV2
   have aV3 := (cV3.block _ (hblk aV2)).trans aV2
   have lnV3 := hblk nV3
   have hSV3 : (∀ j, V3.cell? ⟨w.heap.size, j, none⟩ = (#[.int .i64 9, .string ⟨#[83]⟩, .int .i64 0, .int .u64 0, .string ⟨#[]⟩, .int .i64 ((m : Int) + 1), .int .i64 0, .int .i64 0, .int .i64 0, .slice pp jp pc, .slice none 0 0] : Array Value)[j]?) ∧ (∀ j, V3.cell? ⟨w.heap.size + 1, j, none⟩ = (#[.int .i64 8, .string ⟨#[83]⟩, .int .i64 n2, .int .u64 f2, .string s2, .int .i64 x2, .int .i64 y2, .int .i64 z2, .int .i64 u2, .slice pp2 path2.length pc2, .slice ip2 items2.length ic2] : Array Value)[j]?) ∧ (∀ j, V3.cell? ⟨ab, j, none⟩ = (#[h0, h1, h2, h3, h4, h5, h6, h7, h8, h9, h10] : Array Value)[j]?) := ⟨(cells_of bV3).1, (cells_of zV3).1, (cells_of aV3).1⟩
   refine hK _ _ ⟨hSV3, ?_⟩
   clear hK K hS
   have hS := hSV3
   clear hSV3
   try simp only [Act.put, sd, se, sf]
   have ln := hblk nV3
   refine one 11 rfl (fun K hK => ?_)
   simp only [sa, sb, sc]
   refine wp_store_mid 32 _ _ rfl (V2.heap.size) 0 r'.cells rfl rfl (there_at nV3 (by show 11 ≤ _; simp)) info32 (by simp [MD.cells, Value.oneCell']) ?_
   have kV4 : Kp (· = V2.heap.size) V3 (V3.setCells (V2.heap.size) 0 r'.cells.toList) := kp_setCells _ _ _
   have vV4 : MD.CellsAt (V3.setCells (V2.heap.size) 0 r'.cells.toList) (V2.heap.size) 0 r' := rangeAt_cells.2 (World.rangeAt_setCells_same _ _ _ _ (there_at nV3 (by simp [MD.cells])))
   obtain ⟨V4, hV4⟩ : ∃ W, W = V3.setCells (V2.heap.size) 0 r'.cells.toList := ⟨_, rfl⟩
   rw [← hV4] at kV4 vV4 ⊢
   clear hV4
   have bV4 := (kV4.block _ (hblk bV3) (by omega)).trans bV3
   have zV4 := (kV4.block _ (hblk zV3) (by omega)).trans zV3
   have aV4 := (kV4.block _ (hblk aV3) (by omega)).trans aV3
   have uV4 : Below w.heap.size w V4 := uV3.trans (kV4.below uV3.size fun i hi e => by omega)
   have kxV4 : Kp (fun i => i = ab ∨ i = ab) V2 V4 := Kp.of ((cV3.mono (Nat.le_refl _)).trans (kV4.below (by omega) fun i hi e => by omega))
   have hSV4 : (∀ j, V4.cell? ⟨w.heap.size, j, none⟩ = (#[.int .i64 9, .string ⟨#[83]⟩, .int .i64 0, .int .u64 0, .string ⟨#[]⟩, .int .i64 ((m : Int) + 1), .int .i64 0, .int .i64 0, .int .i64 0, .slice pp jp pc, .slice none 0 0] : Array Value)[j]?) ∧ (∀ j, V4.cell? ⟨w.heap.size + 1, j, none⟩ = (#[.int .i64 8, .string ⟨#[83]⟩, .int .i64 n2, .int .u64 f2, .string s2, .int .i64 x2, .int .i64 y2, .int .i64 z2, .int .i64 u2, .slice pp2 path2.length pc2, .slice ip2 items2.length ic2] : Array Value)[j]?) ∧ (∀ j, V4.cell? ⟨ab, j, none⟩ = (#[h0, h1, h2, h3, h4, h5, h6, h7, h8, h9, h10] : Array Value)[j]?) := ⟨(cells_of bV4).1, (cells_of zV4).1, (cells_of aV4).1⟩
   refine hK _ _ ⟨hSV4, ?_⟩
   clear hK K hS
   have hS := hSV4
   clear hSV4
   try simp only [Act.put]
   refine dn ?_
   try simp only [Act.put]
   clear hS HC
   obtain ⟨⟨k5, t5, n5, f5, s5, x5, y5, z5, u5, pp5, path5, pc5⟩, ip5, ic5, items5⟩ := r'
   have p0 : V4.cell? ⟨V2.heap.size, 0, none⟩ = some (.int .i64 k5) := by have := vV4 0 (by omega); rwa [Nat.zero_add] at this
   have p1 : V4.cell? ⟨V2.heap.size, 1, none⟩ = some (.string t5) := by have := vV4 1 (by omega); rwa [Nat.zero_add] at this
   have p2 : V4.cell? ⟨V2.heap.size, 2, none⟩ = some (.int .i64 n5) := by have := vV4 2 (by omega); rwa [Nat.zero_add] at this
   have p3 : V4.cell? ⟨V2.heap.size, 3, none⟩ = some (.int .u64 f5) := by have := vV4 3 (by omega); rwa [Nat.zero_add] at this
   have p4 : V4.cell? ⟨V2.heap.size, 4, none⟩ = some (.string s5) := by have := vV4 4 (by omega); rwa [Nat.zero_add] at this
   have p5 : V4.cell? ⟨V2.heap.size, 5, none⟩ = some (.int .i64 x5) := by have := vV4 5 (by omega); rwa [Nat.zero_add] at this
   have p6 : V4.cell? ⟨V2.heap.size, 6, none⟩ = some (.int .i64 y5) := by have := vV4 6 (by omega); rwa [Nat.zero_add] at this
   have p7 : V4.cell? ⟨V2.heap.size, 7, none⟩ = some (.int .i64 z5) := by have := vV4 7 (by omega); rwa [Nat.zero_add] at this
   have p8 : V4.cell? ⟨V2.heap.size, 8, none⟩ = some (.int .i64 u5) := by have := vV4 8 (by omega); rwa [Nat.zero_add] at this
   have p9 : V4.cell? ⟨V2.heap.size, 9, none⟩ = some (.slice pp5 path5.length pc5) := by have := vV4 9 (by omega); rwa [Nat.zero_add] at this
   have p10 : V4.cell? ⟨V2.heap.size, 10, none⟩ = some (.slice ip5 items5.length ic5) := by have := vV4 10 (by omega); rwa [Nat.zero_add] at this
   clear vV4
   have q0 := (cells_of bV4).1
   obtain ⟨w0, w1⟩ := cells_of aV4
   have HK1 : Hid _ := kxV4
   have HU1 : Hid _ := uV4
   clear kxV4 uV4
   have sl := kV4.size
   clear kV4
   go_wp2_with fail
   refine ((HZ.out _ HK1.out).2).mono ?_
   rintro _ V4e ⟨rfl, cV4e⟩
   have aV4e := (cV4e.block _ (hblk aV4)).trans aV4
   obtain ⟨w0e, w1e⟩ := cells_of aV4e
   have p0e := (cV4e.cell (p := ⟨V2.heap.size, 0, none⟩) (World.block_lt_of_cell? _ _ p0)).trans p0
   have p1e := (cV4e.cell (p := ⟨V2.heap.size, 1, none⟩) (World.block_lt_of_cell? _ _ p1)).trans p1
   have p2e := (cV4e.cell (p := ⟨V2.heap.size, 2, none⟩) (World.block_lt_of_cell? _ _ p2)).trans p2
   have p3e := (cV4e.cell (p := ⟨V2.heap.size, 3, none⟩) (World.block_lt_of_cell? _ _ p3)).trans p3
   have p4e := (cV4e.cell (p := ⟨V2.heap.size, 4, none⟩) (World.block_lt_of_cell? _ _ p4)).trans p4
   have p5e := (cV4e.cell (p := ⟨V2.heap.size, 5, none⟩) (World.block_lt_of_cell? _ _ p5)).trans p5
   have p6e := (cV4e.cell (p := ⟨V2.heap.size, 6, none⟩) (World.block_lt_of_cell? _ _ p6)).trans p6
   have p7e := (cV4e.cell (p := ⟨V2.heap.size, 7, none⟩) (World.block_lt_of_cell? _ _ p7)).trans p7
   have p8e := (cV4e.cell (p := ⟨V2.heap.size, 8, none⟩) (World.block_lt_of_cell? _ _ p8)).trans p8
   have p9e := (cV4e.cell (p := ⟨V2.heap.size, 9, none⟩) (World.block_lt_of_cell? _ _ p9)).trans p9
   have p10e := (cV4e.cell (p := ⟨V2.heap.size, 10, none⟩) (World.block_lt_of_cell? _ _ p10)).trans p10
   clear w0 w1 q0 p0 p1 p2 p3 p4 p5 p6 p7 p8 p9 p10
   have ue : Below w.heap.size w V4e := HU1.out.trans (cV4e.mono HU1.out.size)
   have kx : Kp (fun i => i = ab ∨ i = ab) V2 V4e := HK1.out.next cV4e
   have HK2 : Hid _ := kx
   have HU2 : Hid _ := ue
   clear kx ue HK1 HU1 cV4e
   go_wp2_with fail
   have kU9 := kp_eleven V4e (ab) (.int .i64 k5) (.string t5) (.int .i64 n5) (.int .u64 f5) (.string s5) (.int .i64 x5) (.int .i64 y5) (.int .i64 z5) (.int .i64 u5) (.slice pp5 path5.length pc5) (.slice ip5 items5.length ic5)
   have hrU9 := eleven_over aV4e (.int .i64 k5) (.string t5) (.int .i64 n5) (.int .u64 f5) (.string s5) (.int .i64 x5) (.int .i64 y5) (.int .i64 z5) (.int .i64 u5) (.slice pp5 path5.length pc5) (.slice ip5 items5.length ic5)
   obtain ⟨U9, hU9⟩ : ∃ W, W = (((((((((((V4e.setCell ⟨ab, 0, none⟩ (.int .i64 k5)).setCell ⟨ab, 1, none⟩ (.string t5)).setCell ⟨ab, 2, none⟩ (.int .i64 n5)).setCell ⟨ab, 3, none⟩ (.int .u64 f5)).setCell ⟨ab, 4, none⟩ (.string s5)).setCell ⟨ab, 5, none⟩ (.int .i64 x5)).setCell ⟨ab, 6, none⟩ (.int .i64 y5)).setCell ⟨ab, 7, none⟩ (.int .i64 z5)).setCell ⟨ab, 8, none⟩ (.int .i64 u5)).setCell ⟨ab, 9, none⟩ (.slice pp5 path5.length pc5)).setCell ⟨ab, 10, none⟩ (.slice ip5 items5.length ic5)) := ⟨_, rfl⟩
   rw [← hU9] at kU9 hrU9 ⊢
   clear hU9
   have rcU9 := (cells_of hrU9).1
   go_ret
   refine ⟨rfl, _, (HZ.out _ (HK2.out.trans kU9 fun i _ e => .inl e)).1, ?_, (Kp.of HU2.out).trans kU9 fun i _ e => e⟩
   exact hrU9
  ·refine wpOp_step rfl (fun K hK => ite_yes rfl ?_)
   simp only [sa, sb, sc]
   go_simp
   obtain ⟨V2, hV2, cV2, _, nV2⟩ := an V1 (.cells #[.int .i64 0, .string ⟨#[]⟩, .int .i64 0, .int .u64 0, .string ⟨#[]⟩, .int .i64 0, .int .i64 0, .int .i64 0, .int .i64 0, .slice none 0 0, .slice none 0 0] 32)
   rw [← hV2]
   clear hV2
   have cV2s := cV2.size
   have uV2 : Below w.heap.size w V2 := uV1.trans (cV2.mono uV1.size)
   have bV2 := (cV2.block _ (hblk bV1)).trans bV1
   have zV2 := (cV2.block _ (hblk zV1)).trans zV1
   have aV2 := (cV2.block _ (hblk aV1)).trans aV1
   have lnV2 := hblk nV2
   have hSV2 : (∀ j, V2.cell? ⟨w.heap.size, j, none⟩ = (#[.int .i64 9, .string ⟨#[83]⟩, .int .i64 0, .int .u64 0, .string ⟨#[]⟩, .int .i64 ((m : Int) + 1), .int .i64 0, .int .i64 0, .int .i64 0, .slice pp jp pc, .slice none 0 0] : Array Value)[j]?) ∧ (∀ j, V2.cell? ⟨w.heap.size + 1, j, none⟩ = (#[.int .i64 8, .string ⟨#[83]⟩, .int .i64 n2, .int .u64 f2, .string s2, .int .i64 x2, .int .i64 y2, .int .i64 z2, .int .i64 u2, .slice pp2 path2.length pc2, .slice ip2 items2.length ic2] : Array Value)[j]?) ∧ (∀ j, V2.cell? ⟨ab, j, none⟩ = (#[h0, h1, h2, h3, h4, h5, h6, h7, h8, h9, h10] : Array Value)[j]?) := ⟨(cells_of bV2).1, (cells_of zV2).1, (cells_of aV2).1⟩
   refine hK _ _ ⟨hSV2, ?_⟩
   clear hK K hS
   have hS := hSV2
   clear hSV2
   try simp only [Act.put, sd, se, sf]
   refine one 9 rfl (fun K hK => ?_)
   simp only [sa, sb, sc]
   go_simp
   refine (HD.out V2 (V1.heap.size) cV2 (.inr (Nat.le_refl _)) (by have := hblk aV2; omega)).mono ?_
   rintro _ V3 ⟨r', rfl, hz, cV3⟩
   have HZ : Hid _ := hz
   clear hz
   have cV3s := cV3.size
   have uV3 : Below w.heap.size w V3 := uV2.trans (cV3.mono uV2.size)
   have bV3 := (cV3.block _ (hblk bV2)).trans bV2
   have zV3 := (cV3.block _ (hblk zV2)).trans zV2
   have aV3 := (cV3.block _ (hblk aV2)).trans aV2
   have nV3 := (cV3.block _ (hblk nV2)).trans nV2
   go_simp
   have hSV3 : (∀ j, V3.cell? ⟨w.heap.size, j, none⟩ = (#[.int .i64 9, .string ⟨#[83]⟩, .int .i64 0, .int .u64 0, .string ⟨#[]⟩, .int .i64 ((m : Int) + 1), .int .i64 0, .int .i64 0, .int .i64 0, .slice pp jp pc, .slice none 0 0] : Array Value)[j]?) ∧ (∀ j, V3.cell? ⟨w.heap.size + 1, j, none⟩ = (#[.int .i64 8, .string ⟨#[83]⟩, .int .i64 n2, .int .u64 f2, .string s2, .int .i64 x2, .int .i64 y2, .int .i64 z2, .int .i64 u2, .slice pp2 path2.length pc2, .slice ip2 items2.length ic2] : Array Value)[j]?) ∧ (∀ j, V3.cell? ⟨ab, j, none⟩ = (#[h0, h1, h2, h3, h4, h5, h6, h7, h8, h9, h10] : Array Value)[j]?) := ⟨(cells_of bV3).1, (cells_of zV3).1, (cells_of aV3).1⟩
   refine hK _ _ ⟨hSV3, ?_⟩
   clear hK K hS
   have hS := hSV3
   clear hSV3
   try simp only [Act.put, sd, se, sf]
   have ln := hblk nV3
   refine one 11 rfl (fun K hK => ?_)
   simp only [sa, sb, sc]
   refine wp_store_mid 32 _ _ rfl (V1.heap.size) 0 r'.cells rfl rfl (there_at nV3 (by show 11 ≤ _; simp)) info32 (by simp [MD.cells, Value.oneCell']) ?_
   have kV4 : Kp (· = V1.heap.size) V3 (V3.setCells (V1.heap.size) 0 r'.cells.toList) := kp_setCells _ _ _
   have vV4 : MD.CellsAt (V3.setCells (V1.heap.size) 0 r'.cells.toList) (V1.heap.size) 0 r' := rangeAt_cells.2 (World.rangeAt_setCells_same _ _ _ _ (there_at nV3 (by simp [MD.cells])))
   obtain ⟨V4, hV4⟩ : ∃ W, W = V3.setCells (V1.heap.size) 0 r'.cells.toList := ⟨_, rfl⟩
   rw [← hV4] at kV4 vV4 ⊢
   clear hV4
   have bV4 := (kV4.block _ (hblk bV3) (by omega)).trans bV3
   have zV4 := (kV4.block _ (hblk zV3) (by omega)).trans zV3
   have aV4 := (kV4.block _ (hblk aV3) (by omega)).trans aV3
   have uV4 : Below w.heap.size w V4 := uV3.trans (kV4.below uV3.size fun i hi e => by omega)
   have kxV4 : Kp (fun i => i = ab ∨ i = V1.heap.size) V3 V4 := ⟨kV4.os, kV4.tape, kV4.output, kV4.size, fun i h1 h2 => kV4.block i h1 fun e => h2 (.inr e)⟩
   have hSV4 : (∀ j, V4.cell? ⟨w.heap.size, j, none⟩ = (#[.int .i64 9, .string ⟨#[83]⟩, .int .i64 0, .int .u64 0, .string ⟨#[]⟩, .int .i64 ((m : Int) + 1), .int .i64 0, .int .i64 0, .int .i64 0, .slice pp jp pc, .slice none 0 0] : Array Value)[j]?) ∧ (∀ j, V4.cell? ⟨w.heap.size + 1, j, none⟩ = (#[.int .i64 8, .string ⟨#[83]⟩, .int .i64 n2, .int .u64 f2, .string s2, .int .i64 x2, .int .i64 y2, .int .i64 z2, .int .i64 u2, .slice pp2 path2.length pc2, .slice ip2 items2.length ic2] : Array Value)[j]?) ∧ (∀ j, V4.cell? ⟨ab, j, none⟩ = (#[h0, h1, h2, h3, h4, h5, h6, h7, h8, h9, h10] : Array Value)[j]?) := ⟨(cells_of bV4).1, (cells_of zV4).1, (cells_of aV4).1⟩
   refine hK _ _ ⟨hSV4, ?_⟩
   clear hK K hS
   have hS := hSV4
   clear hSV4
   try simp only [Act.put]
   refine dn ?_
   try simp only [Act.put]
   clear hS HC
   obtain ⟨⟨k5, t5, n5, f5, s5, x5, y5, z5, u5, pp5, path5, pc5⟩, ip5, ic5, items5⟩ := r'
   have p0 : V4.cell? ⟨V1.heap.size, 0, none⟩ = some (.int .i64 k5) := by have := vV4 0 (by omega); rwa [Nat.zero_add] at this
   have p1 : V4.cell? ⟨V1.heap.size, 1, none⟩ = some (.string t5) := by have := vV4 1 (by omega); rwa [Nat.zero_add] at this
   have p2 : V4.cell? ⟨V1.heap.size, 2, none⟩ = some (.int .i64 n5) := by have := vV4 2 (by omega); rwa [Nat.zero_add] at this
   have p3 : V4.cell? ⟨V1.heap.size, 3, none⟩ = some (.int .u64 f5) := by have := vV4 3 (by omega); rwa [Nat.zero_add] at this
   have p4 : V4.cell? ⟨V1.heap.size, 4, none⟩ = some (.string s5) := by have := vV4 4 (by omega); rwa [Nat.zero_add] at this
   have p5 : V4.cell? ⟨V1.heap.size, 5, none⟩ = some (.int .i64 x5) := by have := vV4 5 (by omega); rwa [Nat.zero_add] at this
   have p6 : V4.cell? ⟨V1.heap.size, 6, none⟩ = some (.int .i64 y5) := by have := vV4 6 (by omega); rwa [Nat.zero_add] at this
   have p7 : V4.cell? ⟨V1.heap.size, 7, none⟩ = some (.int .i64 z5) := by have := vV4 7 (by omega); rwa [Nat.zero_add] at this
   have p8 : V4.cell? ⟨V1.heap.size, 8, none⟩ = some (.int .i64 u5) := by have := vV4 8 (by omega); rwa [Nat.zero_add] at this
   have p9 : V4.cell? ⟨V1.heap.size, 9, none⟩ = some (.slice pp5 path5.length pc5) := by have := vV4 9 (by omega); rwa [Nat.zero_add] at this
   have p10 : V4.cell? ⟨V1.heap.size, 10, none⟩ = some (.slice ip5 items5.length ic5) := by have := vV4 10 (by omega); rwa [Nat.zero_add] at this
   clear vV4
   have q0 := (cells_of bV4).1
   obtain ⟨w0, w1⟩ := cells_of aV4
   have HK1 : Hid _ := kxV4
   have HU1 : Hid _ := uV4
   clear kxV4 uV4
   have sl := kV4.size
   clear kV4
   go_wp2_with fail
   refine ((HZ.out _ HK1.out).2).mono ?_
   rintro _ V4e ⟨rfl, cV4e⟩
   have aV4e := (cV4e.block _ (hblk aV4)).trans aV4
   obtain ⟨w0e, w1e⟩ := cells_of aV4e
   have p0e := (cV4e.cell (p := ⟨V1.heap.size, 0, none⟩) (World.block_lt_of_cell? _ _ p0)).trans p0
   have p1e := (cV4e.cell (p := ⟨V1.heap.size, 1, none⟩) (World.block_lt_of_cell? _ _ p1)).trans p1
   have p2e := (cV4e.cell (p := ⟨V1.heap.size, 2, none⟩) (World.block_lt_of_cell? _ _ p2)).trans p2
   have p3e := (cV4e.cell (p := ⟨V1.heap.size, 3, none⟩) (World.block_lt_of_cell? _ _ p3)).trans p3
   have p4e := (cV4e.cell (p := ⟨V1.heap.size, 4, none⟩) (World.block_lt_of_cell? _ _ p4)).trans p4
   have p5e := (cV4e.cell (p := ⟨V1.heap.size, 5, none⟩) (World.block_lt_of_cell? _ _ p5)).trans p5
   have p6e := (cV4e.cell (p := ⟨V1.heap.size, 6, none⟩) (World.block_lt_of_cell? _ _ p6)).trans p6
   have p7e := (cV4e.cell (p := ⟨V1.heap.size, 7, none⟩) (World.block_lt_of_cell? _ _ p7)).trans p7
   have p8e := (cV4e.cell (p := ⟨V1.heap.size, 8, none⟩) (World.block_lt_of_cell? _ _ p8)).trans p8
   have p9e := (cV4e.cell (p := ⟨V1.heap.size, 9, none⟩) (World.block_lt_of_cell? _ _ p9)).trans p9
   have p10e := (cV4e.cell (p := ⟨V1.heap.size, 10, none⟩) (World.block_lt_of_cell? _ _ p10)).trans p10
   clear w0 w1 q0 p0 p1 p2 p3 p4 p5 p6 p7 p8 p9 p10
   have ue : Below w.heap.size w V4e := HU1.out.trans (cV4e.mono HU1.out.size)
   have kx : Kp (fun i => i = ab ∨ i = V1.heap.size) V3 V4e := HK1.out.next cV4e
   have HK2 : Hid _ := kx
   have HU2 : Hid _ := ue
   clear kx ue HK1 HU1 cV4e
   go_wp2_with fail
   have kU9 := kp_eleven V4e (ab) (.int .i64 k5) (.string t5) (.int .i64 n5) (.int .u64 f5) (.string s5) (.int .i64 x5) (.int .i64 y5) (.int .i64 z5) (.int .i64 u5) (.slice pp5 path5.length pc5) (.slice ip5 items5.length ic5)
   have hrU9 := eleven_over aV4e (.int .i64 k5) (.string t5) (.int .i64 n5) (.int .u64 f5) (.string s5) (.int .i64 x5) (.int .i64 y5) (.int .i64 z5) (.int .i64 u5) (.slice pp5 path5.length pc5) (.slice ip5 items5.length ic5)
   obtain ⟨U9, hU9⟩ : ∃ W, W = (((((((((((V4e.setCell ⟨ab, 0, none⟩ (.int .i64 k5)).setCell ⟨ab, 1, none⟩ (.string t5)).setCell ⟨ab, 2, none⟩ (.int .i64 n5)).setCell ⟨ab, 3, none⟩ (.int .u64 f5)).setCell ⟨ab, 4, none⟩ (.string s5)).setCell ⟨ab, 5, none⟩ (.int .i64 x5)).setCell ⟨ab, 6, none⟩ (.int .i64 y5)).setCell ⟨ab, 7, none⟩ (.int .i64 z5)).setCell ⟨ab, 8, none⟩ (.int .i64 u5)).setCell ⟨ab, 9, none⟩ (.slice pp5 path5.length pc5)).setCell ⟨ab, 10, none⟩ (.slice ip5 items5.length ic5)) := ⟨_, rfl⟩
   rw [← hU9] at kU9 hrU9 ⊢
   clear hU9
   have rcU9 := (cells_of hrU9).1
   go_ret
   refine ⟨rfl, _, (HZ.out _ (HK2.out.trans kU9 fun i _ e => .inl e)).1, ?_, (Kp.of HU2.out).trans kU9 fun i _ e => e⟩
   exact hrU9
 ·refine wpOp_step rfl (fun K hK => ite_yes rfl ?_)
  simp only [sa, sb, sc]
  go_simp
  obtain ⟨V1, hV1, cV1, _, nV1⟩ := an U3 (.cells #[.int .i64 0, .string ⟨#[]⟩, .int .i64 0, .int .u64 0, .string ⟨#[]⟩, .int .i64 0, .int .i64 0, .int .i64 0, .int .i64 0, .slice none 0 0, .slice none 0 0] 32)
  rw [← hV1]
  clear hV1
  have cV1s := cV1.size
  have uV1 : Below w.heap.size w V1 := uU3.trans (cV1.mono uU3.size)
  have bV1 := (cV1.block _ (hblk bU3)).trans bU3
  have zV1 := (cV1.block _ (hblk zU3)).trans zU3
  have aV1 := (cV1.block _ (hblk aU3)).trans aU3
  have lnV1 := hblk nV1
  have hSV1 : (∀ j, V1.cell? ⟨w.heap.size, j, none⟩ = (#[.int .i64 9, .string ⟨#[83]⟩, .int .i64 0, .int .u64 0, .string ⟨#[]⟩, .int .i64 ((m : Int) + 1), .int .i64 0, .int .i64 0, .int .i64 0, .slice pp jp pc, .slice none 0 0] : Array Value)[j]?) ∧ (∀ j, V1.cell? ⟨w.heap.size + 1, j, none⟩ = (#[.int .i64 8, .string ⟨#[83]⟩, .int .i64 n2, .int .u64 f2, .string s2, .int .i64 x2, .int .i64 y2, .int .i64 z2, .int .i64 u2, .slice pp2 path2.length pc2, .slice ip2 items2.length ic2] : Array Value)[j]?) ∧ (∀ j, V1.cell? ⟨ab, j, none⟩ = (#[h0, h1, h2, h3, h4, h5, h6, h7, h8, h9, h10] : Array Value)[j]?) := ⟨(cells_of bV1).1, (cells_of zV1).1, (cells_of aV1).1⟩
  refine hK _ _ ⟨hSV1, ?_⟩
  clear hK K hS
  have hS := hSV1
  clear hSV1
  try simp only [Act.put, sd, se, sf]
  refine one 8 rfl (fun K hK => ?_)
  simp only [sa, sb, sc]
  go_simp
  refine (HC.out V1 uV1).mono ?_
  rintro _ V2 ⟨e', rfl, h49, cV2⟩
  have HD : Hid _ := h49
  clear h49
  have cV2s := cV2.size
  have uV2 : Below w.heap.size w V2 := uV1.trans (cV2.mono uV1.size)
  have bV2 := (cV2.block _ (hblk bV1)).trans bV1
  have zV2 := (cV2.block _ (hblk zV1)).trans zV1
  have aV2 := (cV2.block _ (hblk aV1)).trans aV1
  have nV2 := (cV2.block _ (hblk nV1)).trans nV1
  go_simp
  have hSV2 : (∀ j, V2.cell? ⟨w.heap.size, j, none⟩ = (#[.int .i64 9, .string ⟨#[83]⟩, .int .i64 0, .int .u64 0, .string ⟨#[]⟩, .int .i64 ((m : Int) + 1), .int .i64 0, .int .i64 0, .int .i64 0, .slice pp jp pc, .slice none 0 0] : Array Value)[j]?) ∧ (∀ j, V2.cell? ⟨w.heap.size + 1, j, none⟩ = (#[.int .i64 8, .string ⟨#[83]⟩, .int .i64 n2, .int .u64 f2, .string s2, .int .i64 x2, .int .i64 y2, .int .i64 z2, .int .i64 u2, .slice pp2 path2.length pc2, .slice ip2 items2.length ic2] : Array Value)[j]?) ∧ (∀ j, V2.cell? ⟨ab, j, none⟩ = (#[h0, h1, h2, h3, h4, h5, h6, h7, h8, h9, h10] : Array Value)[j]?) := ⟨(cells_of bV2).1, (cells_of zV2).1, (cells_of aV2).1⟩
  refine hK _ _ ⟨hSV2, ?_⟩
  clear hK K hS
  have hS := hSV2
  clear hSV2
  try simp only [Act.put, sd, se, sf]
  refine one 9 rfl (fun K hK => ?_)
  simp only [sa, sb, sc]
  go_simp
  refine (HD.out V2 (U3.heap.size) (Below.refl _ _) (.inl (by omega)) (by have := hblk aV2; omega)).mono ?_
  rintro _ V3 ⟨r', rfl, hz, cV3⟩
  have HZ : Hid _ := hz
  clear hz
  have cV3s := cV3.size
  have uV3 : Below w.heap.size w V3 := uV2.trans (cV3.mono uV2.size)
  have bV3 := (cV3.block _ (hblk bV2)).trans bV2
  have zV3 := (cV3.block _ (hblk zV2)).trans zV2
  have aV3 := (cV3.block _ (hblk aV2)).trans aV2
  have nV3 := (cV3.block _ (hblk nV2)).trans nV2
  go_simp
  have hSV3 : (∀ j, V3.cell? ⟨w.heap.size, j, none⟩ = (#[.int .i64 9, .string ⟨#[83]⟩, .int .i64 0, .int .u64 0, .string ⟨#[]⟩, .int .i64 ((m : Int) + 1), .int .i64 0, .int .i64 0, .int .i64 0, .slice pp jp pc, .slice none 0 0] : Array Value)[j]?) ∧ (∀ j, V3.cell? ⟨w.heap.size + 1, j, none⟩ = (#[.int .i64 8, .string ⟨#[83]⟩, .int .i64 n2, .int .u64 f2, .string s2, .int .i64 x2, .int .i64 y2, .int .i64 z2, .int .i64 u2, .slice pp2 path2.length pc2, .slice ip2 items2.length ic2] : Array Value)[j]?) ∧ (∀ j, V3.cell? ⟨ab, j, none⟩ = (#[h0, h1, h2, h3, h4, h5, h6, h7, h8, h9, h10] : Array Value)[j]?) := ⟨(cells_of bV3).1, (cells_of zV3).1, (cells_of aV3).1⟩
  refine hK _ _ ⟨hSV3, ?_⟩
  clear hK K hS
  have hS := hSV3
  clear hSV3
  try simp only [Act.put, sd, se, sf]
  have ln := hblk nV3
  refine one 11 rfl (fun K hK => ?_)
  simp only [sa, sb, sc]
  refine wp_store_mid 32 _ _ rfl (U3.heap.size) 0 r'.cells rfl rfl (there_at nV3 (by show 11 ≤ _; simp)) info32 (by simp [MD.cells, Value.oneCell']) ?_
  have kV4 : Kp (· = U3.heap.size) V3 (V3.setCells (U3.heap.size) 0 r'.cells.toList) := kp_setCells _ _ _
  have vV4 : MD.CellsAt (V3.setCells (U3.heap.size) 0 r'.cells.toList) (U3.heap.size) 0 r' := rangeAt_cells.2 (World.rangeAt_setCells_same _ _ _ _ (there_at nV3 (by simp [MD.cells])))
  obtain ⟨V4, hV4⟩ : ∃ W, W = V3.setCells (U3.heap.size) 0 r'.cells.toList := ⟨_, rfl⟩
  rw [← hV4] at kV4 vV4 ⊢
  clear hV4
  have bV4 := (kV4.block _ (hblk bV3) (by omega)).trans bV3
  have zV4 := (kV4.block _ (hblk zV3) (by omega)).trans zV3
  have aV4 := (kV4.block _ (hblk aV3) (by omega)).trans aV3
  have uV4 : Below w.heap.size w V4 := uV3.trans (kV4.below uV3.size fun i hi e => by omega)
  have kxV4 : Kp (fun i => i = ab ∨ i = U3.heap.size) V3 V4 := ⟨kV4.os, kV4.tape, kV4.output, kV4.size, fun i h1 h2 => kV4.block i h1 fun e => h2 (.inr e)⟩
  have hSV4 : (∀ j, V4.cell? ⟨w.heap.size, j, none⟩ = (#[.int .i64 9, .string ⟨#[83]⟩, .int .i64 0, .int .u64 0, .string ⟨#[]⟩, .int .i64 ((m : Int) + 1), .int .i64 0, .int .i64 0, .int .i64 0, .slice pp jp pc, .slice none 0 0] : Array Value)[j]?) ∧ (∀ j, V4.cell? ⟨w.heap.size + 1, j, none⟩ = (#[.int .i64 8, .string ⟨#[83]⟩, .int .i64 n2, .int .u64 f2, .string s2, .int .i64 x2, .int .i64 y2, .int .i64 z2, .int .i64 u2, .slice pp2 path2.length pc2, .slice ip2 items2.length ic2] : Array Value)[j]?) ∧ (∀ j, V4.cell? ⟨ab, j, none⟩ = (#[h0, h1, h2, h3, h4, h5, h6, h7, h8, h9, h10] : Array Value)[j]?) := ⟨(cells_of bV4).1, (cells_of zV4).1, (cells_of aV4).1⟩
  refine hK _ _ ⟨hSV4, ?_⟩
  clear hK K hS
  have hS := hSV4
  clear hSV4
  try simp only [Act.put]
  refine dn ?_
  try simp only [Act.put]
  clear hS HC
  obtain ⟨⟨k5, t5, n5, f5, s5, x5, y5, z5, u5, pp5, path5, pc5⟩, ip5, ic5, items5⟩ := r'
  have p0 : V4.cell? ⟨U3.heap.size, 0, none⟩ = some (.int .i64 k5) := by have := vV4 0 (by omega); rwa [Nat.zero_add] at this
  have p1 : V4.cell? ⟨U3.heap.size, 1, none⟩ = some (.string t5) := by have := vV4 1 (by omega); rwa [Nat.zero_add] at this
  have p2 : V4.cell? ⟨U3.heap.size, 2, none⟩ = some (.int .i64 n5) := by have := vV4 2 (by omega); rwa [Nat.zero_add] at this
  have p3 : V4.cell? ⟨U3.heap.size, 3, none⟩ = some (.int .u64 f5) := by have := vV4 3 (by omega); rwa [Nat.zero_add] at this
  have p4 : V4.cell? ⟨U3.heap.size, 4, none⟩ = some (.string s5) := by have := vV4 4 (by omega); rwa [Nat.zero_add] at this
  have p5 : V4.cell? ⟨U3.heap.size, 5, none⟩ = some (.int .i64 x5) := by have := vV4 5 (by omega); rwa [Nat.zero_add] at this
  have p6 : V4.cell? ⟨U3.heap.size, 6, none⟩ = some (.int .i64 y5) := by have := vV4 6 (by omega); rwa [Nat.zero_add] at this
  have p7 : V4.cell? ⟨U3.heap.size, 7, none⟩ = some (.int .i64 z5) := by have := vV4 7 (by omega); rwa [Nat.zero_add] at this
  have p8 : V4.cell? ⟨U3.heap.size, 8, none⟩ = some (.int .i64 u5) := by have := vV4 8 (by omega); rwa [Nat.zero_add] at this
  have p9 : V4.cell? ⟨U3.heap.size, 9, none⟩ = some (.slice pp5 path5.length pc5) := by have := vV4 9 (by omega); rwa [Nat.zero_add] at this
  have p10 : V4.cell? ⟨U3.heap.size, 10, none⟩ = some (.slice ip5 items5.length ic5) := by have := vV4 10 (by omega); rwa [Nat.zero_add] at this
  clear vV4
  have q0 := (cells_of bV4).1
  obtain ⟨w0, w1⟩ := cells_of aV4
  have HK1 : Hid _ := kxV4
  have HU1 : Hid _ := uV4
  clear kxV4 uV4
  have sl := kV4.size
  clear kV4
  go_wp2_with fail
  refine ((HZ.out _ HK1.out).2).mono ?_
  rintro _ V4e ⟨rfl, cV4e⟩
  have aV4e := (cV4e.block _ (hblk aV4)).trans aV4
  obtain ⟨w0e, w1e⟩ := cells_of aV4e
  have p0e := (cV4e.cell (p := ⟨U3.heap.size, 0, none⟩) (World.block_lt_of_cell? _ _ p0)).trans p0
  have p1e := (cV4e.cell (p := ⟨U3.heap.size, 1, none⟩) (World.block_lt_of_cell? _ _ p1)).trans p1
  have p2e := (cV4e.cell (p := ⟨U3.heap.size, 2, none⟩) (World.block_lt_of_cell? _ _ p2)).trans p2
  have p3e := (cV4e.cell (p := ⟨U3.heap.size, 3, none⟩) (World.block_lt_of_cell? _ _ p3)).trans p3
  have p4e := (cV4e.cell (p := ⟨U3.heap.size, 4, none⟩) (World.block_lt_of_cell? _ _ p4)).trans p4
  have p5e := (cV4e.cell (p := ⟨U3.heap.size, 5, none⟩) (World.block_lt_of_cell? _ _ p5)).trans p5
  have p6e := (cV4e.cell (p := ⟨U3.heap.size, 6, none⟩) (World.block_lt_of_cell? _ _ p6)).trans p6
  have p7e := (cV4e.cell (p := ⟨U3.heap.size, 7, none⟩) (World.block_lt_of_cell? _ _ p7)).trans p7
  have p8e := (cV4e.cell (p := ⟨U3.heap.size, 8, none⟩) (World.block_lt_of_cell? _ _ p8)).trans p8
  have p9e := (cV4e.cell (p := ⟨U3.heap.size, 9, none⟩) (World.block_lt_of_cell? _ _ p9)).trans p9
  have p10e := (cV4e.cell (p := ⟨U3.heap.size, 10, none⟩) (World.block_lt_of_cell? _ _ p10)).trans p10
  clear w0 w1 q0 p0 p1 p2 p3 p4 p5 p6 p7 p8 p9 p10
  have ue : Below w.heap.size w V4e := HU1.out.trans (cV4e.mono HU1.out.size)
  have kx : Kp (fun i => i = ab ∨ i = U3.heap.size) V3 V4e := HK1.out.next cV4e
  have HK2 : Hid _ := kx
  have HU2 : Hid _ := ue
  clear kx ue HK1 HU1 cV4e
  go_wp2_with fail
  have kU9 := kp_eleven V4e (ab) (.int .i64 k5) (.string t5) (.int .i64 n5) (.int .u64 f5) (.string s5) (.int .i64 x5) (.int .i64 y5) (.int .i64 z5) (.int .i64 u5) (.slice pp5 path5.length pc5) (.slice ip5 items5.length ic5)
  have hrU9 := eleven_over aV4e (.int .i64 k5) (.string t5) (.int .i64 n5) (.int .u64 f5) (.string s5) (.int .i64 x5) (.int .i64 y5) (.int .i64 z5) (.int .i64 u5) (.slice pp5 path5.length pc5) (.slice ip5 items5.length ic5)
  obtain ⟨U9, hU9⟩ : ∃ W, W = (((((((((((V4e.setCell ⟨ab, 0, none⟩ (.int .i64 k5)).setCell ⟨ab, 1, none⟩ (.string t5)).setCell ⟨ab, 2, none⟩ (.int .i64 n5)).setCell ⟨ab, 3, none⟩ (.int .u64 f5)).setCell ⟨ab, 4, none⟩ (.string s5)).setCell ⟨ab, 5, none⟩ (.int .i64 x5)).setCell ⟨ab, 6, none⟩ (.int .i64 y5)).setCell ⟨ab, 7, none⟩ (.int .i64 z5)).setCell ⟨ab, 8, none⟩ (.int .i64 u5)).setCell ⟨ab, 9, none⟩ (.slice pp5 path5.length pc5)).setCell ⟨ab, 10, none⟩ (.slice ip5 items5.length ic5)) := ⟨_, rfl⟩
  rw [← hU9] at kU9 hrU9 ⊢
  clear hU9
  have rcU9 := (cells_of hrU9).1
  go_ret
  refine ⟨rfl, _, (HZ.out _ (HK2.out.trans kU9 fun i _ e => .inl e)).1, ?_, (Kp.of HU2.out).trans kU9 fun i _ e => e⟩
  exact hrU9
theorem Held.writeAt {w : World} {hb M m ab j : Nat} {vs : List Value} {base d : MD} (h : Held w hb M vs m ab j base d) (hN : NamesAt w) (pp : Option Addr) (pc : Nat) (hO : OnesAt w pp j) (hc : j ≤ pc) (hpc : pc ≤ maxLen) (e : MD) (g : Nat) (x y : Int) (hx : FlatR (wholeD x)) (hy : FlatR (wholeD y)) (hs : MD.same 5 (pairE g (wholeD x) (wholeD y)) e = true) (he : MD.In w.heap.size w 5 e) (ne1 : hb ≠ ab) (ne2 : M ≠ ab) :
  Calls Tryz.prog 20 #[.pointer (some ⟨hb, 0, none⟩), .agg #[.int .i64 9, .string ⟨#[83]⟩, .int .i64 0, .int .u64 0, .string ⟨#[]⟩, .int .i64 ((m : Int) + 1), .int .i64 0, .int .i64 0, .int .i64 0, .slice pp j pc, .slice none 0 0], e.val] w fun r w' => r = .returned .nilIface ∧ ∃ d', Held w' hb M vs m ab j (pairE g (wholeD x) (wholeD y)) d' ∧ Kp (· = ab) w w' := by
 have hf := h.few
 have hal := hblk h.cells
 have hfull : MD.full 5 (pairE g (wholeD x) (wholeD y)) = true := pairE_full (full_of hx.right) (full_of hy.right)
 have hsize : MD.size 5 (pairE g (wholeD x) (wholeD y)) = 3 := by
  rw [pairE_size, flat_size (whole_k _), flat_size (whole_k _)]
 have hright : MD.right 5 e = true := (same_right 5 _ _ hs).symm.trans (tow_right hfull hsize 0 (by omega))
 have hfe : MD.full 5 e = true := full_of hright
 have HO := fun W (hW : Below w.heap.size w W) => (h.below hW).object (hN.kept hW) j (Nat.le_refl _) pp pc (hO.below hW) hc hpc
 have HR : ∀ W, Below w.heap.size w W → Calls Tryz.prog 39 #[e.val] W fun r w' => r = .returned (.bool true) ∧ Below W.heap.size W w' := fun W hW => by
  have := Right_any 5 e W (hN.kept hW) (MD.In.mono hW.size _ _ (MD.In.below hW _ _ he))
  rw [hright] at this
  exact this
 have HC : ∀ W, Below w.heap.size w W → Calls Tryz.prog 41 #[e.val] W fun r w' => ∃ e' : MD, r = .returned e'.val ∧ (∀ (V : World) (pb : Nat), Below w'.heap.size w' V → (pb < W.heap.size ∨ w'.heap.size ≤ pb) → pb < V.heap.size → Calls Tryz.prog 49 #[d.val, .slice pp j pc, e'.val] V fun r V' => ∃ r' : MD, r = .returned r'.val ∧ (∀ X, Kp (fun i => i = ab ∨ i = pb) V' X → (MD.In X.heap.size X (5 + j) r' ∧ MD.same (5 + j) (tow (pairE g (wholeD x) (wholeD y)) j) r' = true) ∧ Calls Tryz.prog 50 #[r'.val] X fun r X' => r = .returned (.int .i64 ((2 * j + 3 : Nat) : Int)) ∧ Below X.heap.size X X') ∧ Below V.heap.size V V') ∧ Below W.heap.size W w' := fun W hW => by
  refine (copiedH_any 5 e W (MD.In.mono hW.size _ _ (MD.In.below hW _ _ he)) hfe).mono ?_
  rintro _ w' ⟨e', rfl, h1, h2, h3, h4, _⟩
  refine ⟨e', rfl, fun V pb hV hpb hpv => ?_, h4⟩
  have hWV : Below W.heap.size W V := h4.trans (hV.mono h4.size)
  have hwV : Below w.heap.size w V := hW.trans (hWV.mono hW.size)
  have z1 := hW.size
  have z2 := hwV.size
  have hA : MD.Avoid (fun i => i = ab ∨ i = pb) 5 e' := by
   refine MD.Avoid.or _ _ (MD.Above.avoid (lo := W.heap.size) (fun i hi q => by omega) _ _ h2) ?_
   rcases hpb with hp | hp
   ·exact MD.Above.avoid (lo := W.heap.size) (fun i hi q => by omega) _ _ h2
   ·exact MD.In.avoid (B := w'.heap.size) (fun i hi q => by omega) _ _ h1
  refine (replaced_tow e' (same_trans _ _ _ _ hs h3) j d pp pc V (fun i => i = ab ∨ i = pb) (by omega) (MD.In.mono hwV.size _ _ (MD.In.below hwV _ _ h.inn)) h.same (MD.In.mono hV.size _ _ (MD.In.below hV _ _ h1)) (fun i hi => by omega) hA (hO.below hwV) hc hpc).mono ?_
  rintro _ V' ⟨r', rfl, ⟨q1, q2, q3⟩, q4⟩
  refine ⟨r', rfl, fun X hX => ?_, q4⟩
  have hI : MD.In X.heap.size X (5 + j) r' := MD.In.mono hX.size _ _ (MD.In.apart (S := fun i => i = ab ∨ i = pb) (fun b h1 h2 => hX.block b h2 h1) _ _ q1 q2)
  refine ⟨⟨hI, q3⟩, (size_tow (base := pairE g (wholeD x) (wholeD y)) ⟨g, rfl⟩ j r' X (by omega) q3 hI).mono ?_⟩
  rintro _ X' ⟨rfl, hX'⟩
  exact ⟨by rw [show ((2 * j + 3 : Nat) : Int) = 2 * (j : Int) + 3 by omega], hX'⟩
 have hc2 := h.cells
 have ht2 := (same_parts (n := 4) hs).2.1
 have hk2 := (same_parts (n := 4) hs).1
 obtain ⟨⟨k1, t1, n1, f1, s1, x1, y1, z1, u1, pp1, path1, pc1⟩, ip1, ic1, items1⟩ := d
 obtain ⟨⟨k2, t2, n2, f2, s2, x2, y2, z2, u2, pp2, path2, pc2⟩, ip2, ic2, items2⟩ := e
 obtain rfl : t2 = ⟨#[83]⟩ := ht2
 obtain rfl : k2 = 8 := hk2
 refine (Write_ptr hb m ab pp j pc _ _ _ _ _ _ _ _ _ _ _ n2 f2 s2 x2 y2 z2 u2 pp2 path2 pc2 ip2 ic2 items2 (2 * j + 3) (by omega) w _ hc2 HO HR HC).mono ?_
 rintro r w' ⟨h1, r', ⟨q1, q2⟩, q3, q4⟩
 exact ⟨h1, r', ⟨h.heap.kp q4 ne1 ne2, h.thing, q3, q1, q2, hfull, ⟨rfl, rfl⟩, hf⟩, q4⟩
end Go.Proofs.YtdbijkgnddcneaaGreatDoor
