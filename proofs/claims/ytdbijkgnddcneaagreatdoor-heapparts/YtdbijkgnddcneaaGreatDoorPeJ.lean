/-
  .
  .
  .
  .
  .
  .
  .
  .
  .
  .
  .
-/
import Derived.Test.YtdbijkgnddcneaaGreatDoorSq
import Derived.Test.YtdbijkgnddcneaaGreatDoorZaJ
import Derived.Test.YtdbijkgnddcneaaGreatDoorMiJ
import Derived.Test.YtdbijkgnddcneaaGreatDoorMuJ
namespace Go.Proofs.YtdbijkgnddcneaaGreatDoor
open Go.RowKit Go.ChangeMaps
set_option maxRecDepth 100000
set_option maxHeartbeats 4000000
attribute [local go_sem] refold2 cell3_0 cell3_1 b28_0 b28_01 nz26 nz23 b32_012 b32_015 b30_023 b30_0123 b30_0 b131_0 ta84_84
theorem object_ptr (hb M : Nat) (vs : List Value) (m ab : Nat) (hm : vs[m]? = some (.iface 84 (.pointer (some ⟨ab, 0, none⟩)))) (t : ByteArray) (pp : Option Addr) (pl pc : Nat) (w : World) (h : HeapAt w hb M vs) (HF0 : ∀ W, Below w.heap.size w W → Calls Tryz.prog 64 #[.pointer (some ⟨hb, 0, none⟩), .agg #[.int .i64 9, .string t, .int .i64 0, .int .u64 0, .string ⟨#[]⟩, .int .i64 ((m : Int) + 1), .int .i64 0, .int .i64 0, .int .i64 0, .slice pp pl pc, .slice none 0 0]] W fun r w' => r = .returned (.bool true) ∧ Below W.heap.size W w') :
  Calls Tryz.prog 44 #[.pointer (some ⟨hb, 0, none⟩), .agg #[.int .i64 9, .string t, .int .i64 0, .int .u64 0, .string ⟨#[]⟩, .int .i64 ((m : Int) + 1), .int .i64 0, .int .i64 0, .int .i64 0, .slice pp pl pc, .slice none 0 0]] w fun r w' => r = .returned (.tuple #[.pointer (some ⟨ab, 0, none⟩), .bool true]) ∧ Below w.heap.size w w' := by
 have HF : Hid _ := HF0
 clear HF0
 go_enter Tryz.func44, Tryz.ntmps44
 go_wp2_with fail
 have u0 := below1 w (.cells #[.int .i64 9, .string t, .int .i64 0, .int .u64 0, .string ⟨#[]⟩, .int .i64 ((m : Int) + 1), .int .i64 0, .int .i64 0, .int .i64 0, .slice pp pl pc, .slice none 0 0] 32)
 obtain ⟨U0, hU0⟩ : ∃ W, W = w.alloc (.cells #[.int .i64 9, .string t, .int .i64 0, .int .u64 0, .string ⟨#[]⟩, .int .i64 ((m : Int) + 1), .int .i64 0, .int .i64 0, .int .i64 0, .slice pp pl pc, .slice none 0 0] 32) := ⟨_, rfl⟩
 rw [← hU0] at u0 ⊢
 have b0 : U0.heap[w.heap.size]? = some (.cells #[.int .i64 9, .string t, .int .i64 0, .int .u64 0, .string ⟨#[]⟩, .int .i64 ((m : Int) + 1), .int .i64 0, .int .i64 0, .int .i64 0, .slice pp pl pc, .slice none 0 0] 32) := by rw [hU0]; exact heap_alloc_new _ _
 clear hU0
 refine (HF.out U0 u0).mono ?_
 rintro _ U1 ⟨rfl, c1⟩
 have u1 : Below w.heap.size w U1 := u0.trans (c1.mono u0.size)
 have b1 := (c1.block _ (hblk b0)).trans b0
 clear b0 u0 c1
 go_wp2_with fail
 refine rg (S := fun W => (∀ j, W.cell? ⟨w.heap.size, j, none⟩ = (#[.int .i64 9, .string t, .int .i64 0, .int .u64 0, .string ⟨#[]⟩, .int .i64 ((m : Int) + 1), .int .i64 0, .int .i64 0, .int .i64 0, .slice pp pl pc, .slice none 0 0] : Array Value)[j]?) ∧ (∀ j, W.cell? ⟨hb, j, none⟩ = (#[.map (some M), .int .i64 vs.length] : Array Value)[j]?) ∧ HeapAt W hb M vs) (fun U2 hB4 HU2 => ?_)
 have hS : (∀ j, U2.cell? ⟨w.heap.size, j, none⟩ = (#[.int .i64 9, .string t, .int .i64 0, .int .u64 0, .string ⟨#[]⟩, .int .i64 ((m : Int) + 1), .int .i64 0, .int .i64 0, .int .i64 0, .slice pp pl pc, .slice none 0 0] : Array Value)[j]?) ∧ (∀ j, U2.cell? ⟨hb, j, none⟩ = (#[.map (some M), .int .i64 vs.length] : Array Value)[j]?) ∧ HeapAt U2 hb M vs := ⟨(cells_of ((hB4.block _ (hblk b1)).trans b1)).1, (cells_of ((h.below u1).below hB4).box).1, (h.below u1).below hB4⟩
 refine tq 0 (.pointer (some ⟨hb, 0, none⟩)) rfl hS ?_
 simp only [sa, sb, Act.put, sd, se, sf]
 refine tq 1 (.pointer (some ⟨hb, 0, none⟩)) rfl hS ?_
 simp only [sa, sb, sc, Act.put, sd, se, sf]
 refine tq 2 (.pointer (some ⟨hb, 0, none⟩)) rfl hS ?_
 simp only [sa, sb, sc, Act.put, sd, se, sf]
 refine tk 3 (.map (some M)) rfl (.inl ⟨by rfl, ?r⟩) hS ?_
 case r => intro W hW; simp [go_sem, execOp, Act.eval, hW.2.1]
 simp only [sa, sb, sc, Act.put, sd, se, sf]
 refine tq 4 (.pointer (some ⟨w.heap.size, 5, none⟩)) rfl hS ?_
 simp only [sa, sb, sc, Act.put, sd, se, sf]
 refine tq 5 (.pointer (some ⟨w.heap.size, 5, none⟩)) rfl hS ?_
 simp only [sa, sb, sc, Act.put, sd, se, sf]
 refine tk 6 (.int .i64 ((m : Int) + 1)) rfl (.inl ⟨by rfl, ?r⟩) hS ?_
 case r => intro W hW; simp [go_sem, execOp, Act.eval, hW.1]
 simp only [sa, sb, sc, Act.put, sd, se, sf]
 refine tk 7 (.iface 84 (.pointer (some ⟨ab, 0, none⟩))) rfl (.inl ⟨by rfl, ?r⟩) hS ?_
 case r => intro W hW; simp [go_sem, execOp, Act.eval, hW.2.2.look hm rfl]
 simp only [sa, sb, sc, Act.put, sd, se, sf]
 refine tq 8 (.tuple #[.pointer (some ⟨ab, 0, none⟩), .bool true]) rfl hS ?_
 simp only [sa, sb, sc, Act.put, sd, se, sf]
 refine tq 9 (.tuple #[.pointer (some ⟨ab, 0, none⟩), .bool true]) rfl hS ?_
 simp only [sa, sb, sc, Act.put, sd, se, sf]
 refine tq 10 (.pointer (some ⟨ab, 0, none⟩)) rfl hS ?_
 simp only [sa, sb, sc, Act.put, sd, se, sf]
 refine tq 11 (.bool true) rfl hS ?_
 simp only [sa, sb, sc, Act.put, sd, se, sf]
 have u2 : Below w.heap.size w U2 := u1.trans (hB4.mono u1.size)
 clear HU2 hB4 b1 u1
 refine one 12 rfl (fun K hK => ?_)
 simp only [sa, sb, sc]
 go_simp
 refine hK _ _ ⟨hS, ?_⟩
 clear hK K
 try simp only [Act.put, sd, se, sf]
 refine one 13 rfl (fun K hK => ?_)
 simp only [sa, sb, sc]
 go_simp
 refine hK _ _ ⟨hS, ?_⟩
 clear hK K hS
 try simp only [Act.put, sd, se, sf]
 refine dn ?_
 try simp only [Act.put]
 go_wp2_with fail
 exact bodyPost_ret (v := .tuple #[.pointer (some ⟨ab, 0, none⟩), .bool true]) (by simp [results, Tryz.results44, go_sem]) rfl ⟨rfl, u2⟩
theorem Read_ptr (hb M : Nat) (vs : List Value) (m ab : Nat) (t : ByteArray) (pp : Option Addr) (pl pc : Nat) (h0 h1 h2 h3 h4 h5 h6 h7 h8 h9 h10 : Value) (k a f : Int) (s : ByteArray) (r0 r1 r2 r3 : Int) (qp : Option Addr) (qpath : List Int) (qc : Nat) (ip : Option Addr) (ic : Nat) (items : List MD) (n : Nat) (w : World) (_h : HeapAt w hb M vs) (ha : w.heap[ab]? = some (.cells #[h0, h1, h2, h3, h4, h5, h6, h7, h8, h9, h10] 86)) (HO0 : ∀ W, Below w.heap.size w W → Calls Tryz.prog 44 #[.pointer (some ⟨hb, 0, none⟩), .agg #[.int .i64 9, .string t, .int .i64 0, .int .u64 0, .string ⟨#[]⟩, .int .i64 ((m : Int) + 1), .int .i64 0, .int .i64 0, .int .i64 0, .slice pp pl pc, .slice none 0 0]] W fun r w' => r = .returned (.tuple #[.pointer (some ⟨ab, 0, none⟩), .bool true]) ∧ Below W.heap.size W w') (HP0 : ∀ W, Below w.heap.size w W → Calls Tryz.prog 46 #[.agg #[h0, h1, h2, h3, h4, h5, h6, h7, h8, h9, h10], .slice pp pl pc] W fun r w' => r = .returned (.tuple #[.agg #[.int .i64 k, .string t, .int .i64 a, .int .u64 f, .string s, .int .i64 r0, .int .i64 r1, .int .i64 r2, .int .i64 r3, .slice qp qpath.length qc, .slice ip items.length ic], .bool true]) ∧ Below W.heap.size W w') (hin : MD.In w.heap.size w n ⟨⟨k, t, a, f, s, r0, r1, r2, r3, qp, qpath, qc⟩, ip, ic, items⟩) (hf : MD.full n ⟨⟨k, t, a, f, s, r0, r1, r2, r3, qp, qpath, qc⟩, ip, ic, items⟩ = true) :
  Calls Tryz.prog 17 #[.pointer (some ⟨hb, 0, none⟩), .agg #[.int .i64 9, .string t, .int .i64 0, .int .u64 0, .string ⟨#[]⟩, .int .i64 ((m : Int) + 1), .int .i64 0, .int .i64 0, .int .i64 0, .slice pp pl pc, .slice none 0 0]] w fun r w' => ∃ d : MD, r = .returned (.tuple #[d.val, .nilIface]) ∧ MD.In w'.heap.size w' n d ∧ MD.Above w.heap.size n d ∧ MD.same n ⟨⟨k, t, a, f, s, r0, r1, r2, r3, qp, qpath, qc⟩, ip, ic, items⟩ d = true ∧ Below w.heap.size w w' := by
 have HO : Hid _ := HO0
 have HP : Hid _ := HP0
 clear HO0 HP0
 go_enter Tryz.func17, Tryz.ntmps17
 go_wp2_with fail
 obtain ⟨U0, hU0, u0, b0, r0'⟩ := an2 w (.cells #[.int .i64 9, .string t, .int .i64 0, .int .u64 0, .string ⟨#[]⟩, .int .i64 ((m : Int) + 1), .int .i64 0, .int .i64 0, .int .i64 0, .slice pp pl pc, .slice none 0 0] 32) (.cells #[.int .i64 0, .string ⟨#[]⟩, .int .i64 0, .int .u64 0, .string ⟨#[]⟩, .int .i64 0, .int .i64 0, .int .i64 0, .int .i64 0, .slice none 0 0, .slice none 0 0] 32)
 rw [← hU0]
 clear hU0
 refine (HO.out U0 u0).mono ?_
 rintro _ U2 ⟨rfl, c1⟩
 have u2 : Below w.heap.size w U2 := u0.trans (c1.mono u0.size)
 have b2 := (c1.block _ (hblk b0)).trans b0
 have r2' := (c1.block _ (hblk r0')).trans r0'
 have a2 := (u2.block _ (hblk ha)).trans ha
 clear b0 r0' u0 c1
 have bc2 := (cells_of b2).1
 go_wp2_with fail
 refine rg (S := fun W => (∀ j, W.cell? ⟨w.heap.size, j, none⟩ = (#[.int .i64 9, .string t, .int .i64 0, .int .u64 0, .string ⟨#[]⟩, .int .i64 ((m : Int) + 1), .int .i64 0, .int .i64 0, .int .i64 0, .slice pp pl pc, .slice none 0 0] : Array Value)[j]?) ∧ (∀ j, W.cell? ⟨ab, j, none⟩ = (#[h0, h1, h2, h3, h4, h5, h6, h7, h8, h9, h10] : Array Value)[j]?)) (fun U3 hB4 HU3 => ?_)
 have hS : (∀ j, U3.cell? ⟨w.heap.size, j, none⟩ = (#[.int .i64 9, .string t, .int .i64 0, .int .u64 0, .string ⟨#[]⟩, .int .i64 ((m : Int) + 1), .int .i64 0, .int .i64 0, .int .i64 0, .slice pp pl pc, .slice none 0 0] : Array Value)[j]?) ∧ (∀ j, U3.cell? ⟨ab, j, none⟩ = (#[h0, h1, h2, h3, h4, h5, h6, h7, h8, h9, h10] : Array Value)[j]?) := ⟨(cells_of ((hB4.block _ (hblk b2)).trans b2)).1, (cells_of ((hB4.block _ (hblk a2)).trans a2)).1⟩
 refine tq 0 (.pointer (some ⟨ab, 0, none⟩)) rfl hS ?_
 simp only [sa, sb, Act.put, sd, se, sf]
 refine tq 1 (.pointer (some ⟨ab, 0, none⟩)) rfl hS ?_
 simp only [sa, sb, sc, Act.put, sd, se, sf]
 refine tq 2 (.pointer (some ⟨ab, 0, none⟩)) rfl hS ?_
 simp only [sa, sb, sc, Act.put, sd, se, sf]
 refine tk 3 (.agg #[h0, h1, h2, h3, h4, h5, h6, h7, h8, h9, h10]) rfl (.inl ⟨by rfl, ?r⟩) hS ?_
 case r => intro W hW; simp [go_sem, execOp, Act.eval, hW.2]
 simp only [sa, sb, sc, Act.put, sd, se, sf]
 refine tq 4 (.pointer (some ⟨w.heap.size, 5, none⟩)) rfl hS ?_
 simp only [sa, sb, sc, Act.put, sd, se, sf]
 refine tq 5 (.pointer (some ⟨w.heap.size, 9, none⟩)) rfl hS ?_
 simp only [sa, sb, sc, Act.put, sd, se, sf]
 refine tk 6 (.slice pp pl pc) rfl (.inl ⟨by rfl, ?r⟩) hS ?_
 case r => intro W hW; simp [go_sem, execOp, Act.eval, hW.1]
 simp only [sa, sb, sc, Act.put, sd, se, sf]
 have uU3 : Below w.heap.size w U3 := u2.trans (hB4.mono u2.size)
 have bU3 := (hB4.block _ (hblk b2)).trans b2
 have aU3 := (hB4.block _ (hblk a2)).trans a2
 have rU3 := (hB4.block _ (hblk r2')).trans r2'
 clear HU3 hB4 b2 a2 r2' u2 bc2
 refine wpAnyH_all (rs := [7, 11]) (by kernel_rfl) (by simp) (fun i2 hi2 => ?_)
 have hi3 : i2 = 7 ∨ i2 = 11 := by simpa using hi2
 clear hi2
 rcases hi3 with rfl | rfl
 ·refine wpOp_step rfl (fun K hK => ite_yes rfl ?_)
  simp only [sa, sb, sc]
  go_simp
  refine (HP.out U3 uU3).mono ?_
  rintro _ V1 ⟨rfl, cV1⟩
  have uV1 : Below w.heap.size w V1 := uU3.trans (cV1.mono uU3.size)
  have bV1 := (cV1.block _ (hblk bU3)).trans bU3
  have aV1 := (cV1.block _ (hblk aU3)).trans aU3
  have rV1 := (cV1.block _ (hblk rU3)).trans rU3
  go_simp
  have hSV1 : (∀ j, V1.cell? ⟨w.heap.size, j, none⟩ = (#[.int .i64 9, .string t, .int .i64 0, .int .u64 0, .string ⟨#[]⟩, .int .i64 ((m : Int) + 1), .int .i64 0, .int .i64 0, .int .i64 0, .slice pp pl pc, .slice none 0 0] : Array Value)[j]?) ∧ (∀ j, V1.cell? ⟨ab, j, none⟩ = (#[h0, h1, h2, h3, h4, h5, h6, h7, h8, h9, h10] : Array Value)[j]?) := ⟨(cells_of bV1).1, (cells_of aV1).1⟩
  refine hK _ _ ⟨hSV1, ?_⟩
  clear hK K hS
  have hS := hSV1
  clear hSV1
  try simp only [Act.put, sd, se, sf]
  refine tq 8 (.tuple #[.agg #[.int .i64 k, .string t, .int .i64 a, .int .u64 f, .string s, .int .i64 r0, .int .i64 r1, .int .i64 r2, .int .i64 r3, .slice qp qpath.length qc, .slice ip items.length ic], .bool true]) rfl hS ?_
  simp only [sa, sb, sc, Act.put, sd, se, sf]
  refine tq 9 (.agg #[.int .i64 k, .string t, .int .i64 a, .int .u64 f, .string s, .int .i64 r0, .int .i64 r1, .int .i64 r2, .int .i64 r3, .slice qp qpath.length qc, .slice ip items.length ic]) rfl hS ?_
  simp only [sa, sb, sc, Act.put, sd, se, sf]
  refine tq 10 (.bool true) rfl hS ?_
  simp only [sa, sb, sc, Act.put, sd, se, sf]
  refine one 11 rfl (fun K hK => ?_)
  simp only [sa, sb, sc]
  go_simp
  obtain ⟨V2, hV2, cV2, _, nV2⟩ := an V1 (.cells #[.int .i64 0, .string ⟨#[]⟩, .int .i64 0, .int .u64 0, .string ⟨#[]⟩, .int .i64 0, .int .i64 0, .int .i64 0, .int .i64 0, .slice none 0 0, .slice none 0 0] 32)
  rw [← hV2]
  clear hV2
  have uV2 : Below w.heap.size w V2 := uV1.trans (cV2.mono uV1.size)
  have bV2 := (cV2.block _ (hblk bV1)).trans bV1
  have aV2 := (cV2.block _ (hblk aV1)).trans aV1
  have rV2 := (cV2.block _ (hblk rV1)).trans rV1
  have hSV2 : (∀ j, V2.cell? ⟨w.heap.size, j, none⟩ = (#[.int .i64 9, .string t, .int .i64 0, .int .u64 0, .string ⟨#[]⟩, .int .i64 ((m : Int) + 1), .int .i64 0, .int .i64 0, .int .i64 0, .slice pp pl pc, .slice none 0 0] : Array Value)[j]?) ∧ (∀ j, V2.cell? ⟨ab, j, none⟩ = (#[h0, h1, h2, h3, h4, h5, h6, h7, h8, h9, h10] : Array Value)[j]?) := ⟨(cells_of bV2).1, (cells_of aV2).1⟩
  refine hK _ _ ⟨hSV2, ?_⟩
  clear hK K hS
  have hS := hSV2
  clear hSV2
  try simp only [Act.put, sd, se, sf]
  have hnb : w.heap.size + 1 < V1.heap.size ∧ ab < V1.heap.size := ⟨hblk rV1, hblk aV1⟩
  obtain ⟨nc, nf⟩ := cells_of nV2
  refine one 12 rfl (fun K hK => ?_)
  simp only [sa, sb, sc]
  go_simp
  have kV3 := kp_eleven V2 (V1.heap.size) (.int .i64 k) (.string t) (.int .i64 a) (.int .u64 f) (.string s) (.int .i64 r0) (.int .i64 r1) (.int .i64 r2) (.int .i64 r3) (.slice qp qpath.length qc) (.slice ip items.length ic)
  have hrV3 := eleven_set nV2 (.int .i64 k) (.string t) (.int .i64 a) (.int .u64 f) (.string s) (.int .i64 r0) (.int .i64 r1) (.int .i64 r2) (.int .i64 r3) (.slice qp qpath.length qc) (.slice ip items.length ic)
  obtain ⟨V3, hV3⟩ : ∃ W, W = (((((((((((V2.setCell ⟨V1.heap.size, 0, none⟩ (.int .i64 k)).setCell ⟨V1.heap.size, 1, none⟩ (.string t)).setCell ⟨V1.heap.size, 2, none⟩ (.int .i64 a)).setCell ⟨V1.heap.size, 3, none⟩ (.int .u64 f)).setCell ⟨V1.heap.size, 4, none⟩ (.string s)).setCell ⟨V1.heap.size, 5, none⟩ (.int .i64 r0)).setCell ⟨V1.heap.size, 6, none⟩ (.int .i64 r1)).setCell ⟨V1.heap.size, 7, none⟩ (.int .i64 r2)).setCell ⟨V1.heap.size, 8, none⟩ (.int .i64 r3)).setCell ⟨V1.heap.size, 9, none⟩ (.slice qp qpath.length qc)).setCell ⟨V1.heap.size, 10, none⟩ (.slice ip items.length ic)) := ⟨_, rfl⟩
  rw [← hV3] at kV3 hrV3 ⊢
  clear hV3
  have rcV3 := (cells_of hrV3).1
  have uV3 : Below w.heap.size w V3 := uV2.trans (kV3.below uV2.size fun i hi e => by have := hnb; omega)
  have bV3 := (kV3.block _ (hblk bV2) (fun e => by have := hnb; omega)).trans bV2
  have aV3 := (kV3.block _ (hblk aV2) (fun e => by have := hnb; omega)).trans aV2
  have rV3 := (kV3.block _ (hblk rV2) (fun e => by have := hnb; omega)).trans rV2
  have hSV3 : (∀ j, V3.cell? ⟨w.heap.size, j, none⟩ = (#[.int .i64 9, .string t, .int .i64 0, .int .u64 0, .string ⟨#[]⟩, .int .i64 ((m : Int) + 1), .int .i64 0, .int .i64 0, .int .i64 0, .slice pp pl pc, .slice none 0 0] : Array Value)[j]?) ∧ (∀ j, V3.cell? ⟨ab, j, none⟩ = (#[h0, h1, h2, h3, h4, h5, h6, h7, h8, h9, h10] : Array Value)[j]?) := ⟨(cells_of bV3).1, (cells_of aV3).1⟩
  refine hK _ _ ⟨hSV3, ?_⟩
  clear hK K hS
  have hS := hSV3
  clear hSV3
  try simp only [Act.put, sd, se, sf]
  refine one 13 rfl (fun K hK => ?_)
  simp only [sa, sb, sc]
  go_simp
  refine hK _ _ ⟨hS, ?_⟩
  clear hK K hS
  try simp only [Act.put, sd, se, sf]
  refine dn ?_
  try simp only [Act.put]
  go_wp2_with fail
  clear HP HO
  refine ((copiedH_any n) ⟨⟨k, t, a, f, s, r0, r1, r2, r3, qp, qpath, qc⟩, ip, ic, items⟩ V3 (MD.In.mono uV3.size n _ (MD.In.below uV3 n _ hin)) hf).mono ?_
  rintro _ X1 ⟨⟨⟨k1, t1, a1, f1, s1, x0, x1, x2, x3, pp1, path1, pc1⟩, ip1, ic1, items1⟩, rfl, di, dab, ds, cX1, _⟩
  have uX1 : Below w.heap.size w X1 := uV3.trans (cX1.mono uV3.size)
  have rX1 := (cX1.block _ (hblk rV3)).trans rV3
  have zX1 : w.heap.size + 1 < V3.heap.size := hblk rV3
  obtain ⟨rcX1, rfX1⟩ := cells_of rX1
  have HI : Hid _ := di
  have HS2 : Hid _ := ds
  have HA2 : Hid _ := dab
  clear di ds dab
  simp only [MD.val, D]
  go_wp2_with fail
  have kX2 := kp_eleven X1 (w.heap.size + 1) (.int .i64 k1) (.string t1) (.int .i64 a1) (.int .u64 f1) (.string s1) (.int .i64 x0) (.int .i64 x1) (.int .i64 x2) (.int .i64 x3) (.slice pp1 path1.length pc1) (.slice ip1 items1.length ic1)
  have hrX2 := eleven_set rX1 (.int .i64 k1) (.string t1) (.int .i64 a1) (.int .u64 f1) (.string s1) (.int .i64 x0) (.int .i64 x1) (.int .i64 x2) (.int .i64 x3) (.slice pp1 path1.length pc1) (.slice ip1 items1.length ic1)
  obtain ⟨X2, hX2⟩ : ∃ W, W = (((((((((((X1.setCell ⟨w.heap.size + 1, 0, none⟩ (.int .i64 k1)).setCell ⟨w.heap.size + 1, 1, none⟩ (.string t1)).setCell ⟨w.heap.size + 1, 2, none⟩ (.int .i64 a1)).setCell ⟨w.heap.size + 1, 3, none⟩ (.int .u64 f1)).setCell ⟨w.heap.size + 1, 4, none⟩ (.string s1)).setCell ⟨w.heap.size + 1, 5, none⟩ (.int .i64 x0)).setCell ⟨w.heap.size + 1, 6, none⟩ (.int .i64 x1)).setCell ⟨w.heap.size + 1, 7, none⟩ (.int .i64 x2)).setCell ⟨w.heap.size + 1, 8, none⟩ (.int .i64 x3)).setCell ⟨w.heap.size + 1, 9, none⟩ (.slice pp1 path1.length pc1)).setCell ⟨w.heap.size + 1, 10, none⟩ (.slice ip1 items1.length ic1)) := ⟨_, rfl⟩
  rw [← hX2] at kX2 hrX2 ⊢
  clear hX2
  have rcX2 := (cells_of hrX2).1
  have uX2 : Below w.heap.size w X2 := uX1.trans (kX2.below uX1.size fun i hi e => by omega)
  have di2 := MD.In.mono kX2.size n _ (MD.In.aloft (fun b hlo hB => kX2.block b hB (by omega)) n _ HI.out HA2.out)
  exact bodyPost_ret (v := .tuple #[(⟨⟨k1, t1, a1, f1, s1, x0, x1, x2, x3, pp1, path1, pc1⟩, ip1, ic1, items1⟩ : MD).val, .nilIface]) (by simp [results, Tryz.results17, go_sem, rcX2, MD.val, D]) rfl ⟨_, rfl, di2, MD.Above.mono (by omega) n _ HA2.out, HS2.out, uX2⟩
 ·refine wpOp_step rfl (fun K hK => ite_yes rfl ?_)
  simp only [sa, sb, sc]
  go_simp
  obtain ⟨V1, hV1, cV1, _, nV1⟩ := an U3 (.cells #[.int .i64 0, .string ⟨#[]⟩, .int .i64 0, .int .u64 0, .string ⟨#[]⟩, .int .i64 0, .int .i64 0, .int .i64 0, .int .i64 0, .slice none 0 0, .slice none 0 0] 32)
  rw [← hV1]
  clear hV1
  have uV1 : Below w.heap.size w V1 := uU3.trans (cV1.mono uU3.size)
  have bV1 := (cV1.block _ (hblk bU3)).trans bU3
  have aV1 := (cV1.block _ (hblk aU3)).trans aU3
  have rV1 := (cV1.block _ (hblk rU3)).trans rU3
  have hSV1 : (∀ j, V1.cell? ⟨w.heap.size, j, none⟩ = (#[.int .i64 9, .string t, .int .i64 0, .int .u64 0, .string ⟨#[]⟩, .int .i64 ((m : Int) + 1), .int .i64 0, .int .i64 0, .int .i64 0, .slice pp pl pc, .slice none 0 0] : Array Value)[j]?) ∧ (∀ j, V1.cell? ⟨ab, j, none⟩ = (#[h0, h1, h2, h3, h4, h5, h6, h7, h8, h9, h10] : Array Value)[j]?) := ⟨(cells_of bV1).1, (cells_of aV1).1⟩
  refine hK _ _ ⟨hSV1, ?_⟩
  clear hK K hS
  have hS := hSV1
  clear hSV1
  try simp only [Act.put, sd, se, sf]
  refine one 7 rfl (fun K hK => ?_)
  simp only [sa, sb, sc]
  go_simp
  refine (HP.out V1 uV1).mono ?_
  rintro _ V2 ⟨rfl, cV2⟩
  have uV2 : Below w.heap.size w V2 := uV1.trans (cV2.mono uV1.size)
  have bV2 := (cV2.block _ (hblk bV1)).trans bV1
  have aV2 := (cV2.block _ (hblk aV1)).trans aV1
  have rV2 := (cV2.block _ (hblk rV1)).trans rV1
  have nV2 := (cV2.block _ (hblk nV1)).trans nV1
  go_simp
  have hSV2 : (∀ j, V2.cell? ⟨w.heap.size, j, none⟩ = (#[.int .i64 9, .string t, .int .i64 0, .int .u64 0, .string ⟨#[]⟩, .int .i64 ((m : Int) + 1), .int .i64 0, .int .i64 0, .int .i64 0, .slice pp pl pc, .slice none 0 0] : Array Value)[j]?) ∧ (∀ j, V2.cell? ⟨ab, j, none⟩ = (#[h0, h1, h2, h3, h4, h5, h6, h7, h8, h9, h10] : Array Value)[j]?) := ⟨(cells_of bV2).1, (cells_of aV2).1⟩
  refine hK _ _ ⟨hSV2, ?_⟩
  clear hK K hS
  have hS := hSV2
  clear hSV2
  try simp only [Act.put, sd, se, sf]
  refine tq 8 (.tuple #[.agg #[.int .i64 k, .string t, .int .i64 a, .int .u64 f, .string s, .int .i64 r0, .int .i64 r1, .int .i64 r2, .int .i64 r3, .slice qp qpath.length qc, .slice ip items.length ic], .bool true]) rfl hS ?_
  simp only [sa, sb, sc, Act.put, sd, se, sf]
  refine tq 9 (.agg #[.int .i64 k, .string t, .int .i64 a, .int .u64 f, .string s, .int .i64 r0, .int .i64 r1, .int .i64 r2, .int .i64 r3, .slice qp qpath.length qc, .slice ip items.length ic]) rfl hS ?_
  simp only [sa, sb, sc, Act.put, sd, se, sf]
  refine tq 10 (.bool true) rfl hS ?_
  simp only [sa, sb, sc, Act.put, sd, se, sf]
  have hnb : w.heap.size + 1 < U3.heap.size ∧ ab < U3.heap.size := ⟨hblk rU3, hblk aU3⟩
  obtain ⟨nc, nf⟩ := cells_of nV2
  refine one 12 rfl (fun K hK => ?_)
  simp only [sa, sb, sc]
  go_simp
  have kV3 := kp_eleven V2 (U3.heap.size) (.int .i64 k) (.string t) (.int .i64 a) (.int .u64 f) (.string s) (.int .i64 r0) (.int .i64 r1) (.int .i64 r2) (.int .i64 r3) (.slice qp qpath.length qc) (.slice ip items.length ic)
  have hrV3 := eleven_set nV2 (.int .i64 k) (.string t) (.int .i64 a) (.int .u64 f) (.string s) (.int .i64 r0) (.int .i64 r1) (.int .i64 r2) (.int .i64 r3) (.slice qp qpath.length qc) (.slice ip items.length ic)
  obtain ⟨V3, hV3⟩ : ∃ W, W = (((((((((((V2.setCell ⟨U3.heap.size, 0, none⟩ (.int .i64 k)).setCell ⟨U3.heap.size, 1, none⟩ (.string t)).setCell ⟨U3.heap.size, 2, none⟩ (.int .i64 a)).setCell ⟨U3.heap.size, 3, none⟩ (.int .u64 f)).setCell ⟨U3.heap.size, 4, none⟩ (.string s)).setCell ⟨U3.heap.size, 5, none⟩ (.int .i64 r0)).setCell ⟨U3.heap.size, 6, none⟩ (.int .i64 r1)).setCell ⟨U3.heap.size, 7, none⟩ (.int .i64 r2)).setCell ⟨U3.heap.size, 8, none⟩ (.int .i64 r3)).setCell ⟨U3.heap.size, 9, none⟩ (.slice qp qpath.length qc)).setCell ⟨U3.heap.size, 10, none⟩ (.slice ip items.length ic)) := ⟨_, rfl⟩
  rw [← hV3] at kV3 hrV3 ⊢
  clear hV3
  have rcV3 := (cells_of hrV3).1
  have uV3 : Below w.heap.size w V3 := uV2.trans (kV3.below uV2.size fun i hi e => by have := hnb; omega)
  have bV3 := (kV3.block _ (hblk bV2) (fun e => by have := hnb; omega)).trans bV2
  have aV3 := (kV3.block _ (hblk aV2) (fun e => by have := hnb; omega)).trans aV2
  have rV3 := (kV3.block _ (hblk rV2) (fun e => by have := hnb; omega)).trans rV2
  have hSV3 : (∀ j, V3.cell? ⟨w.heap.size, j, none⟩ = (#[.int .i64 9, .string t, .int .i64 0, .int .u64 0, .string ⟨#[]⟩, .int .i64 ((m : Int) + 1), .int .i64 0, .int .i64 0, .int .i64 0, .slice pp pl pc, .slice none 0 0] : Array Value)[j]?) ∧ (∀ j, V3.cell? ⟨ab, j, none⟩ = (#[h0, h1, h2, h3, h4, h5, h6, h7, h8, h9, h10] : Array Value)[j]?) := ⟨(cells_of bV3).1, (cells_of aV3).1⟩
  refine hK _ _ ⟨hSV3, ?_⟩
  clear hK K hS
  have hS := hSV3
  clear hSV3
  try simp only [Act.put, sd, se, sf]
  refine one 13 rfl (fun K hK => ?_)
  simp only [sa, sb, sc]
  go_simp
  refine hK _ _ ⟨hS, ?_⟩
  clear hK K hS
  try simp only [Act.put, sd, se, sf]
  refine dn ?_
  try simp only [Act.put]
  go_wp2_with fail
  clear HP HO
  refine ((copiedH_any n) ⟨⟨k, t, a, f, s, r0, r1, r2, r3, qp, qpath, qc⟩, ip, ic, items⟩ V3 (MD.In.mono uV3.size n _ (MD.In.below uV3 n _ hin)) hf).mono ?_
  rintro _ X1 ⟨⟨⟨k1, t1, a1, f1, s1, x0, x1, x2, x3, pp1, path1, pc1⟩, ip1, ic1, items1⟩, rfl, di, dab, ds, cX1, _⟩
  have uX1 : Below w.heap.size w X1 := uV3.trans (cX1.mono uV3.size)
  have rX1 := (cX1.block _ (hblk rV3)).trans rV3
  have zX1 : w.heap.size + 1 < V3.heap.size := hblk rV3
  obtain ⟨rcX1, rfX1⟩ := cells_of rX1
  have HI : Hid _ := di
  have HS2 : Hid _ := ds
  have HA2 : Hid _ := dab
  clear di ds dab
  simp only [MD.val, D]
  go_wp2_with fail
  have kX2 := kp_eleven X1 (w.heap.size + 1) (.int .i64 k1) (.string t1) (.int .i64 a1) (.int .u64 f1) (.string s1) (.int .i64 x0) (.int .i64 x1) (.int .i64 x2) (.int .i64 x3) (.slice pp1 path1.length pc1) (.slice ip1 items1.length ic1)
  have hrX2 := eleven_set rX1 (.int .i64 k1) (.string t1) (.int .i64 a1) (.int .u64 f1) (.string s1) (.int .i64 x0) (.int .i64 x1) (.int .i64 x2) (.int .i64 x3) (.slice pp1 path1.length pc1) (.slice ip1 items1.length ic1)
  obtain ⟨X2, hX2⟩ : ∃ W, W = (((((((((((X1.setCell ⟨w.heap.size + 1, 0, none⟩ (.int .i64 k1)).setCell ⟨w.heap.size + 1, 1, none⟩ (.string t1)).setCell ⟨w.heap.size + 1, 2, none⟩ (.int .i64 a1)).setCell ⟨w.heap.size + 1, 3, none⟩ (.int .u64 f1)).setCell ⟨w.heap.size + 1, 4, none⟩ (.string s1)).setCell ⟨w.heap.size + 1, 5, none⟩ (.int .i64 x0)).setCell ⟨w.heap.size + 1, 6, none⟩ (.int .i64 x1)).setCell ⟨w.heap.size + 1, 7, none⟩ (.int .i64 x2)).setCell ⟨w.heap.size + 1, 8, none⟩ (.int .i64 x3)).setCell ⟨w.heap.size + 1, 9, none⟩ (.slice pp1 path1.length pc1)).setCell ⟨w.heap.size + 1, 10, none⟩ (.slice ip1 items1.length ic1)) := ⟨_, rfl⟩
  rw [← hX2] at kX2 hrX2 ⊢
  clear hX2
  have rcX2 := (cells_of hrX2).1
  have uX2 : Below w.heap.size w X2 := uX1.trans (kX2.below uX1.size fun i hi e => by omega)
  have di2 := MD.In.mono kX2.size n _ (MD.In.aloft (fun b hlo hB => kX2.block b hB (by omega)) n _ HI.out HA2.out)
  exact bodyPost_ret (v := .tuple #[(⟨⟨k1, t1, a1, f1, s1, x0, x1, x2, x3, pp1, path1, pc1⟩, ip1, ic1, items1⟩ : MD).val, .nilIface]) (by simp [results, Tryz.results17, go_sem, rcX2, MD.val, D]) rfl ⟨_, rfl, di2, MD.Above.mono (by omega) n _ HA2.out, HS2.out, uX2⟩
end Go.Proofs.YtdbijkgnddcneaaGreatDoor
namespace Go.Proofs.YtdbijkgnddcneaaGreatDoor
open Go.RowKit Go.ChangeMaps
def pairD (g : Nat) (x y : Int) : MD := ⟨⟨8, ⟨#[83]⟩, 0, 0, ⟨#[]⟩, 0, 0, 0, 0, none, [], 0⟩, some ⟨g, 0, none⟩, 2, [wholeD x, wholeD y]⟩
theorem pairD_fine (g : Nat) (x y : Int) : MD.Fine (pairD g x y).h := by
 refine ⟨?_, ?_, ?_, ?_, ?_, ?_, ?_, ?_, ?_, ?_, ?_, ?_, ?_, ?_, ?_, ?_, ?_, ?_⟩ <;> simp [pairD, maxLen, ByteArray.size]
theorem pairD_in {g : Nat} {x y : Int} {w : World} (hx : FlatR (wholeD x)) (hy : FlatR (wholeD y)) (hg : w.heap[g]? = some (.cells #[.int .i64 2, .string ⟨#[105, 110, 116]⟩, .int .i64 x, .int .u64 0, .string ⟨#[]⟩, .int .i64 0, .int .i64 0, .int .i64 0, .int .i64 0, .slice none 0 0, .slice none 0 0, .int .i64 2, .string ⟨#[105, 110, 116]⟩, .int .i64 y, .int .u64 0, .string ⟨#[]⟩, .int .i64 0, .int .i64 0, .int .i64 0, .int .i64 0, .slice none 0 0, .slice none 0 0] 32 (0, 0))) : MD.In w.heap.size w 5 (pairD g x y) := by
 have hc := (cells_of hg).1
 refine ⟨pairD_fine g x y, ⟨fun z hz => (by cases hz), .inl rfl⟩, Nat.le_refl _, by simp [pairD, maxLen], .inr ⟨g, 0, rfl, hblk hg, fun i hi => ?_⟩⟩
 have hi2 : i = 0 ∨ i = 1 := by have : i < 2 := hi; omega
 rcases hi2 with rfl | rfl
 ·refine ⟨fun j hj => ?_, hx.inn _ _⟩
  rw [hc]
  have : j = 0 ∨ j = 1 ∨ j = 2 ∨ j = 3 ∨ j = 4 ∨ j = 5 ∨ j = 6 ∨ j = 7 ∨ j = 8 ∨ j = 9 ∨ j = 10 := by omega
  rcases this with rfl | rfl | rfl | rfl | rfl | rfl | rfl | rfl | rfl | rfl | rfl <;> rfl
 ·refine ⟨fun j hj => ?_, hy.inn _ _⟩
  rw [hc]
  have : j = 0 ∨ j = 1 ∨ j = 2 ∨ j = 3 ∨ j = 4 ∨ j = 5 ∨ j = 6 ∨ j = 7 ∨ j = 8 ∨ j = 9 ∨ j = 10 := by omega
  rcases this with rfl | rfl | rfl | rfl | rfl | rfl | rfl | rfl | rfl | rfl | rfl <;> rfl
theorem full_of {n : Nat} {d : MD} (h : MD.right n d = true) : MD.full n d = true := by
 unfold MD.right at h
 exact (Bool.and_eq_true _ _ ▸ h).1
theorem pairD_full {g : Nat} {x y : Int} (hx : FlatR (wholeD x)) (hy : FlatR (wholeD y)) : MD.full 5 (pairD g x y) = true := by
 have h1 := full_of hx.right
 have h2 := full_of hy.right
 show (headOK (pairD g x y).h 2 && ((pairD g x y).h.k != 8 || (decide (2 ≤ 30) && [wholeD x, wholeD y].all (MD.full 4)))) = true
 have h3 : headOK (pairD g x y).h 2 = true := (by decide +kernel : headOK ⟨8, ⟨#[83]⟩, 0, 0, ⟨#[]⟩, 0, 0, 0, 0, none, [], 0⟩ 2 = true)
 simp [h3, h1, h2]
theorem pairD_right {g : Nat} {x y : Int} (hx : FlatR (wholeD x)) (hy : FlatR (wholeD y)) : MD.right 5 (pairD g x y) = true := by
 unfold MD.right
 rw [pairD_full hx hy]
 rfl
theorem all2_comm {α : Type} {f : α → α → Bool} (hf : ∀ a b, f a b = true → f b a = true) : ∀ (l m : List α), all2 f l m = true → all2 f m l = true
 | [], [], _ => rfl
 | [], _ :: _, _ => rfl
 | _ :: _, [], _ => rfl
 | a :: l, b :: m, h => by
  unfold all2 at h ⊢
  rw [Bool.and_eq_true] at h ⊢
  exact ⟨hf _ _ h.1, all2_comm hf l m h.2⟩
theorem same_comm : ∀ (n : Nat) (a b : MD), MD.same n a b = true → MD.same n b a = true
 | 0, _, _, _ => rfl
 | n + 1, a, b, h => by
  unfold MD.same at h ⊢
  rw [Bool.and_eq_true, Bool.and_eq_true] at h ⊢
  refine ⟨⟨?_, ?_⟩, all2_comm (same_comm n) _ _ h.2⟩
  ·have h1 := h.1.1
   unfold sameH at h1 ⊢
   rw [decide_eq_true_eq] at h1 ⊢
   obtain ⟨a1, a2, a3, a4, a5, a6, a7, a8, a9, a10, a11⟩ := h1
   exact ⟨a1.symm, a2.symm, a3.symm, a4.symm, a5.symm, a6.symm, a7.symm, a8.symm, a9.symm, a10.symm, a11.symm⟩
  ·have h1 := h.1.2
   rw [decide_eq_true_eq] at h1 ⊢
   exact h1.symm
theorem pair_same (g g' : Nat) (x y : Int) : MD.same 5 (pairD g x y) (pairD g' x y) = true := by
 show (sameH (pairD g x y).h (pairD g x y).h 2 2 && decide (([] : List Int) = []) && all2 (MD.same 4) [wholeD x, wholeD y] [wholeD x, wholeD y]) = true
 simp [sameH_self, same_self, all2]
theorem Read_whole (hb M : Nat) (vs : List Value) (m ab : Nat) (hm : vs[m]? = some (.iface 84 (.pointer (some ⟨ab, 0, none⟩)))) (hF : FlatR (leadD 9 ⟨#[83]⟩ ((m : Int) + 1) 0 0 0)) (g : Nat) (x y : Int) (hx : FlatR (wholeD x)) (hy : FlatR (wholeD y)) (d : MD) (hd : MD.same 5 (pairD g x y) d = true) (w : World) (hN : NamesAt w) (h : HeapAt w hb M vs) (ha : w.heap[ab]? = some (.cells d.cells 86)) (hin : MD.In w.heap.size w 5 d) :
  Calls Tryz.prog 17 #[.pointer (some ⟨hb, 0, none⟩), .agg #[.int .i64 9, .string ⟨#[83]⟩, .int .i64 0, .int .u64 0, .string ⟨#[]⟩, .int .i64 ((m : Int) + 1), .int .i64 0, .int .i64 0, .int .i64 0, .slice none 0 0, .slice none 0 0]] w fun r w' => ∃ d' : MD, r = .returned (.tuple #[d'.val, .nilIface]) ∧ MD.In w'.heap.size w' 5 d' ∧ MD.Above w.heap.size 5 d' ∧ MD.same 5 (pairD g x y) d' = true ∧ Below w.heap.size w w' := by
 obtain ⟨⟨k, t, a, f, s, r0, r1, r2, r3, qp, qpath, qc⟩, ip, ic, items⟩ := d
 have ht : t = ⟨#[83]⟩ := (same_parts hd).2.1
 subst ht
 have hfull : MD.full 5 ⟨⟨k, ⟨#[83]⟩, a, f, s, r0, r1, r2, r3, qp, qpath, qc⟩, ip, ic, items⟩ = true := (same_full 5 _ _ hd) ▸ pairD_full hx hy
 have HR0 : ∀ W, Below w.heap.size w W → Calls Tryz.prog 39 #[.agg #[.int .i64 9, .string ⟨#[83]⟩, .int .i64 0, .int .u64 0, .string ⟨#[]⟩, .int .i64 ((m : Int) + 1), .int .i64 0, .int .i64 0, .int .i64 0, .slice none 0 0, .slice none 0 0]] W fun r w' => r = .returned (.bool true) ∧ Below W.heap.size W w' := fun W hW => by
  have := Right_any 4 (leadD 9 ⟨#[83]⟩ ((m : Int) + 1) 0 0 0) W (hN.kept hW) (hF.inn _ _)
  rw [hF.right] at this
  exact this
 have hp := fun W => partOf_none k ⟨#[83]⟩ a f s r0 r1 r2 r3 qp qpath.length qc ip items.length ic W
 have HF0 := fun W (hW : Below w.heap.size w W) => fits_ptr hb M vs m ab hm ⟨#[83]⟩ none 0 0 _ _ _ _ _ _ _ _ _ _ _ k a f s r0 r1 r2 r3 qp qpath.length qc ip items.length ic W (h.below hW) ((hW.block _ (hblk ha)).trans ha) (fun V hV => HR0 V (hW.trans (hV.mono hW.size))) (fun V _ => hp V)
 have HO0 := fun W (hW : Below w.heap.size w W) => object_ptr hb M vs m ab hm ⟨#[83]⟩ none 0 0 W (h.below hW) (fun V hV => HF0 V (hW.trans (hV.mono hW.size)))
 refine (Read_ptr hb M vs m ab ⟨#[83]⟩ none 0 0 _ _ _ _ _ _ _ _ _ _ _ k a f s r0 r1 r2 r3 qp qpath qc ip ic items 5 w h ha HO0 (fun V _ => hp V) hin hfull).mono ?_
 rintro r w' ⟨d', h1, h2, h3, h4, h5⟩
 exact ⟨d', h1, h2, h3, same_trans 5 _ _ _ hd h4, h5⟩
end Go.Proofs.YtdbijkgnddcneaaGreatDoor
namespace Go.Proofs.YtdbijkgnddcneaaGreatDoor
open Go.RowKit Go.ChangeMaps
def pairE (g : Nat) (a b : MD) : MD := ⟨⟨8, ⟨#[83]⟩, 0, 0, ⟨#[]⟩, 0, 0, 0, 0, none, [], 0⟩, some ⟨g, 0, none⟩, 2, [a, b]⟩
def tow (base : MD) : Nat → MD
 | 0 => base
 | j + 1 => pairE 0 (wholeD (j : Int)) (tow base j)
theorem pairE_fine (g : Nat) (a b : MD) : MD.Fine (pairE g a b).h := by
 refine ⟨?_, ?_, ?_, ?_, ?_, ?_, ?_, ?_, ?_, ?_, ?_, ?_, ?_, ?_, ?_, ?_, ?_, ?_⟩ <;> simp [pairE, maxLen, ByteArray.size]
theorem pairE_in {n g B : Nat} {a b : MD} {w : World} (ha : MD.In B w n a) (hb : MD.In B w n b) (hgB : g < B) (hg : w.heap[g]? = some (.cells (rowOf [a, b]).toArray 32)) : MD.In B w (n + 1) (pairE g a b) := by
 refine ⟨pairE_fine g a b, ⟨fun z hz => (by cases hz), .inl rfl⟩, Nat.le_refl _, by simp [pairE, maxLen], .inr ⟨g, 0, rfl, hgB, fun i hi => ?_⟩⟩
 have hi2 : i = 0 ∨ i = 1 := by have : i < 2 := hi; omega
 have hc : ∀ (i : Nat) (hi : i < [a, b].length), MD.CellsAt w g (0 + i * 11) [a, b][i] := fun i hi => by
  rw [Nat.zero_add]
  exact rowOf_at hg (by rw [List.toList_toArray, ← rowOf_length, List.take_length]) i hi
 rcases hi2 with rfl | rfl
 ·exact ⟨hc 0 (by simp), ha⟩
 ·exact ⟨hc 1 (by simp), hb⟩
theorem pairE_head : headOK ⟨8, ⟨#[83]⟩, 0, 0, ⟨#[]⟩, 0, 0, 0, 0, none, [], 0⟩ 2 = true := by decide +kernel
theorem pairE_full {n g : Nat} {a b : MD} (ha : MD.full n a = true) (hb : MD.full n b = true) : MD.full (n + 1) (pairE g a b) = true := by
 show (headOK (pairE g a b).h 2 && ((pairE g a b).h.k != 8 || (decide (2 ≤ 30) && [a, b].all (MD.full n)))) = true
 have h3 : headOK (pairE g a b).h 2 = true := pairE_head
 simp [h3, ha, hb]
theorem pairE_size (n g : Nat) (a b : MD) : MD.size (n + 1) (pairE g a b) = 1 + (MD.size n a + MD.size n b) := by
 show 1 + (if (8 : Int) = 8 then ([a, b].map (MD.size n)).sum else 0) = _
 simp
theorem flat_size {d : MD} (h : d.h.k ≠ 8) (n : Nat) : MD.size n d = 1 := by
 cases n with
 | zero => rfl
 | succ n => show 1 + (if d.h.k = 8 then _ else 0) = 1; rw [if_neg h]
theorem whole_k (z : Int) : (wholeD z).h.k ≠ 8 := (by decide : (2 : Int) ≠ 8)
theorem flat_full {d : MD} (h : FlatR d) (hk : d.h.k ≠ 8) : ∀ n : Nat, 0 < n → MD.full n d = true
 | n + 1, _ => by
  have h1 : MD.full 4 d = true := full_of h.right
  unfold MD.full at h1 ⊢
  have hk2 : (d.h.k != 8) = true := by simpa using hk
  rw [hk2] at h1 ⊢
  exact h1
theorem flat_in1 {d : MD} (h : FlatR d) (n B : Nat) (w : World) : MD.In B w (5 + n) d := MD.In.more 4 (5 + n) d (by omega) (h.inn B w)
theorem pairE_same {n g g' : Nat} {a b a' b' : MD} (ha : MD.same n a a' = true) (hb : MD.same n b b' = true) : MD.same (n + 1) (pairE g a b) (pairE g' a' b') = true := by
 show (sameH (pairE g a b).h (pairE g a b).h 2 2 && decide (([] : List Int) = []) && all2 (MD.same n) [a, b] [a', b']) = true
 simp [sameH_self, ha, hb, all2]
theorem same_pairE {n g : Nat} {a b d : MD} (h : MD.same (n + 1) (pairE g a b) d = true) : ∃ a' b', d.items = [a', b'] ∧ MD.same n a a' = true ∧ MD.same n b b' = true ∧ d.h.k = 8 ∧ d.h.t = ⟨#[83]⟩ := by
 have h' : (sameH (pairE g a b).h d.h 2 d.items.length && decide (([] : List Int) = d.h.path) && all2 (MD.same n) [a, b] d.items) = true := h
 rw [Bool.and_eq_true, Bool.and_eq_true] at h'
 obtain ⟨⟨h1, _⟩, h3⟩ := h'
 simp only [sameH, decide_eq_true_eq] at h1
 obtain ⟨e1, e2, _, _, _, _, _, _, _, _, e3⟩ := h1
 rcases hi : d.items with _ | ⟨a', _ | ⟨b', _ | ⟨c, l⟩⟩⟩
 ·rw [hi] at e3; simp at e3
 ·rw [hi] at e3; simp at e3
 ·rw [hi] at h3
  simp only [all2, Bool.and_eq_true] at h3
  exact ⟨a', b', rfl, h3.1, h3.2.1, e1.symm, e2.symm⟩
 ·rw [hi] at e3; simp at e3
theorem same_flat {n : Nat} {z : Int} {d : MD} (h : MD.same (n + 1) (wholeD z) d = true) : d.h.k = 2 ∧ d.h.n = z ∧ d.items = [] ∧ d.h.path = [] := by
 have h' : (sameH (wholeD z).h d.h 0 d.items.length && decide (([] : List Int) = d.h.path) && all2 (MD.same n) [] d.items) = true := h
 rw [Bool.and_eq_true, Bool.and_eq_true] at h'
 obtain ⟨⟨h1, h2⟩, _⟩ := h'
 simp only [sameH, decide_eq_true_eq] at h1 h2
 obtain ⟨e1, _, e2, _, _, _, _, _, _, _, e3⟩ := h1
 exact ⟨e1.symm, e2.symm, List.eq_nil_of_length_eq_zero e3.symm, h2.symm⟩
theorem tow_full {base : MD} (hb : MD.full 5 base = true) : ∀ j : Nat, j < 1000 → MD.full (5 + j) (tow base j) = true
 | 0, _ => hb
 | j + 1, h => pairE_full (flat_full (FlatR.whole (j : Int) (by omega) (by omega)) (whole_k _) (5 + j) (by omega)) (tow_full hb j (by omega))
theorem tow_size (base : MD) : ∀ j : Nat, MD.size (5 + j) (tow base j) = 2 * j + MD.size 5 base
 | 0 => by simp [tow]
 | j + 1 => by
  show MD.size (5 + j + 1) (pairE 0 (wholeD (j : Int)) (tow base j)) = _
  rw [pairE_size, tow_size base j, flat_size (whole_k _)]
  omega
theorem tow_right {base : MD} (hb : MD.full 5 base = true) (hs : MD.size 5 base = 3) (j : Nat) (hj : j ≤ 7) : MD.right (5 + j) (tow base j) = true := by
 unfold MD.right
 rw [tow_full hb j (by omega), tow_size, hs]
 simp
 omega
theorem tow_parts {base : MD} {j : Nat} {d : MD} (h : MD.same (5 + (j + 1)) (tow base (j + 1)) d = true) : ∃ a b, d.items = [a, b] ∧ MD.same (5 + j) (wholeD (j : Int)) a = true ∧ MD.same (5 + j) (tow base j) b = true ∧ d.h.k = 8 ∧ d.h.t = ⟨#[83]⟩ := same_pairE (n := 5 + j) h
end Go.Proofs.YtdbijkgnddcneaaGreatDoor
namespace Go.Proofs.YtdbijkgnddcneaaGreatDoor
open Go.RowKit Go.ChangeMaps
set_option maxRecDepth 100000
set_option maxHeartbeats 4000000
attribute [local go_sem] refold2 cell3_0 cell3_1 b28_0 b28_01 nz26 nz23 b32_016
theorem pair_any2 (a b : MD) (w : World) :
  Calls Tryz.prog 15 #[a.val, b.val] w fun r w' => ∃ g, r = .returned (pairE g a b).val ∧ Below w.heap.size w w' ∧ w'.heap[g]? = some (.cells (rowOf [a, b]).toArray 32) ∧ w.heap.size ≤ g := by
 obtain ⟨⟨k1, t1, n1, f1, s1, x1, y1, z1, u1, pp1, path1, pc1⟩, ip1, ic1, items1⟩ := a
 obtain ⟨⟨k2, t2, n2, f2, s2, x2, y2, z2, u2, pp2, path2, pc2⟩, ip2, ic2, items2⟩ := b
 simp only [MD.val, D]
 go_enter Tryz.func15, Tryz.ntmps15
 go_wp2_with fail
 obtain ⟨U0, hU0⟩ : ∃ W, W = (((w.alloc (.cells #[.int .i64 k1, .string t1, .int .i64 n1, .int .u64 f1, .string s1, .int .i64 x1, .int .i64 y1, .int .i64 z1, .int .i64 u1, .slice pp1 path1.length pc1, .slice ip1 items1.length ic1] 32)).alloc (.cells #[.int .i64 k2, .string t2, .int .i64 n2, .int .u64 f2, .string s2, .int .i64 x2, .int .i64 y2, .int .i64 z2, .int .i64 u2, .slice pp2 path2.length pc2, .slice ip2 items2.length ic2] 32)).alloc (.cells #[.int .i64 8, .string ⟨#[83]⟩, .int .i64 0, .int .u64 0, .string ⟨#[]⟩, .int .i64 0, .int .i64 0, .int .i64 0, .int .i64 0, .slice none 0 0, .slice (some ⟨w.heap.size + 1 + 1 + 1, 0, none⟩) 2 2] 32)).alloc (.cells #[.int .i64 k1, .string t1, .int .i64 n1, .int .u64 f1, .string s1, .int .i64 x1, .int .i64 y1, .int .i64 z1, .int .i64 u1, .slice pp1 path1.length pc1, .slice ip1 items1.length ic1, .int .i64 k2, .string t2, .int .i64 n2, .int .u64 f2, .string s2, .int .i64 x2, .int .i64 y2, .int .i64 z2, .int .i64 u2, .slice pp2 path2.length pc2, .slice ip2 items2.length ic2] 32) := ⟨_, rfl⟩
 rw [← hU0]
 have u0 : Below w.heap.size w U0 := by rw [hU0]; exact (below3 w _ _ _).trans ((below1 _ _).mono (by simp; omega))
 have z0 : U0.heap[w.heap.size + 1 + 1]? = some (.cells #[.int .i64 8, .string ⟨#[83]⟩, .int .i64 0, .int .u64 0, .string ⟨#[]⟩, .int .i64 0, .int .i64 0, .int .i64 0, .int .i64 0, .slice none 0 0, .slice (some ⟨w.heap.size + 1 + 1 + 1, 0, none⟩) 2 2] 32) := by
  rw [hU0, Below.heap_alloc _ _ _ (by simp)]
  have := heap_alloc_new ((w.alloc (.cells #[.int .i64 k1, .string t1, .int .i64 n1, .int .u64 f1, .string s1, .int .i64 x1, .int .i64 y1, .int .i64 z1, .int .i64 u1, .slice pp1 path1.length pc1, .slice ip1 items1.length ic1] 32)).alloc (.cells #[.int .i64 k2, .string t2, .int .i64 n2, .int .u64 f2, .string s2, .int .i64 x2, .int .i64 y2, .int .i64 z2, .int .i64 u2, .slice pp2 path2.length pc2, .slice ip2 items2.length ic2] 32)) (.cells #[.int .i64 8, .string ⟨#[83]⟩, .int .i64 0, .int .u64 0, .string ⟨#[]⟩, .int .i64 0, .int .i64 0, .int .i64 0, .int .i64 0, .slice none 0 0, .slice (some ⟨w.heap.size + 1 + 1 + 1, 0, none⟩) 2 2] 32)
  simpa using this
 have y0 : U0.heap[w.heap.size + 1 + 1 + 1]? = some (.cells #[.int .i64 k1, .string t1, .int .i64 n1, .int .u64 f1, .string s1, .int .i64 x1, .int .i64 y1, .int .i64 z1, .int .i64 u1, .slice pp1 path1.length pc1, .slice ip1 items1.length ic1, .int .i64 k2, .string t2, .int .i64 n2, .int .u64 f2, .string s2, .int .i64 x2, .int .i64 y2, .int .i64 z2, .int .i64 u2, .slice pp2 path2.length pc2, .slice ip2 items2.length ic2] 32) := by
  rw [hU0]
  have := heap_alloc_new (((w.alloc (.cells #[.int .i64 k1, .string t1, .int .i64 n1, .int .u64 f1, .string s1, .int .i64 x1, .int .i64 y1, .int .i64 z1, .int .i64 u1, .slice pp1 path1.length pc1, .slice ip1 items1.length ic1] 32)).alloc (.cells #[.int .i64 k2, .string t2, .int .i64 n2, .int .u64 f2, .string s2, .int .i64 x2, .int .i64 y2, .int .i64 z2, .int .i64 u2, .slice pp2 path2.length pc2, .slice ip2 items2.length ic2] 32)).alloc (.cells #[.int .i64 8, .string ⟨#[83]⟩, .int .i64 0, .int .u64 0, .string ⟨#[]⟩, .int .i64 0, .int .i64 0, .int .i64 0, .int .i64 0, .slice none 0 0, .slice (some ⟨w.heap.size + 1 + 1 + 1, 0, none⟩) 2 2] 32)) (.cells #[.int .i64 k1, .string t1, .int .i64 n1, .int .u64 f1, .string s1, .int .i64 x1, .int .i64 y1, .int .i64 z1, .int .i64 u1, .slice pp1 path1.length pc1, .slice ip1 items1.length ic1, .int .i64 k2, .string t2, .int .i64 n2, .int .u64 f2, .string s2, .int .i64 x2, .int .i64 y2, .int .i64 z2, .int .i64 u2, .slice pp2 path2.length pc2, .slice ip2 items2.length ic2] 32)
  simpa using this
 clear hU0
 have zc := (cells_of z0).1
 exact bodyPost_ret (v := .agg #[.int .i64 8, .string ⟨#[83]⟩, .int .i64 0, .int .u64 0, .string ⟨#[]⟩, .int .i64 0, .int .i64 0, .int .i64 0, .int .i64 0, .slice none 0 0, .slice (some ⟨w.heap.size + 1 + 1 + 1, 0, none⟩) 2 2]) (by simp [results, Tryz.results15, go_sem, zc]) rfl ⟨_, rfl, u0, y0, by omega⟩
theorem eleven_over {w : World} {b : Nat} {ty : TypeId} {a0 a1 a2 a3 a4 a5 a6 a7 a8 a9 a10 : Value} (h : w.heap[b]? = some (.cells #[a0, a1, a2, a3, a4, a5, a6, a7, a8, a9, a10] ty)) (v0 v1 v2 v3 v4 v5 v6 v7 v8 v9 v10 : Value) : ((((((((((((w.setCell ⟨b, 0, none⟩ (v0)).setCell ⟨b, 1, none⟩ (v1)).setCell ⟨b, 2, none⟩ (v2)).setCell ⟨b, 3, none⟩ (v3)).setCell ⟨b, 4, none⟩ (v4)).setCell ⟨b, 5, none⟩ (v5)).setCell ⟨b, 6, none⟩ (v6)).setCell ⟨b, 7, none⟩ (v7)).setCell ⟨b, 8, none⟩ (v8)).setCell ⟨b, 9, none⟩ (v9)).setCell ⟨b, 10, none⟩ (v10))).heap[b]? = some (.cells #[v0, v1, v2, v3, v4, v5, v6, v7, v8, v9, v10] ty) := by
 have h10 := heap_set (heap_set (heap_set (heap_set (heap_set (heap_set (heap_set (heap_set (heap_set (heap_set (heap_set h 0 v0) 1 v1) 2 v2) 3 v3) 4 v4) 5 v5) 6 v6) 7 v7) 8 v8) 9 v9) 10 v10
 simpa using h10
end Go.Proofs.YtdbijkgnddcneaaGreatDoor
namespace Go.Proofs.YtdbijkgnddcneaaGreatDoor
open Go.RowKit Go.ChangeMaps
set_option maxRecDepth 100000
set_option maxHeartbeats 4000000
attribute [local go_sem] refold2 cell3_0 cell3_1 b28_0 b28_01 nz26 nz23
def Down : Nat → MD → MD → Prop
 | 0, d, e => d = e
 | i + 1, d, e => ∃ a b, d.items = [a, b] ∧ b.h.k = 8 ∧ Down i b e
def OnesAt (w : World) (pp : Option Addr) (p : Nat) : Prop := p = 0 ∨ ∃ g o, pp = some ⟨g, o, none⟩ ∧ g < w.heap.size ∧ ∀ i, i < p → w.cell? ⟨g, o + i, none⟩ = some (.int .i64 1)
theorem OnesAt.below {w w' : World} {pp : Option Addr} {p : Nat} (h : OnesAt w pp p) (hb : Below w.heap.size w w') : OnesAt w' pp p := by
 rcases h with e | ⟨g, o, e1, e2, e3⟩
 ·exact .inl e
 ·exact .inr ⟨g, o, e1, Nat.lt_of_lt_of_le e2 hb.size, fun i hi => (hb.cell (p := ⟨g, o + i, none⟩) e2).trans (e3 i hi)⟩
def OnRel (p q : Nat) (e : MD) (w : World) (i : Value) (wr : World) : Prop := ∃ (c : Nat) (x : MD), c ≤ p ∧ i = .int .i64 c ∧ Down (p - c) x e ∧ MD.In w.heap.size wr (q + (p - c)) x ∧ wr.heap[w.heap.size]? = some (.cells x.cells 32) ∧ wr.heap[w.heap.size + 1]? = some (.cells #[.int .i64 0, .string ⟨#[]⟩, .int .i64 0, .int .u64 0, .string ⟨#[]⟩, .int .i64 0, .int .i64 0, .int .i64 0, .int .i64 0, .slice none 0 0, .slice none 0 0] 32) ∧ Below w.heap.size w wr
theorem partOf_ones (p q : Nat) (hp : p ≤ 1000) (pp : Option Addr) (pc : Nat) (d e : MD) (w : World) (hD : Down p d e) (hI : MD.In w.heap.size w (q + p) d) (hO : OnesAt w pp p) :
  Calls Tryz.prog 46 #[d.val, .slice pp p pc] w fun r w' => r = .returned (.tuple #[e.val, .bool true]) ∧ Below w.heap.size w w' := by
 obtain ⟨d0, hd0⟩ : ∃ d0, d = d0 := ⟨_, rfl⟩
 obtain ⟨⟨k1, t1, n1, f1, s1, x1, y1, z1, u1, pp1, path1, pc1⟩, ip1, ic1, items1⟩ := d
 simp only [MD.val, D]
 go_enter Tryz.func46, Tryz.ntmps46
 go_wp2_with fail
 obtain ⟨U0, hU0, u0, b0, z0⟩ := an2 w (.cells #[.int .i64 k1, .string t1, .int .i64 n1, .int .u64 f1, .string s1, .int .i64 x1, .int .i64 y1, .int .i64 z1, .int .i64 u1, .slice pp1 path1.length pc1, .slice ip1 items1.length ic1] 32) (.cells #[.int .i64 0, .string ⟨#[]⟩, .int .i64 0, .int .u64 0, .string ⟨#[]⟩, .int .i64 0, .int .i64 0, .int .i64 0, .int .i64 0, .slice none 0 0, .slice none 0 0] 32)
 rw [← hU0]
 clear hU0
 have hR0 : OnRel p q e w (.int .i64 0) U0 := ⟨0, d0, Nat.zero_le _, rfl, by rw [← hd0]; exact hD, by rw [← hd0]; exact MD.In.below u0 _ _ hI, by rw [← hd0]; exact b0, z0, u0⟩
 clear b0 z0 u0 hI hD hd0
 go_loopw [10] (fun i wr => OnRel p q e w i wr) (fun i _ => p - (intOf i).toNat)
 case atStart => exact hR0
 case round =>
  clear hR0
  obtain ⟨c, x, hc, rfl, hD, hI, hb, hz, hu⟩ := hrel
  obtain ⟨⟨k3, t3, n3, f3, s3, x3, y3, z3, u3, pp3, path3, pc3⟩, ip3, ic3, items3⟩ := x
  by_cases hlt : c < p
  ·obtain ⟨r, hr⟩ : ∃ r, p - c = r + 1 := ⟨p - c - 1, by omega⟩
   rw [hr] at hD hI
   obtain ⟨xa, xb, hit, hk8, hD⟩ := hD
   obtain rfl : items3 = [xa, xb] := hit
   obtain ⟨_, _, hl3, _, h5⟩ := hI
   rcases h5 with h5 | ⟨gi, oi, e1, e2, e3⟩
   ·cases h5
   obtain ⟨hC, hI⟩ := e3 1 (by simp)
   clear e3
   obtain rfl : ip3 = some ⟨gi, oi, none⟩ := e1
   obtain ⟨e4, he4⟩ : ∃ e4, xb = e4 := ⟨_, rfl⟩
   have hC2 : MD.CellsAt wr gi (oi + 1 * 11) xb := hC
   have hI2 : MD.In w.heap.size wr (q + r) xb := hI
   clear hC hI
   obtain ⟨⟨k4, t4, n4, f4, s4, x4, y4, z4, u4, pp4, path4, pc4⟩, ip4, ic4, items4⟩ := xb
   obtain rfl : k4 = 8 := hk8
   have c0 : wr.cell? ⟨gi, oi + 1 * 11, none⟩ = some (.int .i64 8) := hC2 0 (by omega)
   have c1 : wr.cell? ⟨gi, oi + 1 * 11 + 1, none⟩ = some (.string t4) := hC2 1 (by omega)
   have c2 : wr.cell? ⟨gi, oi + 1 * 11 + 2, none⟩ = some (.int .i64 n4) := hC2 2 (by omega)
   have c3 : wr.cell? ⟨gi, oi + 1 * 11 + 3, none⟩ = some (.int .u64 f4) := hC2 3 (by omega)
   have c4 : wr.cell? ⟨gi, oi + 1 * 11 + 4, none⟩ = some (.string s4) := hC2 4 (by omega)
   have c5 : wr.cell? ⟨gi, oi + 1 * 11 + 5, none⟩ = some (.int .i64 x4) := hC2 5 (by omega)
   have c6 : wr.cell? ⟨gi, oi + 1 * 11 + 6, none⟩ = some (.int .i64 y4) := hC2 6 (by omega)
   have c7 : wr.cell? ⟨gi, oi + 1 * 11 + 7, none⟩ = some (.int .i64 z4) := hC2 7 (by omega)
   have c8 : wr.cell? ⟨gi, oi + 1 * 11 + 8, none⟩ = some (.int .i64 u4) := hC2 8 (by omega)
   have c9 : wr.cell? ⟨gi, oi + 1 * 11 + 9, none⟩ = some (.slice pp4 path4.length pc4) := hC2 9 (by omega)
   have c10 : wr.cell? ⟨gi, oi + 1 * 11 + 10, none⟩ = some (.slice ip4 items4.length ic4) := hC2 10 (by omega)
   have hv1 : ∃ g o, pp = some ⟨g, o, none⟩ ∧ wr.cell? ⟨g, o + c, none⟩ = some (.int .i64 1) := by
    rcases hO with h0 | ⟨g, o, h1, h2, h3⟩
    ·omega
    ·exact ⟨g, o, h1, (hu.cell (p := ⟨g, o + c, none⟩) h2).trans (h3 c hlt)⟩
   obtain ⟨g, o, rfl, hv⟩ := hv1
   have i1 : (c : Int) < p := by omega
   obtain ⟨bc, bf⟩ := cells_of hb
   simp only [MD.cells] at hb bc
   have HH : Hid (Down r e4 e ∧ MD.In w.heap.size wr (q + r) e4 ∧ e4.val = .agg #[.int .i64 8, .string t4, .int .i64 n4, .int .u64 f4, .string s4, .int .i64 x4, .int .i64 y4, .int .i64 z4, .int .i64 u4, .slice pp4 path4.length pc4, .slice ip4 items4.length ic4] ∧ e4.cells = #[.int .i64 8, .string t4, .int .i64 n4, .int .u64 f4, .string s4, .int .i64 x4, .int .i64 y4, .int .i64 z4, .int .i64 u4, .slice pp4 path4.length pc4, .slice ip4 items4.length ic4]) := by rw [← he4]; exact ⟨hD, hI2, rfl, rfl⟩
   clear hD hI2 hC2 he4
   go_wp2_with fail
   have kU8 := kp_eleven wr (w.heap.size) (.int .i64 8) (.string t4) (.int .i64 n4) (.int .u64 f4) (.string s4) (.int .i64 x4) (.int .i64 y4) (.int .i64 z4) (.int .i64 u4) (.slice pp4 path4.length pc4) (.slice ip4 items4.length ic4)
   have hrU8 := eleven_over hb (.int .i64 8) (.string t4) (.int .i64 n4) (.int .u64 f4) (.string s4) (.int .i64 x4) (.int .i64 y4) (.int .i64 z4) (.int .i64 u4) (.slice pp4 path4.length pc4) (.slice ip4 items4.length ic4)
   obtain ⟨U8, hU8⟩ : ∃ W, W = (((((((((((wr.setCell ⟨w.heap.size, 0, none⟩ (.int .i64 8)).setCell ⟨w.heap.size, 1, none⟩ (.string t4)).setCell ⟨w.heap.size, 2, none⟩ (.int .i64 n4)).setCell ⟨w.heap.size, 3, none⟩ (.int .u64 f4)).setCell ⟨w.heap.size, 4, none⟩ (.string s4)).setCell ⟨w.heap.size, 5, none⟩ (.int .i64 x4)).setCell ⟨w.heap.size, 6, none⟩ (.int .i64 y4)).setCell ⟨w.heap.size, 7, none⟩ (.int .i64 z4)).setCell ⟨w.heap.size, 8, none⟩ (.int .i64 u4)).setCell ⟨w.heap.size, 9, none⟩ (.slice pp4 path4.length pc4)).setCell ⟨w.heap.size, 10, none⟩ (.slice ip4 items4.length ic4)) := ⟨_, rfl⟩
   rw [← hU8] at kU8 hrU8 ⊢
   clear hU8
   have rcU8 := (cells_of hrU8).1
   refine ⟨⟨c + 1, e4, hlt, by simp, ?_, ?_, ?_, ?_, hu.trans (kU8.below hu.size fun i hi e => by omega)⟩, by simp only [intOf]; omega⟩
   ·rw [show p - (c + 1) = r by omega]; exact HH.out.1
   ·rw [show p - (c + 1) = r by omega]; exact MD.In.below (kU8.below hu.size fun i hi e => by omega) _ _ HH.out.2.1
   ·rw [HH.out.2.2.2]; exact hrU8
   ·exact (kU8.block _ (hblk hz) (by omega)).trans hz
  ·have i1 : ¬ (c : Int) < p := by omega
   have hpc : p - c = 0 := by omega
   rw [hpc] at hD
   obtain rfl : _ = e := hD
   obtain ⟨bc, bf⟩ := cells_of hb
   obtain ⟨rc, rf⟩ := cells_of hz
   simp only [MD.cells] at hb bc
   go_wp2_with fail
   have kU8 := kp_eleven wr (w.heap.size + 1) (.int .i64 k3) (.string t3) (.int .i64 n3) (.int .u64 f3) (.string s3) (.int .i64 x3) (.int .i64 y3) (.int .i64 z3) (.int .i64 u3) (.slice pp3 path3.length pc3) (.slice ip3 items3.length ic3)
   have hrU8 := eleven_set hz (.int .i64 k3) (.string t3) (.int .i64 n3) (.int .u64 f3) (.string s3) (.int .i64 x3) (.int .i64 y3) (.int .i64 z3) (.int .i64 u3) (.slice pp3 path3.length pc3) (.slice ip3 items3.length ic3)
   obtain ⟨U8, hU8⟩ : ∃ W, W = (((((((((((wr.setCell ⟨w.heap.size + 1, 0, none⟩ (.int .i64 k3)).setCell ⟨w.heap.size + 1, 1, none⟩ (.string t3)).setCell ⟨w.heap.size + 1, 2, none⟩ (.int .i64 n3)).setCell ⟨w.heap.size + 1, 3, none⟩ (.int .u64 f3)).setCell ⟨w.heap.size + 1, 4, none⟩ (.string s3)).setCell ⟨w.heap.size + 1, 5, none⟩ (.int .i64 x3)).setCell ⟨w.heap.size + 1, 6, none⟩ (.int .i64 y3)).setCell ⟨w.heap.size + 1, 7, none⟩ (.int .i64 z3)).setCell ⟨w.heap.size + 1, 8, none⟩ (.int .i64 u3)).setCell ⟨w.heap.size + 1, 9, none⟩ (.slice pp3 path3.length pc3)).setCell ⟨w.heap.size + 1, 10, none⟩ (.slice ip3 items3.length ic3)) := ⟨_, rfl⟩
   rw [← hU8] at kU8 hrU8 ⊢
   clear hU8
   have rcU8 := (cells_of hrU8).1
   exact bodyPost_ret (v := .tuple #[.agg #[.int .i64 k3, .string t3, .int .i64 n3, .int .u64 f3, .string s3, .int .i64 x3, .int .i64 y3, .int .i64 z3, .int .i64 u3, .slice pp3 path3.length pc3, .slice ip3 items3.length ic3], .bool true]) (by simp [results, Tryz.results46, go_sem, rcU8]) rfl ⟨rfl, hu.trans (kU8.below hu.size fun i hi e => by omega)⟩
end Go.Proofs.YtdbijkgnddcneaaGreatDoor
namespace Go.Proofs.YtdbijkgnddcneaaGreatDoor
open Go.RowKit Go.ChangeMaps
set_option maxRecDepth 100000
set_option maxHeartbeats 4000000
attribute [local go_sem] refold2 cell3_0 cell3_1 b28_0 b28_01 nz26 nz23
theorem clone_rows (items : List MD) (gs os cap : Nat) (w : World) (h0 : 0 < items.length) (hl : items.length ≤ 1000) (hgs : gs < w.heap.size) (hsrc : ∀ (i : Nat) (hi : i < items.length), MD.CellsAt w gs (os + i * 11) items[i]) :
  Calls Tryz.prog 68 #[.slice (some ⟨gs, os, none⟩) items.length cap] w fun r w' => ∃ v, r = .returned v ∧ w'.ownsRow w.heap.size 32 11 v items.length (rowOf items) ∧ Below w.heap.size w w' := by
 obtain ⟨i0, hi, hz0, hz1, hz2⟩ := info_parts info32z
 obtain ⟨m, hm⟩ : ∃ m, m = items.length := ⟨_, rfl⟩
 have HN : Hid (∀ W, Below w.heap.size w W → ∀ (j : Nat) (u : Value), (rowOf items)[j]? = some u → W.cell? ((⟨gs, os, none⟩ : Addr).add j) = some u) := fun W hW => rowOf_cells (.inr ⟨gs, os, rfl, fun i hi => (hsrc i hi).below hgs hW⟩)
 have HL : Hid ((rowOf items).length = m * 11) := by rw [hm]; exact rowOf_length items
 have HO : Hid (∀ u ∈ (rowOf items), u.oneCell' = true) := rowOf_one items
 obtain ⟨news, hn⟩ : ∃ x, x = (rowOf items) := ⟨_, rfl⟩
 rw [← hn] at HN HL HO ⊢
 rw [← hm] at h0 hl ⊢
 clear hn hm hsrc
 have hne : ∀ W : World, (binOp .eql 27 (.slice (some ⟨gs, os, none⟩) m cap) (.slice none 0 0)).run Tryz.prog W = .ok (.bool false) W := fun W => by
  have := Lib.run_eql_slice_nil (P := Tryz.prog) W 27 32 (some ⟨gs, os, none⟩) m cap 0 0 Tryz.underlying27
  simpa using this
 go_enter Tryz.func68, Tryz.ntmps68
 go_wp2_with (at_builtin; refine wpList_append_own _ rfl _ _ 27 rfl w.heap.size 32 i0 (.agg #[.int .i64 0, .string ⟨#[]⟩, .int .i64 0, .int .u64 0, .string ⟨#[]⟩, .int .i64 0, .int .i64 0, .int .i64 0, .int .i64 0, .slice none 0 0, .slice none 0 0]) 11 136 Tryz.underlying27 hi hz0 hz1 hz2 rfl (by decide) _ 0 [] rfl (World.ownsRow_made w #[] 0 (Nat.le_refl _) (Nat.zero_le _) rfl) ⟨gs, os, none⟩ m cap news rfl HL.out (HN.out _ (below1 _ _)) HO.out (by unfold maxLen; omega) (by omega) (by simp) ?_; intro v2 w3 hown3 hgr3 _; have HB3 : Hid (Below w.heap.size w w3) := Below.grown (below1 _ _) hgr3 (by simp) (fun j hj => Nat.le_of_eq (Option.some.inj hj)); have HO3 : Hid _ := hown3; clear hown3 hgr3)
 go_ret
 exact ⟨v2, rfl, by have := HO3.out; rwa [List.nil_append, Nat.zero_add] at this, HB3.out⟩
theorem clone_ones1 (i : Nat) (gs os cap : Nat) (w : World) (h0 : 0 < i) (hl : i ≤ 1000) (hgs : gs < w.heap.size) (hsrc : ∀ k, k < i → w.cell? ⟨gs, os + k, none⟩ = some (.int .i64 1)) :
  Calls Tryz.prog 47 #[.slice (some ⟨gs, os, none⟩) i cap] w fun r w' => ∃ v, r = .returned v ∧ w'.ownsRow w.heap.size 3 1 v i (List.replicate i (Value.int .i64 1)) ∧ Below w.heap.size w w' := by
 obtain ⟨i0, hi, hz0, hz1, hz2⟩ := info_parts info3z
 obtain ⟨m, hm⟩ : ∃ m, m = i := ⟨_, rfl⟩
 have HN : Hid (∀ W, Below w.heap.size w W → ∀ (j : Nat) (u : Value), (List.replicate i (Value.int .i64 1))[j]? = some u → W.cell? ((⟨gs, os, none⟩ : Addr).add j) = some u) := fun W hW j u hu => by
  have hj : j < i := by have := (List.getElem?_eq_some_iff.1 hu).1; simpa using this
  have hu2 : u = .int .i64 1 := by rw [List.getElem?_replicate, if_pos hj] at hu; exact (Option.some.inj hu).symm
  subst hu2
  have e : (⟨gs, os, none⟩ : Addr).add j = ⟨gs, os + j, none⟩ := by
   unfold Addr.add
   by_cases h : j = 0
   ·subst h; rfl
   ·simp [h]
  rw [e, hW.cell (p := ⟨gs, os + j, none⟩) hgs]
  exact hsrc j hj
 have HL : Hid ((List.replicate i (Value.int .i64 1)).length = m * 1) := by rw [hm]; exact (show (List.replicate i (Value.int .i64 1)).length = i * 1 by simp)
 have HO : Hid (∀ u ∈ (List.replicate i (Value.int .i64 1)), u.oneCell' = true) := fun u hu => by rw [List.eq_of_mem_replicate hu]; rfl
 obtain ⟨news, hn⟩ : ∃ x, x = (List.replicate i (Value.int .i64 1)) := ⟨_, rfl⟩
 rw [← hn] at HN HL HO ⊢
 rw [← hm] at h0 hl ⊢
 clear hn hm hsrc
 have hne : ∀ W : World, (binOp .eql 22 (.slice (some ⟨gs, os, none⟩) m cap) (.slice none 0 0)).run Tryz.prog W = .ok (.bool false) W := fun W => by
  have := Lib.run_eql_slice_nil (P := Tryz.prog) W 22 3 (some ⟨gs, os, none⟩) m cap 0 0 Tryz.underlying22
  simpa using this
 go_enter Tryz.func47, Tryz.ntmps47
 go_wp2_with (at_builtin; refine wpList_append_own _ rfl _ _ 22 rfl w.heap.size 3 i0 (.int .i64 0) 1 8 Tryz.underlying22 hi hz0 hz1 hz2 rfl (by decide) _ 0 [] rfl (World.ownsRow_made w #[] 0 (Nat.le_refl _) (Nat.zero_le _) rfl) ⟨gs, os, none⟩ m cap news rfl HL.out (HN.out _ (below1 _ _)) HO.out (by unfold maxLen; omega) (by omega) (by simp) ?_; intro v2 w3 hown3 hgr3 _; have HB3 : Hid (Below w.heap.size w w3) := Below.grown (below1 _ _) hgr3 (by simp) (fun j hj => Nat.le_of_eq (Option.some.inj hj)); have HO3 : Hid _ := hown3; clear hown3 hgr3)
 go_ret
 exact ⟨v2, rfl, by have := HO3.out; rwa [List.nil_append, Nat.zero_add] at this, HB3.out⟩
end Go.Proofs.YtdbijkgnddcneaaGreatDoor
namespace Go.Proofs.YtdbijkgnddcneaaGreatDoor
open Go.RowKit Go.ChangeMaps
set_option maxRecDepth 100000
set_option maxHeartbeats 4000000
attribute [local go_sem] refold2 cell3_0 cell3_1 b28_0 b28_01 nz26 nz23 b32_012 b32_015 b30_023 b30_0123 b30_0 b131_0
theorem b32_015p (k o f l c : Int) (t : ByteArray) (pp : Option Addr) (pl pc : Nat) (w : World) : (Instr.build 32 #[(0, .int .i64 k), (1, .string t), (5, .agg #[.int .i64 o, .int .i64 f, .int .i64 l, .int .i64 c, .slice pp pl pc])]).run Tryz.prog w = .ok (.agg #[.int .i64 k, .string t, .int .i64 0, .int .u64 0, .string ⟨#[]⟩, .int .i64 o, .int .i64 f, .int .i64 l, .int .i64 c, .slice pp pl pc, .slice none 0 0]) w := by kernel_rfl
theorem b30_04 (o : Int) (pp : Option Addr) (pl pc : Nat) (w : World) : (Instr.build 30 #[(0, .int .i64 o), (4, .slice pp pl pc)]).run Tryz.prog w = .ok (.agg #[.int .i64 o, .int .i64 0, .int .i64 0, .int .i64 0, .slice pp pl pc]) w := by kernel_rfl
attribute [local go_sem] b32_015p b30_04
theorem leading_path (k o f l c : Int) (t : ByteArray) (pp : Option Addr) (pl pc : Nat) (ht : t.size ≤ 60000) (w : World) : Calls Tryz.prog 38 #[.int .i64 k, .string t, .agg #[.int .i64 o, .int .i64 f, .int .i64 l, .int .i64 c, .slice pp pl pc]] w fun r w' => r = .returned (.agg #[.int .i64 k, .string t, .int .i64 0, .int .u64 0, .string ⟨#[]⟩, .int .i64 o, .int .i64 f, .int .i64 l, .int .i64 c, .slice pp pl pc, .slice none 0 0]) ∧ Below w.heap.size w w' := by
 have HC : Hid (∀ W, Calls Tryz.prog 66 #[.string t] W fun e w' => e = .returned (.string t) ∧ Below W.heap.size W w') := fun W => clone_any t W (by omega)
 go_enter Tryz.func38, Tryz.ntmps38
 go_wp2_with fail
 obtain ⟨U0, hU0⟩ : ∃ W, W = (w.alloc (.cells #[.int .i64 o, .int .i64 f, .int .i64 l, .int .i64 c, .slice pp pl pc] 30)).alloc (.cells #[.int .i64 0, .string ⟨#[]⟩, .int .i64 0, .int .u64 0, .string ⟨#[]⟩, .int .i64 0, .int .i64 0, .int .i64 0, .int .i64 0, .slice none 0 0, .slice none 0 0] 32) := ⟨_, rfl⟩
 rw [← hU0]
 have u0 : Below w.heap.size w U0 := by rw [hU0]; exact below2 w _ _
 have y0 : w.heap.size + 1 < U0.heap.size := by rw [hU0]; simp
 have b0 : U0.heap[w.heap.size]? = some (.cells #[.int .i64 o, .int .i64 f, .int .i64 l, .int .i64 c, .slice pp pl pc] 30) := by rw [hU0, Below.heap_alloc _ _ _ (by simp)]; exact heap_alloc_new _ _
 have r0 : U0.heap[w.heap.size + 1]? = some (.cells #[.int .i64 0, .string ⟨#[]⟩, .int .i64 0, .int .u64 0, .string ⟨#[]⟩, .int .i64 0, .int .i64 0, .int .i64 0, .int .i64 0, .slice none 0 0, .slice none 0 0] 32) := by rw [hU0]; exact heap2_1 _ _ _
 clear hU0
 refine rg (S := fun W => (∀ j, W.cell? ⟨w.heap.size, j, none⟩ = (#[.int .i64 o, .int .i64 f, .int .i64 l, .int .i64 c, .slice pp pl pc] : Array Value)[j]?)) (fun U1 hB4 HU1 => ?_)
 have hS := (cells_of ((hB4.block _ (by omega)).trans b0)).1
 refine tq 0 (.int .i64 k) rfl hS ?_
 simp only [sa, sb, Act.put, sd, se, sf]
 refine tq 1 (.string t) rfl hS ?_
 simp only [sa, sb, sc, Act.put, sd, se, sf]
 refine tk 3 (.agg #[.int .i64 o, .int .i64 f, .int .i64 l, .int .i64 c, .slice pp pl pc]) rfl (.inl ⟨by rfl, ?r⟩) hS ?_
 case r => intro W hW; simp [go_sem, execOp, Act.eval, hW]
 simp only [sa, sb, sc, Act.put, sd, se, sf]
 have u1 : Below w.heap.size w U1 := u0.trans (hB4.mono (by omega))
 have y1 : w.heap.size + 1 < U1.heap.size := Nat.lt_of_lt_of_le y0 hB4.size
 have b1 : U1.heap[w.heap.size]? = _ := (hB4.block _ (by omega)).trans b0
 have r1 : U1.heap[w.heap.size + 1]? = _ := (hB4.block _ (by omega)).trans r0
 clear HU1 hB4
 refine one 2 rfl (fun K hK => ?_)
 simp only [sa, sb, sc]
 go_simp
 refine (HC.out _).mono ?_
 rintro r U2 ⟨rfl, c2⟩
 have u2 : Below w.heap.size w U2 := u1.trans (c2.mono (by omega))
 have b2 : U2.heap[w.heap.size]? = _ := (c2.block _ (by omega)).trans b1
 have r2 : U2.heap[w.heap.size + 1]? = _ := (c2.block _ (by omega)).trans r1
 go_simp
 have hS2 := (cells_of b2).1
 refine hK _ _ ⟨hS2, ?_⟩
 clear hK K hS
 have hS := hS2
 refine tq 4 (.agg #[.int .i64 k, .string t, .int .i64 0, .int .u64 0, .string ⟨#[]⟩, .int .i64 o, .int .i64 f, .int .i64 l, .int .i64 c, .slice pp pl pc, .slice none 0 0]) rfl hS ?_
 simp only [sa, sb, sc, Act.put, sd, se, sf]
 refine one 5 rfl (fun K hK => ?_)
 simp only [sa, sb, sc]
 refine wp_store_row 32 _ _ rfl (w.heap.size + 1) _ rfl rfl 32 _ r2 info32 rfl (by simp [Value.oneCell']) ?_
 refine hK _ _ ⟨fun j => (srow (by omega)).trans (hS j), ?_⟩
 clear hK K
 refine dn ?_
 try simp only [Act.put]
 go_wp2_with fail
 refine bodyPost_ret (v := .agg #[.int .i64 k, .string t, .int .i64 0, .int .u64 0, .string ⟨#[]⟩, .int .i64 o, .int .i64 f, .int .i64 l, .int .i64 c, .slice pp pl pc, .slice none 0 0]) (by simp [results, Tryz.results38, go_sem, rowT r2]) rfl ⟨rfl, ?_⟩
 exact brow u2 (by omega) _
def ptrD (m : Nat) (pp : Option Addr) (i pc : Nat) : MD := ⟨⟨9, ⟨#[83]⟩, 0, 0, ⟨#[]⟩, (m : Int) + 1, 0, 0, 0, pp, List.replicate i 1, pc⟩, none, 0, []⟩
theorem ptr_head : ∀ m < 2, ∀ i < 8, headOK ⟨9, ⟨#[83]⟩, 0, 0, ⟨#[]⟩, ((m : Nat) : Int) + 1, 0, 0, 0, none, List.replicate i 1, 0⟩ 0 = true := by decide +kernel
theorem ptr_right (m : Nat) (pp : Option Addr) (i pc : Nat) (hm : m < 2) (hi : i < 8) : MD.right 4 (ptrD m pp i pc) = true := by
 have h : headOK (ptrD m pp i pc).h 0 = true := ptr_head m hm i hi
 have h1 : MD.full 4 (ptrD m pp i pc) = true := by
  show (headOK (ptrD m pp i pc).h 0 && ((9 : Int) != 8 || _)) = true
  rw [h]
  rfl
 unfold MD.right
 rw [h1]
 rfl
theorem ptr_in (m : Nat) (pp : Option Addr) (i pc : Nat) (hm : m < 2) (hi : i < 8) (w : World) (hO : OnesAt w pp i) (hc : i ≤ pc) (hpc : pc ≤ maxLen) : MD.In w.heap.size w 4 (ptrD m pp i pc) := by
 refine ⟨⟨?_, ?_, ?_, ?_, ?_, ?_, ?_, ?_, ?_, ?_, ?_, ?_, ?_, ?_, ?_, ?_, ?_, ?_⟩, ⟨fun x hx => ?_, ?_⟩, Nat.le_refl _, Nat.zero_le _, .inl rfl⟩
 all_goals try (simp only [ptrD]; first | omega | decide)
 ·show (List.replicate i (1 : Int)).length ≤ pc
  rw [List.length_replicate]; exact hc
 ·have hx2 : x ∈ List.replicate i (1 : Int) := hx
  rw [List.eq_of_mem_replicate hx2]
  decide
 ·show List.replicate i (1 : Int) = [] ∨ _
  rcases hO with rfl | ⟨g, o, h1, h2, h3⟩
  ·exact .inl rfl
  ·refine .inr ⟨g, o, h1, h2, fun j hj => ?_⟩
   have hj2 : j < i := by simpa [ptrD] using hj
   have : (ptrD m pp i pc).h.path[j] = 1 := List.getElem_replicate _
   rw [this]
   exact h3 j hj2
theorem Right_ptr (m : Nat) (pp : Option Addr) (i pc : Nat) (hm : m < 2) (hi : i < 8) (w : World) (hN : NamesAt w) (hO : OnesAt w pp i) (hc : i ≤ pc) (hpc : pc ≤ maxLen) :
  Calls Tryz.prog 39 #[.agg #[.int .i64 9, .string ⟨#[83]⟩, .int .i64 0, .int .u64 0, .string ⟨#[]⟩, .int .i64 ((m : Int) + 1), .int .i64 0, .int .i64 0, .int .i64 0, .slice pp i pc, .slice none 0 0]] w fun r w' => r = .returned (.bool true) ∧ Below w.heap.size w w' := by
 have := Right_any 4 (ptrD m pp i pc) w hN (ptr_in m pp i pc hm hi w hO hc hpc)
 rw [ptr_right m pp i pc hm hi] at this
 simpa only [ptrD, MD.val, D, List.length_replicate, List.length_nil] using this
theorem down_tow {base : MD} : ∀ (i j : Nat) (d : MD) (B : Nat) (w : World), i ≤ j → MD.same (5 + j) (tow base j) d = true → MD.In B w (5 + j) d → base.h.k = 8 → ∃ e, Down i d e ∧ MD.same (5 + (j - i)) (tow base (j - i)) e = true ∧ MD.In B w (5 + (j - i)) e
 | 0, j, d, B, w, _, hs, hI, _ => ⟨d, rfl, hs, hI⟩
 | i + 1, 0, _, _, _, h, _, _, _ => by omega
 | i + 1, j + 1, d, B, w, h, hs, hI, hk => by
  obtain ⟨a, b, hit, _, hb, _, _⟩ := tow_parts hs
  have hk8 : b.h.k = 8 := by
   have h1 : (tow base j).h.k = 8 := by cases j with
    | zero => exact hk
    | succ j => rfl
   have h2 := (same_parts (n := 4 + j) (show MD.same (4 + j + 1) (tow base j) b = true by rw [show 4 + j + 1 = 5 + j by omega]; exact hb)).1
   omega
  have hIb : MD.In B w (5 + j) b := by
   obtain ⟨_, _, _, _, h5⟩ := (show MD.In B w (5 + j + 1) d from hI)
   rcases h5 with h5 | ⟨gi, oi, _, _, e3⟩
   ·rw [hit] at h5; cases h5
   ·have := (e3 1 (by rw [hit]; simp)).2
    simpa only [hit, List.getElem_cons_succ, List.getElem_cons_zero] using this
  obtain ⟨e, h1, h2, h3⟩ := down_tow i j b B w (by omega) hb hIb hk
  rw [show j + 1 - (i + 1) = j - i by omega]
  exact ⟨e, ⟨a, b, hit, hk8, h1⟩, h2, h3⟩
end Go.Proofs.YtdbijkgnddcneaaGreatDoor
namespace Go.Proofs.YtdbijkgnddcneaaGreatDoor
open Go.RowKit Go.ChangeMaps
structure Held (w : World) (hb M : Nat) (vs : List Value) (m ab j : Nat) (base d : MD) : Prop where
 heap : HeapAt w hb M vs
 thing : vs[m]? = some (.iface 84 (.pointer (some ⟨ab, 0, none⟩)))
 cells : w.heap[ab]? = some (.cells d.cells 86)
 inn : MD.In w.heap.size w (5 + j) d
 same : MD.same (5 + j) (tow base j) d = true
 full : MD.full 5 base = true
 bk : base.h.k = 8 ∧ base.h.t = ⟨#[83]⟩
 few : m < 2 ∧ j ≤ 6
theorem Held.below {w w' : World} {hb M m ab j : Nat} {vs : List Value} {base d : MD} (h : Held w hb M vs m ab j base d) (hB : Below w.heap.size w w') : Held w' hb M vs m ab j base d :=
 ⟨h.heap.below hB, h.thing, (hB.block _ (hblk h.cells)).trans h.cells, MD.In.mono hB.size _ _ (MD.In.below hB _ _ h.inn), h.same, h.full, h.bk, h.few⟩
theorem tow_head {base : MD} (hb : base.h.k = 8 ∧ base.h.t = ⟨#[83]⟩) (j : Nat) : (tow base j).h.k = 8 ∧ (tow base j).h.t = ⟨#[83]⟩ := by
 cases j with
 | zero => exact hb
 | succ j => exact ⟨rfl, rfl⟩
section
variable {w : World} {hb M m ab j : Nat} {vs : List Value} {base d : MD}
theorem Held.down (h : Held w hb M vs m ab j base d) (i : Nat) (hi : i ≤ j) : ∃ e, Down i d e ∧ MD.same (5 + (j - i)) (tow base (j - i)) e = true ∧ MD.In w.heap.size w (5 + (j - i)) e ∧ e.h.t = ⟨#[83]⟩ ∧ MD.full (5 + (j - i)) e = true := by
 obtain ⟨e, h1, h2, h3⟩ := down_tow i j d _ w hi h.same h.inn h.bk.1
 have h4 := (same_parts (n := 4 + (j - i)) (show MD.same (4 + (j - i) + 1) (tow base (j - i)) e = true by rw [show 4 + (j - i) + 1 = 5 + (j - i) by omega]; exact h2)).2.1
 have hf := h.few.2
 exact ⟨e, h1, h2, h3, h4.trans (tow_head h.bk _).2, (same_full _ _ _ h2).symm.trans (tow_full h.full (j - i) (by omega))⟩
theorem Held.part (h : Held w hb M vs m ab j base d) (i : Nat) (hi : i ≤ j) (e : MD) (hD : Down i d e) (pp : Option Addr) (pc : Nat) (hO : OnesAt w pp i) :
  Calls Tryz.prog 46 #[d.val, .slice pp i pc] w fun r w' => r = .returned (.tuple #[e.val, .bool true]) ∧ Below w.heap.size w w' := by
 have hf := h.few.2
 exact partOf_ones i (5 + (j - i)) (by omega) pp pc d e w hD (by rw [show 5 + (j - i) + i = 5 + j by omega]; exact h.inn) hO
theorem Held.fits (h : Held w hb M vs m ab j base d) (hN : NamesAt w) (i : Nat) (hi : i ≤ j) (pp : Option Addr) (pc : Nat) (hO : OnesAt w pp i) (hc : i ≤ pc) (hpc : pc ≤ maxLen) :
  Calls Tryz.prog 64 #[.pointer (some ⟨hb, 0, none⟩), .agg #[.int .i64 9, .string ⟨#[83]⟩, .int .i64 0, .int .u64 0, .string ⟨#[]⟩, .int .i64 ((m : Int) + 1), .int .i64 0, .int .i64 0, .int .i64 0, .slice pp i pc, .slice none 0 0]] w fun r w' => r = .returned (.bool true) ∧ Below w.heap.size w w' := by
 obtain ⟨e, hD, hs, hI, ht, hfu⟩ := h.down i hi
 have hf := h.few
 have HP : ∀ W, Below w.heap.size w W → Calls Tryz.prog 46 #[d.val, .slice pp i pc] W fun r w' => r = .returned (.tuple #[e.val, .bool true]) ∧ Below W.heap.size W w' := fun W hW => (h.below hW).part i hi e hD pp pc (hO.below hW)
 have HR : ∀ W, Below w.heap.size w W → Calls Tryz.prog 39 #[.agg #[.int .i64 9, .string ⟨#[83]⟩, .int .i64 0, .int .u64 0, .string ⟨#[]⟩, .int .i64 ((m : Int) + 1), .int .i64 0, .int .i64 0, .int .i64 0, .slice pp i pc, .slice none 0 0]] W fun r w' => r = .returned (.bool true) ∧ Below W.heap.size W w' := fun W hW => Right_ptr m pp i pc hf.1 (by omega) W (hN.kept hW) (hO.below hW) hc hpc
 have hc2 := h.cells
 obtain ⟨⟨k1, t1, n1, f1, s1, x1, y1, z1, u1, pp1, path1, pc1⟩, ip1, ic1, items1⟩ := d
 obtain ⟨⟨k2, t2, n2, f2, s2, x2, y2, z2, u2, pp2, path2, pc2⟩, ip2, ic2, items2⟩ := e
 obtain rfl : t2 = ⟨#[83]⟩ := ht
 exact fits_ptr hb M vs m ab h.thing ⟨#[83]⟩ pp i pc _ _ _ _ _ _ _ _ _ _ _ k2 n2 f2 s2 x2 y2 z2 u2 pp2 path2.length pc2 ip2 items2.length ic2 w h.heap hc2 HR HP
theorem Held.object (h : Held w hb M vs m ab j base d) (hN : NamesAt w) (i : Nat) (hi : i ≤ j) (pp : Option Addr) (pc : Nat) (hO : OnesAt w pp i) (hc : i ≤ pc) (hpc : pc ≤ maxLen) :
  Calls Tryz.prog 44 #[.pointer (some ⟨hb, 0, none⟩), .agg #[.int .i64 9, .string ⟨#[83]⟩, .int .i64 0, .int .u64 0, .string ⟨#[]⟩, .int .i64 ((m : Int) + 1), .int .i64 0, .int .i64 0, .int .i64 0, .slice pp i pc, .slice none 0 0]] w fun r w' => r = .returned (.tuple #[.pointer (some ⟨ab, 0, none⟩), .bool true]) ∧ Below w.heap.size w w' :=
 object_ptr hb M vs m ab h.thing ⟨#[83]⟩ pp i pc w h.heap fun _ hW => (h.below hW).fits (hN.kept hW) i hi pp pc (hO.below hW) hc hpc
theorem Held.read (h : Held w hb M vs m ab j base d) (hN : NamesAt w) (i : Nat) (hi : i ≤ j) (pp : Option Addr) (pc : Nat) (hO : OnesAt w pp i) (hc : i ≤ pc) (hpc : pc ≤ maxLen) :
  Calls Tryz.prog 17 #[.pointer (some ⟨hb, 0, none⟩), .agg #[.int .i64 9, .string ⟨#[83]⟩, .int .i64 0, .int .u64 0, .string ⟨#[]⟩, .int .i64 ((m : Int) + 1), .int .i64 0, .int .i64 0, .int .i64 0, .slice pp i pc, .slice none 0 0]] w fun r w' => ∃ d' : MD, r = .returned (.tuple #[d'.val, .nilIface]) ∧ MD.In w'.heap.size w' (5 + (j - i)) d' ∧ MD.Above w.heap.size (5 + (j - i)) d' ∧ MD.same (5 + (j - i)) (tow base (j - i)) d' = true ∧ Below w.heap.size w w' := by
 obtain ⟨e, hD, hs, hI, ht, hfu⟩ := h.down i hi
 have HO := fun W (hW : Below w.heap.size w W) => (h.below hW).object (hN.kept hW) i hi pp pc (hO.below hW) hc hpc
 have HP : ∀ W, Below w.heap.size w W → Calls Tryz.prog 46 #[d.val, .slice pp i pc] W fun r w' => r = .returned (.tuple #[e.val, .bool true]) ∧ Below W.heap.size W w' := fun W hW => (h.below hW).part i hi e hD pp pc (hO.below hW)
 have hc2 := h.cells
 have hh := h.heap
 obtain ⟨⟨k1, t1, n1, f1, s1, x1, y1, z1, u1, pp1, path1, pc1⟩, ip1, ic1, items1⟩ := d
 obtain ⟨⟨k2, t2, n2, f2, s2, x2, y2, z2, u2, pp2, path2, pc2⟩, ip2, ic2, items2⟩ := e
 obtain rfl : t2 = ⟨#[83]⟩ := ht
 refine (Read_ptr hb M vs m ab ⟨#[83]⟩ pp i pc _ _ _ _ _ _ _ _ _ _ _ k2 n2 f2 s2 x2 y2 z2 u2 pp2 path2 pc2 ip2 ic2 items2 (5 + (j - i)) w hh hc2 HO HP hI hfu).mono ?_
 rintro r w' ⟨d', h1, h2, h3, h4, h5⟩
 exact ⟨d', h1, h2, h3, same_trans _ _ _ _ hs h4, h5⟩
end
end Go.Proofs.YtdbijkgnddcneaaGreatDoor
namespace Go.Proofs.YtdbijkgnddcneaaGreatDoor
open Go.RowKit Go.ChangeMaps
set_option maxRecDepth 100000
set_option maxHeartbeats 4000000
attribute [local go_sem] refold2 cell3_0 cell3_1 b28_0 b28_01 nz26 nz23 b32_015p b30_04
theorem ones_of {w : World} {B i : Nat} {v : Value} (h : w.ownsRow B 3 1 v (i + 1) (List.replicate i (.int .i64 1) ++ [.int .i64 1])) : ∃ g c, v = .slice (some ⟨g, 0, none⟩) (i + 1) c ∧ B ≤ g ∧ g < w.heap.size ∧ i + 1 ≤ c ∧ c ≤ maxLen ∧ OnesAt w (some ⟨g, 0, none⟩) (i + 1) := by
 rcases h.2 with ⟨_, h0⟩ | ⟨g, c, cur, hv, hb, hg, hc, hm, hs, ht⟩
 ·omega
 ·refine ⟨g, c, hv, hb, hblk hg, hc, hm, .inr ⟨g, 0, rfl, hblk hg, fun j hj => ?_⟩⟩
  rw [row_at hg (0 + j), Nat.zero_add, ← Array.getElem?_toList, ← List.getElem?_take_of_lt (show j < (i + 1) * 1 by omega), ht, ← List.replicate_succ']
  rw [List.getElem?_replicate, if_pos hj]
theorem Part_ptr (hb m ab : Nat) (pp : Option Addr) (i pc : Nat) (hi : i ≤ 100) (h0 h1 h2 h3 h4 h5 h6 h7 h8 h9 h10 : Value) (k2 n2 f2 : Int) (s2 : ByteArray) (x2 y2 z2 u2 : Int) (pp2 : Option Addr) (path2 : List Int) (pc2 : Nat) (ip2 : Option Addr) (ic2 : Nat) (items2 : List MD) (w : World)
  (ha : w.heap[ab]? = some (.cells #[h0, h1, h2, h3, h4, h5, h6, h7, h8, h9, h10] 86))
  (HO0 : ∀ W, Below w.heap.size w W → Calls Tryz.prog 44 #[.pointer (some ⟨hb, 0, none⟩), .agg #[.int .i64 9, .string ⟨#[83]⟩, .int .i64 0, .int .u64 0, .string ⟨#[]⟩, .int .i64 ((m : Int) + 1), .int .i64 0, .int .i64 0, .int .i64 0, .slice pp i pc, .slice none 0 0]] W fun r w' => r = .returned (.tuple #[.pointer (some ⟨ab, 0, none⟩), .bool true]) ∧ Below W.heap.size W w')
  (HC0 : ∀ W, Below w.heap.size w W → Calls Tryz.prog 47 #[.slice pp i pc] W fun r w' => ∃ v, r = .returned v ∧ w'.ownsRow W.heap.size 3 1 v i (List.replicate i (.int .i64 1)) ∧ Below W.heap.size W w')
  (HP0 : ∀ W pp' pc', Below w.heap.size w W → OnesAt W pp' (i + 1) → Calls Tryz.prog 46 #[.agg #[h0, h1, h2, h3, h4, h5, h6, h7, h8, h9, h10], .slice pp' (i + 1) pc'] W fun r w' => r = .returned (.tuple #[.agg #[.int .i64 k2, .string ⟨#[83]⟩, .int .i64 n2, .int .u64 f2, .string s2, .int .i64 x2, .int .i64 y2, .int .i64 z2, .int .i64 u2, .slice pp2 path2.length pc2, .slice ip2 items2.length ic2], .bool true]) ∧ Below W.heap.size W w') :
  Calls Tryz.prog 18 #[.pointer (some ⟨hb, 0, none⟩), .agg #[.int .i64 9, .string ⟨#[83]⟩, .int .i64 0, .int .u64 0, .string ⟨#[]⟩, .int .i64 ((m : Int) + 1), .int .i64 0, .int .i64 0, .int .i64 0, .slice pp i pc, .slice none 0 0], .int .i64 1, .string ⟨#[83]⟩] w fun r w' => ∃ gp gc, r = .returned (.tuple #[(ptrD m gp (i + 1) gc).val, .nilIface]) ∧ OnesAt w' gp (i + 1) ∧ i + 1 ≤ gc ∧ gc ≤ maxLen ∧ (∀ b o, gp = some ⟨b, o, none⟩ → w.heap.size ≤ b) ∧ Below w.heap.size w w' := by
 have HO : Hid _ := HO0
 have HC : Hid _ := HC0
 have HP : Hid _ := HP0
 clear HO0 HC0 HP0
 obtain ⟨i3, hi3, hz30, hz31, hz32⟩ := info_parts info3z
 go_enter Tryz.func18, Tryz.ntmps18
 go_wp2_with fail
 obtain ⟨U0, hU0, u0, b0, z0⟩ := an2 w (.cells #[.int .i64 9, .string ⟨#[83]⟩, .int .i64 0, .int .u64 0, .string ⟨#[]⟩, .int .i64 ((m : Int) + 1), .int .i64 0, .int .i64 0, .int .i64 0, .slice pp i pc, .slice none 0 0] 32) (.cells #[.int .i64 0, .string ⟨#[]⟩, .int .i64 0, .int .u64 0, .string ⟨#[]⟩, .int .i64 0, .int .i64 0, .int .i64 0, .int .i64 0, .slice none 0 0, .slice none 0 0] 32)
 rw [← hU0]
 clear hU0
 have c0 := (cells_of b0).1
 go_wp2_with fail
 refine (HO.out _ u0).mono ?_
 rintro _ U1 ⟨rfl, k1⟩
 have u1 : Below w.heap.size w U1 := u0.trans (k1.mono u0.size)
 have b1 := (k1.block _ (hblk b0)).trans b0
 have z1 := (k1.block _ (hblk z0)).trans z0
 clear u0 b0 z0 c0 k1 HO
 have c1 := (cells_of b1).1
 go_wp2_with fail
 refine (HC.out _ u1).mono ?_
 rintro _ U2 ⟨v, rfl, ov, k2'⟩
 have u2' : Below w.heap.size w U2 := u1.trans (k2'.mono u1.size)
 have b2 := (k2'.block _ (hblk b1)).trans b1
 have z2' := (k2'.block _ (hblk z1)).trans z1
 have y1 := hblk z1
 have y2' := k2'.size
 have OV : Hid (U2.ownsRow U1.heap.size 3 1 v i (List.replicate i (.int .i64 1))) := ov
 clear u1 b1 z1 c1 k2' ov HC
 have hnew : ∀ j u, ([.int .i64 1] : List Value)[j]? = some u → (U2.alloc (.cells #[.int .i64 1] 3)).cell? ((⟨U2.heap.size, 0, none⟩ : Addr).add j) = some u := fun j u hu => by
  have hj : j = 0 := by have := (List.getElem?_eq_some_iff.1 hu).1; simp at this; omega
  subst hj
  have e : (⟨U2.heap.size, 0, none⟩ : Addr).add 0 = ⟨U2.heap.size, 0, none⟩ := by simp [Addr.add]
  rw [e, (cells_of (heap_alloc_new U2 (.cells #[.int .i64 1] 3))).1]
  simpa using hu
 have HNW : Hid _ := hnew
 clear hnew
 have l2 : w.heap.size + 1 < U2.heap.size := hblk z2'
 go_wp2_with (at_builtin; refine wpList_append_own _ rfl _ _ 22 rfl U1.heap.size 3 i3 (.int .i64 0) 1 8 Tryz.underlying22 hi3 hz30 hz31 hz32 rfl (by decide) _ i _ rfl (OV.out.alloc _) ⟨U2.heap.size, 0, none⟩ 1 1 [.int .i64 1] rfl rfl HNW.out (by simp [Value.oneCell']) (by unfold maxLen; omega) (by omega) (by simp; omega) ?_; intro v' U3 hown3 hgr3 hnn; clear hnn; have HO3 : Hid (U3.ownsRow U1.heap.size 3 1 v' (i + 1) (List.replicate i (.int .i64 1) ++ [.int .i64 1])) := hown3; have c3 : Below U1.heap.size U2 U3 := Below.grown ((below1 U2 _).mono y2') hgr3 (by simp; omega) (fun j hj => (OV.out.lt j hj).1); have b3 := (c3.block _ (by omega)).trans b2; have z3 := (c3.block _ (by omega)).trans z2'; have u3 : Below w.heap.size w U3 := u2'.trans (c3.mono (by omega)); obtain ⟨gp, gc, ev, hgb, hgl, hgc, hgm, hon⟩ := ones_of HO3.out; have a3 := (u3.block _ (hblk ha)).trans ha; have ac3 := (cells_of a3).1; have HON : Hid (OnesAt U3 (some ⟨gp, 0, none⟩) (i + 1)) := hon; clear hown3 hgr3 c3 b2 z2' u2' OV HNW hon HO3; subst ev; have q3 := (cells_of b3).1)
 refine (HP.out _ _ _ u3 HON.out).mono ?_
 rintro _ U4 ⟨rfl, c4⟩
 have u4 : Below w.heap.size w U4 := u3.trans (c4.mono u3.size)
 have b4 := (c4.block _ (hblk b3)).trans b3
 have z4 := (c4.block _ (hblk z3)).trans z3
 have HON4 : Hid (OnesAt U4 (some ⟨gp, 0, none⟩) (i + 1)) := OnesAt.below HON.out c4
 clear b3 z3 q3 ac3 a3 u3 HP HON c4 ha
 have bc4 := (cells_of b4).1
 have l4 : w.heap.size < U4.heap.size := hblk b4
 go_wp2_with fail
 obtain ⟨U5, hU5⟩ : ∃ W, W = U4.alloc (.cells #[.int .i64 k2, .string ⟨#[83]⟩, .int .i64 n2, .int .u64 f2, .string s2, .int .i64 x2, .int .i64 y2, .int .i64 z2, .int .i64 u2, .slice pp2 path2.length pc2, .slice ip2 items2.length ic2] 32) := ⟨_, rfl⟩
 rw [← hU5]
 have c5 : Below U4.heap.size U4 U5 := by rw [hU5]; exact below1 _ _
 have n5 : U5.heap[U4.heap.size]? = some (.cells #[.int .i64 k2, .string ⟨#[83]⟩, .int .i64 n2, .int .u64 f2, .string s2, .int .i64 x2, .int .i64 y2, .int .i64 z2, .int .i64 u2, .slice pp2 path2.length pc2, .slice ip2 items2.length ic2] 32) := by rw [hU5]; exact heap_alloc_new _ _
 clear hU5
 have u5 : Below w.heap.size w U5 := u4.trans (c5.mono u4.size)
 have b5 := (c5.block _ (hblk b4)).trans b4
 have z5 := (c5.block _ (hblk z4)).trans z4
 have HON5 : Hid (OnesAt U5 (some ⟨gp, 0, none⟩) (i + 1)) := OnesAt.below HON4.out c5
 clear b4 z4 u4 c5 HON4
 refine (leading_path 9 ((m : Int) + 1) 0 0 0 ⟨#[83]⟩ (some ⟨gp, 0, none⟩) (i + 1) gc (by decide) U5).mono ?_
 rintro _ U6 ⟨rfl, c6⟩
 have u6 : Below w.heap.size w U6 := u5.trans (c6.mono u5.size)
 have z6 := (c6.block _ (hblk z5)).trans z5
 have HON6 : Hid (OnesAt U6 (some ⟨gp, 0, none⟩) (i + 1)) := OnesAt.below HON5.out c6
 clear z5 u5 HON5 c6 b5 n5 bc4 l4
 obtain ⟨rc, rf⟩ := cells_of z6
 go_wp2_with fail
 have kU7 := kp_eleven U6 (w.heap.size + 1) (.int .i64 9) (.string ⟨#[83]⟩) (.int .i64 0) (.int .u64 0) (.string ⟨#[]⟩) (.int .i64 ((m : Int) + 1)) (.int .i64 0) (.int .i64 0) (.int .i64 0) (.slice (some ⟨gp, 0, none⟩) (i + 1) gc) (.slice none 0 0)
 have hrU7 := eleven_set z6 (.int .i64 9) (.string ⟨#[83]⟩) (.int .i64 0) (.int .u64 0) (.string ⟨#[]⟩) (.int .i64 ((m : Int) + 1)) (.int .i64 0) (.int .i64 0) (.int .i64 0) (.slice (some ⟨gp, 0, none⟩) (i + 1) gc) (.slice none 0 0)
 obtain ⟨U7, hU7⟩ : ∃ W, W = (((((((((((U6.setCell ⟨w.heap.size + 1, 0, none⟩ (.int .i64 9)).setCell ⟨w.heap.size + 1, 1, none⟩ (.string ⟨#[83]⟩)).setCell ⟨w.heap.size + 1, 2, none⟩ (.int .i64 0)).setCell ⟨w.heap.size + 1, 3, none⟩ (.int .u64 0)).setCell ⟨w.heap.size + 1, 4, none⟩ (.string ⟨#[]⟩)).setCell ⟨w.heap.size + 1, 5, none⟩ (.int .i64 ((m : Int) + 1))).setCell ⟨w.heap.size + 1, 6, none⟩ (.int .i64 0)).setCell ⟨w.heap.size + 1, 7, none⟩ (.int .i64 0)).setCell ⟨w.heap.size + 1, 8, none⟩ (.int .i64 0)).setCell ⟨w.heap.size + 1, 9, none⟩ (.slice (some ⟨gp, 0, none⟩) (i + 1) gc)).setCell ⟨w.heap.size + 1, 10, none⟩ (.slice none 0 0)) := ⟨_, rfl⟩
 rw [← hU7] at kU7 hrU7 ⊢
 clear hU7
 have rcU7 := (cells_of hrU7).1
 have c7 : Below (w.heap.size + 1) U6 U7 := kU7.below (by have := hblk z6; omega) fun i hi e => by omega
 refine bodyPost_ret (v := .tuple #[(ptrD m (some ⟨gp, 0, none⟩) (i + 1) gc).val, .nilIface]) (by simp [results, Tryz.results18, go_sem, rcU7, ptrD, MD.val, D]) rfl ⟨_, gc, rfl, ?_, hgc, hgm, fun b o e => by cases e; omega, u6.trans (c7.mono (by omega))⟩
 rcases HON6.out with h0 | ⟨g', o', e1, e2, e3⟩
 ·exact .inl h0
 ·refine .inr ⟨g', o', e1, Nat.lt_of_lt_of_le e2 kU7.size, fun j hj => (World.cell?_of_block (a := ⟨g', o' + j, none⟩) (kU7.block _ e2 ?_)).trans (e3 j hj)⟩
  cases e1
  show gp ≠ w.heap.size + 1
  omega
section
variable {w : World} {hb M m ab j : Nat} {vs : List Value} {base d : MD}
theorem clone_none (w : World) (c : Nat) (q : Option Addr) (hq : q = none) : Calls Tryz.prog 47 #[.slice q 0 c] w fun r w' => ∃ v, r = .returned v ∧ w'.ownsRow w.heap.size 3 1 v 0 (List.replicate 0 (.int .i64 1)) ∧ Below w.heap.size w w' := by
 subst hq
 have hne : ∀ W : World, (binOp .eql 22 (.slice none 0 c) (.slice none 0 0)).run Tryz.prog W = .ok (.bool true) W := fun W => Lib.run_eql_slice_nil_nil (P := Tryz.prog) W 0 c Tryz.underlying22
 go_enter Tryz.func47, Tryz.ntmps47
 go_wp2_with fail
 go_ret
 exact ⟨_, rfl, World.ownsRow_nil _ _ _ _, Below.refl _ _⟩
theorem Held.partAt (h : Held w hb M vs m ab j base d) (hN : NamesAt w) (i : Nat) (hi : i + 1 ≤ j) (pp : Option Addr) (pc : Nat) (hO : OnesAt w pp i) (h0 : i = 0 → pp = none) (hc : i ≤ pc) (hpc : pc ≤ maxLen) :
  Calls Tryz.prog 18 #[.pointer (some ⟨hb, 0, none⟩), .agg #[.int .i64 9, .string ⟨#[83]⟩, .int .i64 0, .int .u64 0, .string ⟨#[]⟩, .int .i64 ((m : Int) + 1), .int .i64 0, .int .i64 0, .int .i64 0, .slice pp i pc, .slice none 0 0], .int .i64 1, .string ⟨#[83]⟩] w fun r w' => ∃ gp gc, r = .returned (.tuple #[(ptrD m gp (i + 1) gc).val, .nilIface]) ∧ OnesAt w' gp (i + 1) ∧ i + 1 ≤ gc ∧ gc ≤ maxLen ∧ (∀ b o, gp = some ⟨b, o, none⟩ → w.heap.size ≤ b) ∧ Below w.heap.size w w' := by
 obtain ⟨e, hD, hs, hI, ht, hfu⟩ := h.down (i + 1) hi
 have hf := h.few
 have HO := fun W (hW : Below w.heap.size w W) => (h.below hW).object (hN.kept hW) i (by omega) pp pc (hO.below hW) hc hpc
 have HC : ∀ W, Below w.heap.size w W → Calls Tryz.prog 47 #[.slice pp i pc] W fun r w' => ∃ v, r = .returned v ∧ w'.ownsRow W.heap.size 3 1 v i (List.replicate i (.int .i64 1)) ∧ Below W.heap.size W w' := fun W hW => by
  rcases Nat.eq_zero_or_pos i with rfl | hp
  ·exact clone_none W pc pp (h0 rfl)
  ·rcases hO.below hW with e0 | ⟨g, o, rfl, h2, h3⟩
   ·omega
   ·exact clone_ones1 i g o pc W hp (by omega) h2 h3
 have HP : ∀ W pp' pc', Below w.heap.size w W → OnesAt W pp' (i + 1) → Calls Tryz.prog 46 #[d.val, .slice pp' (i + 1) pc'] W fun r w' => r = .returned (.tuple #[e.val, .bool true]) ∧ Below W.heap.size W w' := fun W pp' pc' hW hO' => (h.below hW).part (i + 1) hi e hD pp' pc' hO'
 have hc2 := h.cells
 obtain ⟨⟨k1, t1, n1, f1, s1, x1, y1, z1, u1, pp1, path1, pc1⟩, ip1, ic1, items1⟩ := d
 obtain ⟨⟨k2, t2, n2, f2, s2, x2, y2, z2, u2, pp2, path2, pc2⟩, ip2, ic2, items2⟩ := e
 obtain rfl : t2 = ⟨#[83]⟩ := ht
 exact Part_ptr hb m ab pp i pc (by omega) _ _ _ _ _ _ _ _ _ _ _ k2 n2 f2 s2 x2 y2 z2 u2 pp2 path2 pc2 ip2 ic2 items2 w hc2 HO HC HP
end
end Go.Proofs.YtdbijkgnddcneaaGreatDoor
namespace Go.Proofs.YtdbijkgnddcneaaGreatDoor
open Go.RowKit Go.ChangeMaps
set_option maxRecDepth 100000
set_option maxHeartbeats 4000000
attribute [local go_sem] refold2 cell3_0 cell3_1 b28_0 b28_01 nz26 nz23
def tailP (g o pc : Nat) : Option Addr := if pc = 1 then some ⟨g, o, none⟩ else some ⟨g, o + 1, none⟩
theorem slice1_run (g o j pc : Nat) (w : World) : (Instr.slice 22 (.slice (some ⟨g, o, none⟩) (j + 1) pc) (some (.int .i64 1)) none none).run Tryz.prog w = .ok (.slice (tailP g o pc) j (pc - 1)) w := by
 rw [run_slice_l (P := Tryz.prog) w 22 (some ⟨g, o, none⟩) (j + 1) pc (by kernel_rfl) .i64 1 (by decide) (by omega)]
 have hz : (sizeOf (Tryz.prog.elem 22)).run Tryz.prog w = .ok 1 w := by kernel_rfl
 rw [hz]
 simp only [Result.andThen, sliced, tailP]
 by_cases hp : pc = 1 <;> simp [Addr.add, hp]
theorem tail_ones {w : World} {g o j pc : Nat} (h : OnesAt w (some ⟨g, o, none⟩) (j + 1)) (hc : j + 1 ≤ pc) : OnesAt w (tailP g o pc) j := by
 rcases h with h | ⟨g', o', e, h2, h3⟩
 ·omega
 ·cases e
  rcases Nat.eq_zero_or_pos j with hj | hj
  ·exact .inl hj
  ·refine .inr ⟨g, o + 1, by unfold tailP; rw [if_neg (by omega)], h2, fun i hi => ?_⟩
   rw [show o + 1 + i = o + (i + 1) by omega]
   exact h3 (i + 1) (by omega)
def MD.Avoid (S : Nat → Prop) : Nat → MD → Prop
 | 0, _ => True
 | n + 1, d => (d.h.path = [] ∨ ∀ b o, d.h.pp = some ⟨b, o, none⟩ → ¬ S b) ∧ (d.items = [] ∨ ∀ b o, d.ip = some ⟨b, o, none⟩ → ¬ S b) ∧ ∀ x ∈ d.items, MD.Avoid S n x
theorem MD.In.avoid {S : Nat → Prop} {B : Nat} {w : World} (h : ∀ i, i < B → ¬ S i) : ∀ (n : Nat) (d : MD), MD.In B w n d → MD.Avoid S n d
 | 0, _, h => h.elim
 | n + 1, d, ⟨_, h2, _, _, h5⟩ => by
  refine ⟨?_, ?_, fun x hx => ?_⟩
  ·rcases h2.2 with e | ⟨b, o, e1, e2, _⟩
   ·exact .inl e
   ·exact .inr fun b' o' e => by rw [e1] at e; cases e; exact h b e2
  ·rcases h5 with e | ⟨b, o, e1, e2, _⟩
   ·exact .inl e
   ·exact .inr fun b' o' e => by rw [e1] at e; cases e; exact h b e2
  ·rcases h5 with e | ⟨b, o, _, _, e3⟩
   ·rw [e] at hx; cases hx
   ·obtain ⟨i, hi, rfl⟩ := List.getElem_of_mem hx
    exact MD.In.avoid h n _ (e3 i hi).2
theorem MD.Above.avoid {S : Nat → Prop} {lo : Nat} (h : ∀ i, lo ≤ i → ¬ S i) : ∀ (n : Nat) (d : MD), MD.Above lo n d → MD.Avoid S n d
 | 0, _, _ => trivial
 | n + 1, _, ⟨h1, h2, h3⟩ => ⟨.inr fun b o e => h b (h1 b o e), .inr fun b o e => h b (h2 b o e), fun x hx => MD.Above.avoid h n x (h3 x hx)⟩
theorem MD.Avoid.imp {S S' : Nat → Prop} (h : ∀ i, S' i → S i) : ∀ (n : Nat) (d : MD), MD.Avoid S n d → MD.Avoid S' n d
 | 0, _, _ => trivial
 | n + 1, _, ⟨h1, h2, h3⟩ => ⟨h1.imp id fun f b o e q => f b o e (h b q), h2.imp id fun f b o e q => f b o e (h b q), fun x hx => MD.Avoid.imp h n x (h3 x hx)⟩
theorem MD.Avoid.or {S S' : Nat → Prop} : ∀ (n : Nat) (d : MD), MD.Avoid S n d → MD.Avoid S' n d → MD.Avoid (fun i => S i ∨ S' i) n d
 | 0, _, _, _ => trivial
 | n + 1, d, ⟨h1, h2, h3⟩, ⟨g1, g2, g3⟩ => by
  refine ⟨?_, ?_, fun x hx => MD.Avoid.or n x (h3 x hx) (g3 x hx)⟩
  ·rcases h1 with e | h1
   ·exact .inl e
   ·rcases g1 with e | g1
    ·exact .inl e
    ·exact .inr fun b o e q => q.elim (h1 b o e) (g1 b o e)
  ·rcases h2 with e | h2
   ·exact .inl e
   ·rcases g2 with e | g2
    ·exact .inl e
    ·exact .inr fun b o e q => q.elim (h2 b o e) (g2 b o e)
theorem MD.In.apart {S : Nat → Prop} {B : Nat} {w w' : World} (hh : ∀ b, ¬ S b → b < B → w'.heap[b]? = w.heap[b]?) : ∀ (n : Nat) (d : MD), MD.In B w n d → MD.Avoid S n d → MD.In B w' n d
 | 0, _, h, _ => h
 | n + 1, d, ⟨h1, h2, h3, h4, h5⟩, ⟨a1, a2, a3⟩ => by
  refine ⟨h1, ⟨h2.1, ?_⟩, h3, h4, ?_⟩
  ·rcases h2.2 with e | ⟨b, o, e1, e2, e3⟩
   ·exact .inl e
   ·rcases a1 with e | a1
    ·exact .inl e
    ·have := a1 b o e1
     exact .inr ⟨b, o, e1, e2, fun i hi => (World.cell?_of_block (a := ⟨b, o + i, none⟩) (hh b this e2)).trans (e3 i hi)⟩
  ·rcases h5 with e | ⟨b, o, e1, e2, e3⟩
   ·exact .inl e
   ·rcases a2 with e | a2
    ·exact .inl e
    ·have := a2 b o e1
     exact .inr ⟨b, o, e1, e2, fun i hi => ⟨(e3 i hi).1.other (hh b this e2), MD.In.apart hh n _ (e3 i hi).2 (a3 _ (List.getElem_mem hi))⟩⟩
theorem replaced_0 (d e : MD) (pp : Option Addr) (pc : Nat) (w : World) : Calls Tryz.prog 49 #[d.val, .slice pp 0 pc, e.val] w fun r w' => r = .returned e.val ∧ Below w.heap.size w w' := by
 obtain ⟨⟨k1, t1, n1, f1, s1, x1, y1, z1, u1, pp1, path1, pc1⟩, ip1, ic1, items1⟩ := d
 obtain ⟨⟨k4, t4, n4, f4, s4, x4, y4, z4, u4, pp4, path4, pc4⟩, ip4, ic4, items4⟩ := e
 simp only [MD.val, D]
 go_enter Tryz.func49, Tryz.ntmps49
 go_wp2_with fail
 obtain ⟨U0, hU0⟩ : ∃ W, W = ((w.alloc (.cells #[.int .i64 k1, .string t1, .int .i64 n1, .int .u64 f1, .string s1, .int .i64 x1, .int .i64 y1, .int .i64 z1, .int .i64 u1, .slice pp1 path1.length pc1, .slice ip1 items1.length ic1] 32)).alloc (.cells #[.int .i64 k4, .string t4, .int .i64 n4, .int .u64 f4, .string s4, .int .i64 x4, .int .i64 y4, .int .i64 z4, .int .i64 u4, .slice pp4 path4.length pc4, .slice ip4 items4.length ic4] 32)).alloc (.cells #[.int .i64 k4, .string t4, .int .i64 n4, .int .u64 f4, .string s4, .int .i64 x4, .int .i64 y4, .int .i64 z4, .int .i64 u4, .slice pp4 path4.length pc4, .slice ip4 items4.length ic4] 32) := ⟨_, rfl⟩
 have u0 : Below w.heap.size w U0 := by rw [hU0]; exact below3 w _ _ _
 have z0 : U0.heap[w.heap.size + 1 + 1]? = some (.cells #[.int .i64 k4, .string t4, .int .i64 n4, .int .u64 f4, .string s4, .int .i64 x4, .int .i64 y4, .int .i64 z4, .int .i64 u4, .slice pp4 path4.length pc4, .slice ip4 items4.length ic4] 32) := by
  rw [hU0]
  have := heap_alloc_new ((w.alloc (.cells #[.int .i64 k1, .string t1, .int .i64 n1, .int .u64 f1, .string s1, .int .i64 x1, .int .i64 y1, .int .i64 z1, .int .i64 u1, .slice pp1 path1.length pc1, .slice ip1 items1.length ic1] 32)).alloc (.cells #[.int .i64 k4, .string t4, .int .i64 n4, .int .u64 f4, .string s4, .int .i64 x4, .int .i64 y4, .int .i64 z4, .int .i64 u4, .slice pp4 path4.length pc4, .slice ip4 items4.length ic4] 32)) (.cells #[.int .i64 k4, .string t4, .int .i64 n4, .int .u64 f4, .string s4, .int .i64 x4, .int .i64 y4, .int .i64 z4, .int .i64 u4, .slice pp4 path4.length pc4, .slice ip4 items4.length ic4] 32)
  simpa using this
 rw [← hU0]
 clear hU0
 have zc := (cells_of z0).1
 exact bodyPost_ret (v := .agg #[.int .i64 k4, .string t4, .int .i64 n4, .int .u64 f4, .string s4, .int .i64 x4, .int .i64 y4, .int .i64 z4, .int .i64 u4, .slice pp4 path4.length pc4, .slice ip4 items4.length ic4]) (by simp [results, Tryz.results49, go_sem, zc]) rfl ⟨rfl, u0⟩
theorem replaced_s (d a b e : MD) (q j g o pc : Nat) (hj : j ≤ 100) (hpc : j + 1 ≤ pc) (hpm : pc ≤ maxLen) (R : Nat → MD → World → Prop) (w : World) (hit : d.items = [a, b]) (hI : MD.In w.heap.size w (q + 1) d) (hO : OnesAt w (some ⟨g, o, none⟩) (j + 1))
  (hR : ∀ W, Below w.heap.size w W → ∀ pp pc', OnesAt W pp j → j ≤ pc' → pc' ≤ maxLen → Calls Tryz.prog 49 #[b.val, .slice pp j pc', e.val] W fun r w' => ∃ b', r = .returned b'.val ∧ R W.heap.size b' w' ∧ Below W.heap.size W w') :
  Calls Tryz.prog 49 #[d.val, .slice (some ⟨g, o, none⟩) (j + 1) pc, e.val] w fun r w' => ∃ (b' : MD) (g' cap L : Nat) (W : World), r = .returned (MD.mk d.h (some ⟨g', 0, none⟩) cap [a, b']).val ∧ 2 ≤ cap ∧ cap ≤ maxLen ∧ MD.CellsAt w' g' (0 * 11) a ∧ MD.CellsAt w' g' (1 * 11) b' ∧ R L b' W ∧ Kp (fun i => i = g' ∨ (w.heap.size ≤ i ∧ i < w.heap.size + 3)) W w' ∧ g' < L ∧ L ≤ W.heap.size ∧ w.heap.size + 3 ≤ g' ∧ Below w.heap.size w w' := by
 have HR : Hid _ := hR
 have HO : Hid _ := hO
 clear hR hO
 obtain ⟨⟨k7, t7, n7, f7, s7, x7, y7, z7, u7, pp7, path7, pc7⟩, ip7, ic7, items7⟩ := d
 obtain rfl : items7 = [a, b] := hit
 obtain ⟨_, _, hl1, _, h5⟩ := hI
 rcases h5 with h5 | ⟨gi, oi, e1, e2, e3⟩
 ·cases h5
 obtain rfl : ip7 = some ⟨gi, oi, none⟩ := e1
 have HC : Hid (∀ W, Below w.heap.size w W → Calls Tryz.prog 68 #[.slice (some ⟨gi, oi, none⟩) 2 ic7] W fun r w' => ∃ v, r = .returned v ∧ w'.ownsRow W.heap.size 32 11 v 2 (rowOf [a, b]) ∧ Below W.heap.size W w') := fun W hW => clone_rows [a, b] gi oi ic7 W (by simp) (by simp) (Nat.lt_of_lt_of_le e2 hW.size) fun i hi => (e3 i hi).1.below e2 hW
 clear e3
 obtain ⟨⟨k8, t8, n8, f8, s8, x8, y8, z8, u8, pp8, path8, pc8⟩, ip8, ic8, items8⟩ := e
 simp only [MD.val, D, List.length_cons, List.length_nil, Nat.zero_add, Nat.reduceAdd]
 go_enter Tryz.func49, Tryz.ntmps49
 go_wp2_with fail
 obtain ⟨U0, hU0⟩ : ∃ W, W = ((w.alloc (.cells #[.int .i64 k7, .string t7, .int .i64 n7, .int .u64 f7, .string s7, .int .i64 x7, .int .i64 y7, .int .i64 z7, .int .i64 u7, .slice pp7 path7.length pc7, .slice (some ⟨gi, oi, none⟩) 2 ic7] 32)).alloc (.cells #[.int .i64 k8, .string t8, .int .i64 n8, .int .u64 f8, .string s8, .int .i64 x8, .int .i64 y8, .int .i64 z8, .int .i64 u8, .slice pp8 path8.length pc8, .slice ip8 items8.length ic8] 32)).alloc (.cells #[.int .i64 0, .string ⟨#[]⟩, .int .i64 0, .int .u64 0, .string ⟨#[]⟩, .int .i64 0, .int .i64 0, .int .i64 0, .int .i64 0, .slice none 0 0, .slice none 0 0] 32) := ⟨_, rfl⟩
 have u0 : Below w.heap.size w U0 := by rw [hU0]; exact below3 w _ _ _
 have d0 : U0.heap[w.heap.size]? = some (.cells #[.int .i64 k7, .string t7, .int .i64 n7, .int .u64 f7, .string s7, .int .i64 x7, .int .i64 y7, .int .i64 z7, .int .i64 u7, .slice pp7 path7.length pc7, .slice (some ⟨gi, oi, none⟩) 2 ic7] 32) := by
  rw [hU0, Below.heap_alloc _ _ _ (by simp; omega), Below.heap_alloc _ _ _ (by simp)]
  exact heap_alloc_new _ _
 have e0 : U0.heap[w.heap.size + 1]? = some (.cells #[.int .i64 k8, .string t8, .int .i64 n8, .int .u64 f8, .string s8, .int .i64 x8, .int .i64 y8, .int .i64 z8, .int .i64 u8, .slice pp8 path8.length pc8, .slice ip8 items8.length ic8] 32) := by
  rw [hU0, Below.heap_alloc _ _ _ (by simp)]
  have := heap_alloc_new (w.alloc (.cells #[.int .i64 k7, .string t7, .int .i64 n7, .int .u64 f7, .string s7, .int .i64 x7, .int .i64 y7, .int .i64 z7, .int .i64 u7, .slice pp7 path7.length pc7, .slice (some ⟨gi, oi, none⟩) 2 ic7] 32)) (.cells #[.int .i64 k8, .string t8, .int .i64 n8, .int .u64 f8, .string s8, .int .i64 x8, .int .i64 y8, .int .i64 z8, .int .i64 u8, .slice pp8 path8.length pc8, .slice ip8 items8.length ic8] 32)
  simpa using this
 have z0 : U0.heap[w.heap.size + 1 + 1]? = some (.cells #[.int .i64 0, .string ⟨#[]⟩, .int .i64 0, .int .u64 0, .string ⟨#[]⟩, .int .i64 0, .int .i64 0, .int .i64 0, .int .i64 0, .slice none 0 0, .slice none 0 0] 32) := by
  rw [hU0]
  have := heap_alloc_new ((w.alloc (.cells #[.int .i64 k7, .string t7, .int .i64 n7, .int .u64 f7, .string s7, .int .i64 x7, .int .i64 y7, .int .i64 z7, .int .i64 u7, .slice pp7 path7.length pc7, .slice (some ⟨gi, oi, none⟩) 2 ic7] 32)).alloc (.cells #[.int .i64 k8, .string t8, .int .i64 n8, .int .u64 f8, .string s8, .int .i64 x8, .int .i64 y8, .int .i64 z8, .int .i64 u8, .slice pp8 path8.length pc8, .slice ip8 items8.length ic8] 32)) (.cells #[.int .i64 0, .string ⟨#[]⟩, .int .i64 0, .int .u64 0, .string ⟨#[]⟩, .int .i64 0, .int .i64 0, .int .i64 0, .int .i64 0, .slice none 0 0, .slice none 0 0] 32)
  simpa using this
 rw [← hU0]
 clear hU0
 refine (HC.out _ u0).mono ?_
 rintro _ U1 ⟨v, rfl, ov, k1⟩
 have u1 : Below w.heap.size w U1 := u0.trans (k1.mono u0.size)
 have d1 := (k1.block _ (hblk d0)).trans d0
 have e1 := (k1.block _ (hblk e0)).trans e0
 have z1 := (k1.block _ (hblk z0)).trans z0
 have hz0 := hblk z0
 rcases ov.2 with ⟨_, h0⟩ | ⟨g', cap, cur, rfl, hg1, hg2, hcap, hcm, hcs, hct⟩
 ·cases h0
 have lg := hblk hg2
 clear d0 e0 z0 u0 k1 HC ov
 obtain ⟨dc, df⟩ := cells_of d1
 go_wp2_with fail
 obtain ⟨U2, hU2⟩ : ∃ W, W = U1.setCell ⟨w.heap.size, 10, none⟩ (.slice (some ⟨g', 0, none⟩) 2 cap) := ⟨_, rfl⟩
 rw [← hU2]
 have d2 : U2.heap[w.heap.size]? = some (.cells #[.int .i64 k7, .string t7, .int .i64 n7, .int .u64 f7, .string s7, .int .i64 x7, .int .i64 y7, .int .i64 z7, .int .i64 u7, .slice pp7 path7.length pc7, .slice (some ⟨g', 0, none⟩) 2 cap] 32) := by rw [hU2]; have := heap_set d1 10 (.slice (some ⟨g', 0, none⟩) 2 cap); simpa using this
 have k2 : Kp (· = w.heap.size) U1 U2 := by rw [hU2]; exact Kp.set _ _ _ _ rfl
 have e2' := (k2.block _ (hblk e1) (by omega)).trans e1
 have z2 := (k2.block _ (hblk z1) (by omega)).trans z1
 have g2 := (k2.block _ (hblk hg2) (by omega)).trans hg2
 have u2 : Below w.heap.size w U2 := u1.trans (k2.below u1.size fun i hi e => by omega)
 clear hU2 d1 e1 z1 hg2 u1 dc df
 obtain ⟨dc, df⟩ := cells_of d2
 have hpc0 : ∃ g1 o1, (some ⟨g, o, none⟩ : Option Addr) = some ⟨g1, o1, none⟩ ∧ U2.cell? ⟨g1, o1, none⟩ = some (.int .i64 1) ∧ g1 < w.heap.size := by
  rcases HO.out with h0 | ⟨g1, o1, h1, h2, h3⟩
  ·omega
  ·exact ⟨g1, o1, h1, (u2.cell (p := ⟨g1, o1, none⟩) h2).trans (h3 0 (by omega)), h2⟩
 obtain ⟨g1, o1, hgo, hpv, hgl⟩ := hpc0
 cases hgo
 refine rg (S := fun W => (∀ j, W.cell? ⟨w.heap.size, j, none⟩ = (#[.int .i64 k7, .string t7, .int .i64 n7, .int .u64 f7, .string s7, .int .i64 x7, .int .i64 y7, .int .i64 z7, .int .i64 u7, .slice pp7 path7.length pc7, .slice (some ⟨g', 0, none⟩) 2 cap] : Array Value)[j]?) ∧ W.cell? ⟨g, o, none⟩ = some (.int .i64 1)) (fun U3 hB4 HU3 => ?_)
 have hS : (∀ j, U3.cell? ⟨w.heap.size, j, none⟩ = (#[.int .i64 k7, .string t7, .int .i64 n7, .int .u64 f7, .string s7, .int .i64 x7, .int .i64 y7, .int .i64 z7, .int .i64 u7, .slice pp7 path7.length pc7, .slice (some ⟨g', 0, none⟩) 2 cap] : Array Value)[j]?) ∧ U3.cell? ⟨g, o, none⟩ = some (.int .i64 1) := ⟨(cells_of ((hB4.block _ (hblk d2)).trans d2)).1, (hB4.cell (p := ⟨g, o, none⟩) (World.block_lt_of_cell? _ _ hpv)).trans hpv⟩
 refine tq 0 (.pointer (some ⟨w.heap.size, 10, none⟩)) rfl hS ?_
 simp only [sa, sb, Act.put, sd, se, sf]
 refine tk 1 (.slice (some ⟨g', 0, none⟩) 2 cap) rfl (.inl ⟨by rfl, ?r⟩) hS ?_
 case r => intro W hW; simp [go_sem, execOp, Act.eval, hW.1]
 simp only [sa, sb, sc, Act.put, sd, se, sf]
 refine tq 2 (.slice (some ⟨g, o, none⟩) (j + 1) pc) rfl hS ?_
 simp only [sa, sb, sc, Act.put, sd, se, sf]
 refine tq 3 (.pointer (some ⟨g, o, none⟩)) rfl hS ?_
 simp only [sa, sb, sc, Act.put, sd, se, sf]
 refine tk 4 (.int .i64 1) rfl (.inl ⟨by rfl, ?r⟩) hS ?_
 case r => intro W hW; simp [go_sem, execOp, Act.eval, hW.2]
 simp only [sa, sb, sc, Act.put, sd, se, sf]
 refine tq 5 (.pointer (some ⟨g', 11, none⟩)) rfl hS ?_
 simp only [sa, sb, sc, Act.put, sd, se, sf]
 refine tq 6 (.pointer (some ⟨g', 11, none⟩)) rfl hS ?_
 simp only [sa, sb, sc, Act.put, sd, se, sf]
 have d3 := (hB4.block _ (hblk d2)).trans d2
 have e3 := (hB4.block _ (hblk e2')).trans e2'
 have z3 := (hB4.block _ (hblk z2)).trans z2
 have g3 := (hB4.block _ (hblk g2)).trans g2
 have u3 : Below w.heap.size w U3 := u2.trans (hB4.mono u2.size)
 clear HU3 hB4 hS d2 e2' z2 g2 k2 u2 dc df hpv
 refine dn ?_
 try simp only [Act.put]
 clear hj
 go_wp2_with fail
 refine rg (S := fun W => (∀ j, W.cell? ⟨w.heap.size + 1, j, none⟩ = (#[.int .i64 k8, .string t8, .int .i64 n8, .int .u64 f8, .string s8, .int .i64 x8, .int .i64 y8, .int .i64 z8, .int .i64 u8, .slice pp8 path8.length pc8, .slice ip8 items8.length ic8] : Array Value)[j]?)) (fun U4 hB4 HU4 => ?_)
 have hS := (cells_of ((hB4.block _ (hblk e3)).trans e3)).1
 refine tq 0 (.pointer (some ⟨g', 11, none⟩)) rfl hS ?_
 simp only [sa, sb, Act.put, sd, se, sf]
 refine tq 1 (.pointer (some ⟨g', 11, none⟩)) rfl hS ?_
 simp only [sa, sb, sc, Act.put, sd, se, sf]
 refine tq 2 (.pointer (some ⟨g', 11, none⟩)) rfl hS ?_
 simp only [sa, sb, sc, Act.put, sd, se, sf]
 refine tq 4 (.slice (some ⟨g, o, none⟩) (j + 1) pc) rfl hS ?_
 simp only [sa, sb, sc, Act.put, sd, se, sf]
 refine tk 5 (.slice (tailP g o pc) j (pc - 1)) rfl (.inl ⟨by rfl, ?r⟩) hS ?_
 case r => intro W hW; simp [go_sem, execOp, Act.eval, slice1_run g o j pc W]
 simp only [sa, sb, sc, Act.put, sd, se, sf]
 refine tk 6 (.agg #[.int .i64 k8, .string t8, .int .i64 n8, .int .u64 f8, .string s8, .int .i64 x8, .int .i64 y8, .int .i64 z8, .int .i64 u8, .slice pp8 path8.length pc8, .slice ip8 items8.length ic8]) rfl (.inl ⟨by rfl, ?r⟩) hS ?_
 case r => intro W hW; simp [go_sem, execOp, Act.eval, hW]
 simp only [sa, sb, sc, Act.put, sd, se, sf]
 have d4 := (hB4.block _ (hblk d3)).trans d3
 have e4 := (hB4.block _ (hblk e3)).trans e3
 have z4 := (hB4.block _ (hblk z3)).trans z3
 have g4 := (hB4.block _ (hblk g3)).trans g3
 have u4 : Below w.heap.size w U4 := u3.trans (hB4.mono u3.size)
 have ca4 : MD.CellsAt U4 g' (0 * 11) a := rowOf_at (items := [a, b]) g4 hct 0 (by simp)
 have cb4 : MD.CellsAt U4 g' (1 * 11) b := rowOf_at (items := [a, b]) g4 hct 1 (by simp)
 have t4 : U4.there g' 0 22 := there_at g4 (by rw [hcs]; omega)
 clear HU4 hB4 d3 e3 z3 g3 u3
 refine one 3 rfl (fun K hK => ?_)
 simp only [sa, sb, sc]
 refine wp_load_mid 32 _ rfl g' 11 rfl b.cells.toList _ (rangeAt_cells.1 cb4) Tryz.underlying32 rfl info32 ?_
 refine hK _ _ ⟨hS, ?_⟩
 clear hK K cb4
 have hv : Value.agg b.cells.toList.toArray = b.val := by rw [Array.toArray_toList]; rfl
 rw [hv]
 clear hv
 try simp only [Act.put, sd, se, sf]
 refine one 7 rfl (fun K hK => ?_)
 simp only [sa, sb, sc]
 go_simp
 refine (HR.out _ u4 _ _ ((tail_ones HO.out hpc).below u4) (by omega) (by omega)).mono ?_
 rintro _ U5 ⟨b', rfl, hRb, k5⟩
 have d5 := (k5.block _ (hblk d4)).trans d4
 have e5 := (k5.block _ (hblk e4)).trans e4
 have z5 := (k5.block _ (hblk z4)).trans z4
 have ca5 := ca4.below (hblk g4) k5
 have t5' := there_below t4 (hblk g4) k5
 have z45 := k5.size
 have l4 := hblk g4
 have l5 : g' < U5.heap.size := Nat.lt_of_lt_of_le (hblk g4) k5.size
 have u5 : Below w.heap.size w U5 := u4.trans (k5.mono u4.size)
 clear d4 e4 z4 ca4 t4 g4 u4 k5 hS
 go_simp
 have hS := (cells_of e5).1
 refine hK _ _ ⟨hS, ?_⟩
 clear hK K
 try simp only [Act.put, sd, se, sf]
 refine tq 8 (.pointer (some ⟨g', 11, none⟩)) rfl hS ?_
 simp only [sa, sb, sc, Act.put, sd, se, sf]
 refine one 9 rfl (fun K hK => ?_)
 simp only [sa, sb, sc]
 refine wp_store_mid 32 _ _ rfl g' 11 b'.cells rfl rfl (there_part (k := 11) (n := 11) t5' (by omega)) info32 (by simp [MD.cells, Value.oneCell']) ?_
 have k6 : Kp (· = g') U5 (U5.setCells g' 11 b'.cells.toList) := kp_setCells _ _ _
 have ca6 : MD.CellsAt (U5.setCells g' 11 b'.cells.toList) g' (0 * 11) a := rangeAt_cells.2 (World.rangeAt_setCells_apart (rangeAt_cells.1 ca5) _ _ _ (.inr (.inl (Nat.le_refl 11))))
 have cb6 : MD.CellsAt (U5.setCells g' 11 b'.cells.toList) g' (1 * 11) b' := rangeAt_cells.2 (World.rangeAt_setCells_same _ _ _ _ (there_part (k := 11) (n := 11) t5' (by omega)))
 obtain ⟨U6, hU6⟩ : ∃ W, W = U5.setCells g' 11 b'.cells.toList := ⟨_, rfl⟩
 rw [← hU6] at k6 ca6 cb6 ⊢
 clear hU6
 have d6 := (k6.block _ (hblk d5) (by omega)).trans d5
 have z6 := (k6.block _ (hblk z5) (by omega)).trans z5
 have u6 : Below w.heap.size w U6 := u5.trans (k6.below u5.size fun i hi e => by omega)
 refine hK _ _ ⟨(cells_of ((k6.block _ (hblk e5) (by omega)).trans e5)).1, ?_⟩
 clear hK K hS d5 e5 z5 ca5 t5' u5
 try simp only [Act.put]
 refine dn ?_
 try simp only [Act.put]
 have dc := (cells_of d6).1
 obtain ⟨rc, rf⟩ := cells_of z6
 go_wp2_with fail
 have kU7 := kp_eleven U6 (w.heap.size + 1 + 1) (.int .i64 k7) (.string t7) (.int .i64 n7) (.int .u64 f7) (.string s7) (.int .i64 x7) (.int .i64 y7) (.int .i64 z7) (.int .i64 u7) (.slice pp7 path7.length pc7) (.slice (some ⟨g', 0, none⟩) 2 cap)
 have hrU7 := eleven_set z6 (.int .i64 k7) (.string t7) (.int .i64 n7) (.int .u64 f7) (.string s7) (.int .i64 x7) (.int .i64 y7) (.int .i64 z7) (.int .i64 u7) (.slice pp7 path7.length pc7) (.slice (some ⟨g', 0, none⟩) 2 cap)
 obtain ⟨U7, hU7⟩ : ∃ W, W = (((((((((((U6.setCell ⟨w.heap.size + 1 + 1, 0, none⟩ (.int .i64 k7)).setCell ⟨w.heap.size + 1 + 1, 1, none⟩ (.string t7)).setCell ⟨w.heap.size + 1 + 1, 2, none⟩ (.int .i64 n7)).setCell ⟨w.heap.size + 1 + 1, 3, none⟩ (.int .u64 f7)).setCell ⟨w.heap.size + 1 + 1, 4, none⟩ (.string s7)).setCell ⟨w.heap.size + 1 + 1, 5, none⟩ (.int .i64 x7)).setCell ⟨w.heap.size + 1 + 1, 6, none⟩ (.int .i64 y7)).setCell ⟨w.heap.size + 1 + 1, 7, none⟩ (.int .i64 z7)).setCell ⟨w.heap.size + 1 + 1, 8, none⟩ (.int .i64 u7)).setCell ⟨w.heap.size + 1 + 1, 9, none⟩ (.slice pp7 path7.length pc7)).setCell ⟨w.heap.size + 1 + 1, 10, none⟩ (.slice (some ⟨g', 0, none⟩) 2 cap)) := ⟨_, rfl⟩
 rw [← hU7] at kU7 hrU7 ⊢
 clear hU7
 have rcU7 := (cells_of hrU7).1
 have l6 : g' < U6.heap.size := Nat.lt_of_lt_of_le l5 k6.size
 have kk : Kp (fun i => i = g' ∨ (w.heap.size ≤ i ∧ i < w.heap.size + 3)) U5 U7 := (Kp.trans (S := fun i => i = g' ∨ (w.heap.size ≤ i ∧ i < w.heap.size + 3)) ⟨k6.os, k6.tape, k6.output, k6.size, fun i h1 h2 => k6.block i h1 (fun e => h2 (.inl e))⟩ kU7 fun i _ e => .inr ⟨by omega, by omega⟩)
 exact bodyPost_ret (v := .agg #[.int .i64 k7, .string t7, .int .i64 n7, .int .u64 f7, .string s7, .int .i64 x7, .int .i64 y7, .int .i64 z7, .int .i64 u7, .slice pp7 path7.length pc7, .slice (some ⟨g', 0, none⟩) 2 cap]) (by simp [results, Tryz.results49, go_sem, rcU7]) rfl ⟨b', g', cap, U4.heap.size, U5, rfl, hcap, hcm, ca6.other (kU7.block _ l6 (by omega)), cb6.other (kU7.block _ l6 (by omega)), hRb, kk, l4, z45, by omega, u6.trans (kU7.below u6.size fun i hi e => by omega)⟩
theorem replaced_tow {base1 base2 : MD} (e : MD) (hs : MD.same 5 base2 e = true) : ∀ (j : Nat) (d : MD) (pp : Option Addr) (pc : Nat) (w : World) (S : Nat → Prop), j ≤ 100 → MD.In w.heap.size w (5 + j) d → MD.same (5 + j) (tow base1 j) d = true → MD.In w.heap.size w 5 e → (∀ i, S i → i < w.heap.size) → MD.Avoid S 5 e → OnesAt w pp j → j ≤ pc → pc ≤ maxLen →
  Calls Tryz.prog 49 #[d.val, .slice pp j pc, e.val] w fun r w' => ∃ r', r = .returned r'.val ∧ (MD.In w'.heap.size w' (5 + j) r' ∧ MD.Avoid S (5 + j) r' ∧ MD.same (5 + j) (tow base2 j) r' = true) ∧ Below w.heap.size w w'
 | 0, d, pp, pc, w, S, _, _, _, he, _, ha, _, _, _ => by
  refine (replaced_0 d e pp pc w).mono ?_
  rintro _ w' ⟨rfl, hB⟩
  exact ⟨e, rfl, ⟨MD.In.mono hB.size _ _ (MD.In.below hB _ _ he), ha, hs⟩, hB⟩
 | j + 1, d, pp, pc, w, S, hj, hI, hd, he, hS, ha, hO, hc, hpc => by
  obtain ⟨a, b, hit, hsa, hsb, hk, ht⟩ := tow_parts hd
  have hph : d.h.path = [] := (same_parts (n := 5 + j) hd).2.2.2.2.2.2.2.2.2.2.1
  obtain ⟨g, o, hpp⟩ : ∃ g o, pp = some ⟨g, o, none⟩ := by
   rcases hO with h0 | ⟨g, o, h1, _⟩
   ·omega
   ·exact ⟨g, o, h1⟩
  subst hpp
  obtain ⟨hF, _, _, _, h5⟩ := (show MD.In w.heap.size w (5 + j + 1) d from hI)
  have hIab : MD.In w.heap.size w (5 + j) a ∧ MD.In w.heap.size w (5 + j) b := by
   rcases h5 with h5 | ⟨gi, oi, _, _, e3⟩
   ·rw [hit] at h5; cases h5
   ·have q0 := (e3 0 (by rw [hit]; simp)).2
    have q1 := (e3 1 (by rw [hit]; simp)).2
    simp only [hit, List.getElem_cons_succ, List.getElem_cons_zero] at q0 q1
    exact ⟨q0, q1⟩
  obtain ⟨hak, _, hai, hap⟩ := same_flat (n := 4 + j) (show MD.same (4 + j + 1) (wholeD (j : Int)) a = true by rw [show 4 + j + 1 = 5 + j by omega]; exact hsa)
  refine (replaced_s d a b e (5 + j) j g o pc (by omega) hc hpc (fun L b' W => MD.In W.heap.size W (5 + j) b' ∧ MD.Avoid (fun i => S i ∨ (w.heap.size ≤ i ∧ i < L)) (5 + j) b' ∧ MD.same (5 + j) (tow base2 j) b' = true) w hit hI hO ?_).mono ?_
  ·intro W hW pp' pc' hO' hc' hpc'
   exact replaced_tow e hs j b pp' pc' W (fun i => S i ∨ (w.heap.size ≤ i ∧ i < W.heap.size)) (by omega) (MD.In.mono hW.size _ _ (MD.In.below hW _ _ hIab.2)) hsb (MD.In.mono hW.size _ _ (MD.In.below hW _ _ he)) (fun i hi => hi.elim (fun h => Nat.lt_of_lt_of_le (hS i h) hW.size) (fun h => h.2)) (MD.Avoid.or _ _ ha (MD.In.avoid (fun i hi q => by omega) _ _ he)) hO' hc' hpc'
  ·rintro _ w' ⟨b', g', cap, L, W, rfl, hcap, hcm, ca, cb, ⟨hIb, hAb, hsb'⟩, hK, hg, hL, hg3, hB⟩
   refine ⟨_, rfl, ⟨?_, ?_, ?_⟩, hB⟩
   ·refine ⟨hF, ⟨fun x hx => (by have : x ∈ d.h.path := hx; rw [hph] at this; cases this), .inl hph⟩, hcap, hcm, .inr ⟨g', 0, rfl, ?_, fun i hi => ?_⟩⟩
    ·have := hK.size; omega
    ·have hi2 : i = 0 ∨ i = 1 := by have : i < 2 := hi; omega
     rcases hi2 with rfl | rfl
     ·rw [Nat.zero_add]
      exact ⟨ca, MD.In.mono hB.size _ _ (MD.In.below hB _ _ hIab.1)⟩
     ·rw [Nat.zero_add]
      refine ⟨cb, MD.In.mono hK.size _ _ (MD.In.apart (S := fun i => S i ∨ (w.heap.size ≤ i ∧ i < L)) (fun b h1 h2 => hK.block b h2 (fun q => h1 (.inr ?_))) _ _ hIb hAb)⟩
      omega
   ·refine ⟨.inl hph, .inr fun b o e q => ?_, fun x hx => ?_⟩
    ·cases e
     have := hS _ q
     omega
    ·have hx2 : x = a ∨ x = b' := by simpa using hx
     rcases hx2 with rfl | rfl
     ·obtain ⟨n, hn⟩ : ∃ n, 5 + j = n + 1 := ⟨4 + j, by omega⟩
      show MD.Avoid S (5 + j) _
      rw [hn]
      exact ⟨.inl hap, .inl hai, fun y hy => by rw [hai] at hy; cases hy⟩
     ·exact MD.Avoid.imp (fun i q => .inl q) _ _ hAb
   ·have h1 := hd
    have h2 : (sameH (pairE 0 (wholeD (j : Int)) (tow base1 j)).h d.h 2 d.items.length && decide (([] : List Int) = d.h.path) && all2 (MD.same (5 + j)) [wholeD (j : Int), tow base1 j] d.items) = true := h1
    rw [hit, Bool.and_eq_true, Bool.and_eq_true] at h2
    show (sameH (pairE 0 (wholeD (j : Int)) (tow base2 j)).h d.h 2 2 && decide (([] : List Int) = d.h.path) && all2 (MD.same (5 + j)) [wholeD (j : Int), tow base2 j] [a, b']) = true
    rw [Bool.and_eq_true, Bool.and_eq_true]
    refine ⟨⟨h2.1.1, h2.1.2⟩, ?_⟩
    simp [all2, hsa, hsb']
end Go.Proofs.YtdbijkgnddcneaaGreatDoor
namespace Go.Proofs.YtdbijkgnddcneaaGreatDoor
open Go.RowKit Go.ChangeMaps
set_option maxRecDepth 100000
set_option maxHeartbeats 4000000
attribute [local go_sem] refold2 cell3_0 cell3_1 b28_0 b28_01 nz26 nz23
theorem size_flat (d : MD) (hi : d.items = []) (w : World) : Calls Tryz.prog 50 #[d.val] w fun r w' => r = .returned (.int .i64 1) ∧ Below w.heap.size w w' := by
 obtain ⟨⟨k1, t1, n1, f1, s1, x1, y1, z1, u1, pp1, path1, pc1⟩, ip1, ic1, items1⟩ := d
 obtain rfl : items1 = [] := hi
 simp only [MD.val, D]
 go_enter Tryz.func50, Tryz.ntmps50
 go_wp2_with fail
 have u0 := below1 w (.cells #[.int .i64 k1, .string t1, .int .i64 n1, .int .u64 f1, .string s1, .int .i64 x1, .int .i64 y1, .int .i64 z1, .int .i64 u1, .slice pp1 path1.length pc1, .slice ip1 0 ic1] 32)
 obtain ⟨U0, hU0⟩ : ∃ W, W = w.alloc (.cells #[.int .i64 k1, .string t1, .int .i64 n1, .int .u64 f1, .string s1, .int .i64 x1, .int .i64 y1, .int .i64 z1, .int .i64 u1, .slice pp1 path1.length pc1, .slice ip1 0 ic1] 32) := ⟨_, rfl⟩
 try simp only [List.length_nil]
 rw [← hU0] at u0 ⊢
 clear hU0
 go_loopw [3, 9] (fun s i wr => i = .int .i64 0 ∧ s = .int .i64 1 ∧ wr = U0) (fun _ _ _ => 0)
 case atStart => exact ⟨rfl, rfl, rfl⟩
 case round =>
  obtain ⟨rfl, rfl, e⟩ := hrel
  obtain rfl := e.symm
  go_wp2_with fail
  go_ret
  exact ⟨rfl, u0⟩
def SzRel (sz1 sz2 : Nat) (w : World) (s i : Value) (wr : World) : Prop := Below w.heap.size w wr ∧ ((i = .int .i64 0 ∧ s = .int .i64 1) ∨ (i = .int .i64 1 ∧ s = .int .i64 (1 + (sz1 : Int))) ∨ (i = .int .i64 2 ∧ s = .int .i64 (1 + (sz1 : Int) + (sz2 : Int))))
theorem size_two (d a b : MD) (q sz1 sz2 : Nat) (hs1 : sz1 ≤ 1000) (hs2 : sz2 ≤ 1000) (w : World) (hit : d.items = [a, b]) (hI : MD.In w.heap.size w (q + 1) d)
  (ha : ∀ W, Below w.heap.size w W → Calls Tryz.prog 50 #[a.val] W fun r w' => r = .returned (.int .i64 sz1) ∧ Below W.heap.size W w')
  (hb : ∀ W, Below w.heap.size w W → Calls Tryz.prog 50 #[b.val] W fun r w' => r = .returned (.int .i64 sz2) ∧ Below W.heap.size W w') :
  Calls Tryz.prog 50 #[d.val] w fun r w' => r = .returned (.int .i64 (1 + (sz1 : Int) + (sz2 : Int))) ∧ Below w.heap.size w w' := by
 have HA : Hid _ := ha
 have HB : Hid _ := hb
 clear ha hb
 obtain ⟨⟨k1, t1, n1, f1, s1, x1, y1, z1, u1, pp1, path1, pc1⟩, ip1, ic1, items1⟩ := d
 obtain rfl : items1 = [a, b] := hit
 obtain ⟨_, _, hl1, _, h5⟩ := hI
 rcases h5 with h5 | ⟨gi, oi, e1, e2, e3⟩
 ·cases h5
 obtain rfl : ip1 = some ⟨gi, oi, none⟩ := e1
 have HCa : Hid (MD.CellsAt w gi (oi + 0 * 11) a) := (e3 0 (by simp)).1
 have HCb : Hid (MD.CellsAt w gi (oi + 1 * 11) b) := (e3 1 (by simp)).1
 clear e3
 obtain ⟨⟨k2, t2, n2, f2, s2, x2, y2, z2, u2, pp2, path2, pc2⟩, ip2, ic2, items2⟩ := a
 obtain ⟨⟨k3, t3, n3, f3, s3, x3, y3, z3, u3, pp3, path3, pc3⟩, ip3, ic3, items3⟩ := b
 simp only [MD.val, D]
 go_enter Tryz.func50, Tryz.ntmps50
 go_wp2_with fail
 have u0 := below1 w (.cells #[.int .i64 k1, .string t1, .int .i64 n1, .int .u64 f1, .string s1, .int .i64 x1, .int .i64 y1, .int .i64 z1, .int .i64 u1, .slice pp1 path1.length pc1, .slice (some ⟨gi, oi, none⟩) 2 ic1] 32)
 try simp only [List.length_cons, List.length_nil, Nat.zero_add, Nat.reduceAdd]
 obtain ⟨U0, hU0⟩ : ∃ W, W = w.alloc (.cells #[.int .i64 k1, .string t1, .int .i64 n1, .int .u64 f1, .string s1, .int .i64 x1, .int .i64 y1, .int .i64 z1, .int .i64 u1, .slice pp1 path1.length pc1, .slice (some ⟨gi, oi, none⟩) 2 ic1] 32) := ⟨_, rfl⟩
 rw [← hU0] at u0 ⊢
 clear hU0
 go_loopw [3, 9] (fun s i wr => SzRel sz1 sz2 w s i wr) (fun _ i _ => 2 - (intOf i).toNat)
 case atStart => exact ⟨u0, .inl ⟨rfl, rfl⟩⟩
 case round =>
  clear u0
  obtain ⟨hu, hc⟩ := hrel
  rcases hc with ⟨rfl, rfl⟩ | ⟨rfl, rfl⟩ | ⟨rfl, rfl⟩
  ·have hC := HCa.out.below e2 hu
   have c0 : wr.cell? ⟨gi, oi, none⟩ = some (.int .i64 k2) := hC 0 (by omega)
   have c1 : wr.cell? ⟨gi, oi + 1, none⟩ = some (.string t2) := hC 1 (by omega)
   have c2 : wr.cell? ⟨gi, oi + 2, none⟩ = some (.int .i64 n2) := hC 2 (by omega)
   have c3 : wr.cell? ⟨gi, oi + 3, none⟩ = some (.int .u64 f2) := hC 3 (by omega)
   have c4 : wr.cell? ⟨gi, oi + 4, none⟩ = some (.string s2) := hC 4 (by omega)
   have c5 : wr.cell? ⟨gi, oi + 5, none⟩ = some (.int .i64 x2) := hC 5 (by omega)
   have c6 : wr.cell? ⟨gi, oi + 6, none⟩ = some (.int .i64 y2) := hC 6 (by omega)
   have c7 : wr.cell? ⟨gi, oi + 7, none⟩ = some (.int .i64 z2) := hC 7 (by omega)
   have c8 : wr.cell? ⟨gi, oi + 8, none⟩ = some (.int .i64 u2) := hC 8 (by omega)
   have c9 : wr.cell? ⟨gi, oi + 9, none⟩ = some (.slice pp2 path2.length pc2) := hC 9 (by omega)
   have c10 : wr.cell? ⟨gi, oi + 10, none⟩ = some (.slice ip2 items2.length ic2) := hC 10 (by omega)
   clear hC
   go_wp2_with fail
   refine (HA.out _ (hu.trans ((below1 _ _).mono hu.size))).mono ?_
   rintro _ U2 ⟨rfl, q2⟩
   have uu : Below w.heap.size w U2 := (hu.trans ((below1 _ _).mono hu.size)).trans (q2.mono (hu.trans ((below1 _ _).mono hu.size)).size)
   clear hu q2 c0 c1 c2 c3 c4 c5 c6 c7 c8 c9 c10
   go_wp2_with fail
   exact ⟨⟨uu, .inr (.inl ⟨rfl, by simp⟩)⟩, by simp [intOf]⟩
  ·have hC := HCb.out.below e2 hu
   have c0 : wr.cell? ⟨gi, oi + 1 * 11, none⟩ = some (.int .i64 k3) := hC 0 (by omega)
   have c1 : wr.cell? ⟨gi, oi + 1 * 11 + 1, none⟩ = some (.string t3) := hC 1 (by omega)
   have c2 : wr.cell? ⟨gi, oi + 1 * 11 + 2, none⟩ = some (.int .i64 n3) := hC 2 (by omega)
   have c3 : wr.cell? ⟨gi, oi + 1 * 11 + 3, none⟩ = some (.int .u64 f3) := hC 3 (by omega)
   have c4 : wr.cell? ⟨gi, oi + 1 * 11 + 4, none⟩ = some (.string s3) := hC 4 (by omega)
   have c5 : wr.cell? ⟨gi, oi + 1 * 11 + 5, none⟩ = some (.int .i64 x3) := hC 5 (by omega)
   have c6 : wr.cell? ⟨gi, oi + 1 * 11 + 6, none⟩ = some (.int .i64 y3) := hC 6 (by omega)
   have c7 : wr.cell? ⟨gi, oi + 1 * 11 + 7, none⟩ = some (.int .i64 z3) := hC 7 (by omega)
   have c8 : wr.cell? ⟨gi, oi + 1 * 11 + 8, none⟩ = some (.int .i64 u3) := hC 8 (by omega)
   have c9 : wr.cell? ⟨gi, oi + 1 * 11 + 9, none⟩ = some (.slice pp3 path3.length pc3) := hC 9 (by omega)
   have c10 : wr.cell? ⟨gi, oi + 1 * 11 + 10, none⟩ = some (.slice ip3 items3.length ic3) := hC 10 (by omega)
   clear hC
   go_wp2_with fail
   refine (HB.out _ (hu.trans ((below1 _ _).mono hu.size))).mono ?_
   rintro _ U2 ⟨rfl, q2⟩
   have uu : Below w.heap.size w U2 := (hu.trans ((below1 _ _).mono hu.size)).trans (q2.mono (hu.trans ((below1 _ _).mono hu.size)).size)
   clear hu q2 c0 c1 c2 c3 c4 c5 c6 c7 c8 c9 c10
   go_wp2_with fail
   exact ⟨⟨uu, .inr (.inr ⟨rfl, by simp⟩)⟩, by simp [intOf]⟩
  ·go_wp2_with fail
   go_ret
   exact ⟨rfl, hu⟩
end Go.Proofs.YtdbijkgnddcneaaGreatDoor
