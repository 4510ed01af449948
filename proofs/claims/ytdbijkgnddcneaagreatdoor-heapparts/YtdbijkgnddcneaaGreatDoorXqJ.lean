/-
  .
  .
  .
  .
-/
import Derived.Test.YtdbijkgnddcneaaGreatDoorSq
import Derived.Test.YtdbijkgnddcneaaGreatDoorXmJ
import Derived.Test.YtdbijkgnddcneaaGreatDoorNaJ
namespace Go.Proofs.YtdbijkgnddcneaaGreatDoor
open Go.RowKit Go.ChangeMaps
set_option maxRecDepth 100000
set_option maxHeartbeats 4000000
attribute [local go_sem] refold2 cell3_0 cell3_1 b28_0 b28_01 nz26 nz23 b32_012 b32_015 b30_023 b30_0123 b30_0 b131_0 b112_0 ta111 ta102_84 ta102_129 ta102_102 ta102_115 ta115_84 ta115_129 ta115_102 ta115_115
theorem Open_whole (hb M : Nat) (vs : List Value) (m ab : Nat) (hm : vs[m]? = some (.iface 111 (.pointer (some ⟨ab, 0, none⟩)))) (z : Int) (w : World) (h : HeapAt w hb M vs) (ha : w.heap[ab]? = some (.cells #[.int .i64 2, .string ⟨#[105, 110, 116]⟩, .int .i64 z, .int .u64 0, .string ⟨#[]⟩, .int .i64 0, .int .i64 0, .int .i64 0, .int .i64 0, .slice none 0 0, .slice none 0 0] 112)) :
  Calls Tryz.prog 27 #[.pointer (some ⟨hb, 0, none⟩), .int .i64 ((m : Int) + 1)] w fun r w' => r = .returned (.tuple #[(wholeD z).val, .bool true]) ∧ Below w.heap.size w w' := by
 go_enter Tryz.func27, Tryz.ntmps27
 go_wp2_with fail
 obtain ⟨U0, hU0⟩ : ∃ W, W = w.alloc (.cells #[.int .i64 0, .string ⟨#[]⟩, .int .i64 0, .int .u64 0, .string ⟨#[]⟩, .int .i64 0, .int .i64 0, .int .i64 0, .int .i64 0, .slice none 0 0, .slice none 0 0] 32) := ⟨_, rfl⟩
 rw [← hU0]
 have u0 : Below w.heap.size w U0 := by rw [hU0]; exact below1 w _
 have r0 : U0.heap[w.heap.size]? = some (.cells #[.int .i64 0, .string ⟨#[]⟩, .int .i64 0, .int .u64 0, .string ⟨#[]⟩, .int .i64 0, .int .i64 0, .int .i64 0, .int .i64 0, .slice none 0 0, .slice none 0 0] 32) := by rw [hU0]; exact heap_alloc_new _ _
 clear hU0
 refine (variable_any hb M vs m ab hm U0 (h.below u0)).mono ?_
 rintro _ V ⟨rfl, hV⟩
 obtain rfl := hV.symm
 have a0 := (u0.block _ (hblk ha)).trans ha
 have ac := (cells_of a0).1
 go_wp2_with fail
 refine (copied_flat 2 ⟨#[105, 110, 116]⟩ z 0 0 0 0 (by show 3 ≤ 60000; omega) _).mono ?_
 rintro _ V2 ⟨rfl, c2⟩
 have u2 : Below w.heap.size w V2 := u0.trans (c2.mono u0.size)
 have r2 := (c2.block _ (hblk r0)).trans r0
 clear ac a0 r0 u0 c2
 obtain ⟨rc2, rf2⟩ := cells_of r2
 simp only [flatD, MD.val, D, List.length_nil]
 go_wp2_with fail
 have kU8 := kp_eleven V2 (w.heap.size) (.int .i64 2) (.string ⟨#[105, 110, 116]⟩) (.int .i64 z) (.int .u64 0) (.string ⟨#[]⟩) (.int .i64 0) (.int .i64 0) (.int .i64 0) (.int .i64 0) (.slice none 0 0) (.slice none 0 0)
 have hrU8 := eleven_set r2 (.int .i64 2) (.string ⟨#[105, 110, 116]⟩) (.int .i64 z) (.int .u64 0) (.string ⟨#[]⟩) (.int .i64 0) (.int .i64 0) (.int .i64 0) (.int .i64 0) (.slice none 0 0) (.slice none 0 0)
 obtain ⟨U8, hU8⟩ : ∃ W, W = (((((((((((V2.setCell ⟨w.heap.size, 0, none⟩ (.int .i64 2)).setCell ⟨w.heap.size, 1, none⟩ (.string ⟨#[105, 110, 116]⟩)).setCell ⟨w.heap.size, 2, none⟩ (.int .i64 z)).setCell ⟨w.heap.size, 3, none⟩ (.int .u64 0)).setCell ⟨w.heap.size, 4, none⟩ (.string ⟨#[]⟩)).setCell ⟨w.heap.size, 5, none⟩ (.int .i64 0)).setCell ⟨w.heap.size, 6, none⟩ (.int .i64 0)).setCell ⟨w.heap.size, 7, none⟩ (.int .i64 0)).setCell ⟨w.heap.size, 8, none⟩ (.int .i64 0)).setCell ⟨w.heap.size, 9, none⟩ (.slice none 0 0)).setCell ⟨w.heap.size, 10, none⟩ (.slice none 0 0)) := ⟨_, rfl⟩
 rw [← hU8] at kU8 hrU8 ⊢
 clear hU8
 have rcU8 := (cells_of hrU8).1
 exact bodyPost_ret (v := .tuple #[(wholeD z).val, .bool true]) (by simp [results, Tryz.results27, go_sem, rcU8, wholeD, MD.val, D]) rfl ⟨rfl, u2.trans (kU8.below u2.size fun i hi e => by omega)⟩
theorem mapping_any (hb M : Nat) (vs : List Value) (m ab : Nat) (hm : vs[m]? = some (.iface 102 (.pointer (some ⟨ab, 0, none⟩)))) (hF : FlatR (leadD 6 ⟨#[109, 97, 112]⟩ ((m : Int) + 1) 0 0 0)) (w : World) (hN : NamesAt w) (h : HeapAt w hb M vs) :
  Calls Tryz.prog 55 #[.pointer (some ⟨hb, 0, none⟩), .agg #[.int .i64 6, .string ⟨#[109, 97, 112]⟩, .int .i64 0, .int .u64 0, .string ⟨#[]⟩, .int .i64 ((m : Int) + 1), .int .i64 0, .int .i64 0, .int .i64 0, .slice none 0 0, .slice none 0 0]] w fun r w' => r = .returned (.tuple #[.pointer (some ⟨ab, 0, none⟩), .bool true]) ∧ Below w.heap.size w w' := by
 have HF : Hid (∀ W, Below w.heap.size w W → Calls Tryz.prog 64 #[.pointer (some ⟨hb, 0, none⟩), .agg #[.int .i64 6, .string ⟨#[109, 97, 112]⟩, .int .i64 0, .int .u64 0, .string ⟨#[]⟩, .int .i64 ((m : Int) + 1), .int .i64 0, .int .i64 0, .int .i64 0, .slice none 0 0, .slice none 0 0]] W fun r w' => r = .returned (.bool true) ∧ Below W.heap.size W w') := fun W hW => fits_map hb M vs m ab hm hF W (hN.kept hW) (h.below hW)
 go_enter Tryz.func55, Tryz.ntmps55
 go_wp2_with fail
 have u0 := below1 w (.cells #[.int .i64 6, .string ⟨#[109, 97, 112]⟩, .int .i64 0, .int .u64 0, .string ⟨#[]⟩, .int .i64 ((m : Int) + 1), .int .i64 0, .int .i64 0, .int .i64 0, .slice none 0 0, .slice none 0 0] 32)
 obtain ⟨U0, hU0⟩ : ∃ W, W = w.alloc (.cells #[.int .i64 6, .string ⟨#[109, 97, 112]⟩, .int .i64 0, .int .u64 0, .string ⟨#[]⟩, .int .i64 ((m : Int) + 1), .int .i64 0, .int .i64 0, .int .i64 0, .slice none 0 0, .slice none 0 0] 32) := ⟨_, rfl⟩
 rw [← hU0] at u0 ⊢
 have b0 : U0.heap[w.heap.size]? = some (.cells #[.int .i64 6, .string ⟨#[109, 97, 112]⟩, .int .i64 0, .int .u64 0, .string ⟨#[]⟩, .int .i64 ((m : Int) + 1), .int .i64 0, .int .i64 0, .int .i64 0, .slice none 0 0, .slice none 0 0] 32) := by rw [hU0]; exact heap_alloc_new _ _
 clear hU0
 refine (HF.out U0 u0).mono ?_
 rintro _ U1 ⟨rfl, c1⟩
 have u1 : Below w.heap.size w U1 := u0.trans (c1.mono u0.size)
 have b1 := (c1.block _ (hblk b0)).trans b0
 clear b0 u0 c1
 go_wp2_with fail
 refine rg (S := fun W => (∀ j, W.cell? ⟨w.heap.size, j, none⟩ = (#[.int .i64 6, .string ⟨#[109, 97, 112]⟩, .int .i64 0, .int .u64 0, .string ⟨#[]⟩, .int .i64 ((m : Int) + 1), .int .i64 0, .int .i64 0, .int .i64 0, .slice none 0 0, .slice none 0 0] : Array Value)[j]?) ∧ (∀ j, W.cell? ⟨hb, j, none⟩ = (#[.map (some M), .int .i64 vs.length] : Array Value)[j]?) ∧ HeapAt W hb M vs) (fun U2 hB4 HU2 => ?_)
 have hS : (∀ j, U2.cell? ⟨w.heap.size, j, none⟩ = (#[.int .i64 6, .string ⟨#[109, 97, 112]⟩, .int .i64 0, .int .u64 0, .string ⟨#[]⟩, .int .i64 ((m : Int) + 1), .int .i64 0, .int .i64 0, .int .i64 0, .slice none 0 0, .slice none 0 0] : Array Value)[j]?) ∧ (∀ j, U2.cell? ⟨hb, j, none⟩ = (#[.map (some M), .int .i64 vs.length] : Array Value)[j]?) ∧ HeapAt U2 hb M vs := ⟨(cells_of ((hB4.block _ (hblk b1)).trans b1)).1, (cells_of ((h.below u1).below hB4).box).1, (h.below u1).below hB4⟩
 refine tq 0 (.pointer (some ⟨hb, 0, none⟩)) rfl hS ?_
 simp only [sa, sb, Act.put, sd, se, sf]
 refine tq 1 (.pointer (some ⟨hb, 0, none⟩)) rfl hS ?_
 simp only [sa, sb, sc, Act.put, sd, se, sf]
 refine tq 2 (.pointer (some ⟨hb, 0, none⟩)) rfl hS ?_
 simp only [sa, sb, sc, Act.put, sd, se, sf]
 refine tk 3 (.map (some M)) rfl (.inl ⟨by rfl, ?r⟩) hS ?_
 case r => intro W hW; simp [go_sem, execOp, Act.eval, hW.2.1]
 simp only [sa, sb, sc, Act.put, sd, se, sf]
 refine tq 4 (.pointer (some ⟨w.heap.size, 5, none⟩)) rfl hS ?_
 simp only [sa, sb, sc, Act.put, sd, se, sf]
 refine tq 5 (.pointer (some ⟨w.heap.size, 5, none⟩)) rfl hS ?_
 simp only [sa, sb, sc, Act.put, sd, se, sf]
 refine tk 6 (.int .i64 ((m : Int) + 1)) rfl (.inl ⟨by rfl, ?r⟩) hS ?_
 case r => intro W hW; simp [go_sem, execOp, Act.eval, hW.1]
 simp only [sa, sb, sc, Act.put, sd, se, sf]
 refine tk 7 (.iface 102 (.pointer (some ⟨ab, 0, none⟩))) rfl (.inl ⟨by rfl, ?r⟩) hS ?_
 case r => intro W hW; simp [go_sem, execOp, Act.eval, hW.2.2.look hm rfl]
 simp only [sa, sb, sc, Act.put, sd, se, sf]
 refine tq 8 (.tuple #[.pointer (some ⟨ab, 0, none⟩), .bool true]) rfl hS ?_
 simp only [sa, sb, sc, Act.put, sd, se, sf]
 refine tq 9 (.tuple #[.pointer (some ⟨ab, 0, none⟩), .bool true]) rfl hS ?_
 simp only [sa, sb, sc, Act.put, sd, se, sf]
 refine tq 10 (.pointer (some ⟨ab, 0, none⟩)) rfl hS ?_
 simp only [sa, sb, sc, Act.put, sd, se, sf]
 refine tq 11 (.bool true) rfl hS ?_
 simp only [sa, sb, sc, Act.put, sd, se, sf]
 have u2 : Below w.heap.size w U2 := u1.trans (hB4.mono u1.size)
 clear HU2 hB4 b1 u1
 refine one 12 rfl (fun K hK => ?_)
 simp only [sa, sb, sc]
 go_simp
 refine hK _ _ ⟨hS, ?_⟩
 clear hK K
 try simp only [Act.put, sd, se, sf]
 refine one 13 rfl (fun K hK => ?_)
 simp only [sa, sb, sc]
 go_simp
 refine hK _ _ ⟨hS, ?_⟩
 clear hK K hS
 try simp only [Act.put, sd, se, sf]
 refine dn ?_
 try simp only [Act.put]
 go_wp2_with fail
 exact bodyPost_ret (v := .tuple #[.pointer (some ⟨ab, 0, none⟩), .bool true]) (by simp [results, Tryz.results55, go_sem]) rfl ⟨rfl, u2⟩
theorem function_any (hb M : Nat) (vs : List Value) (m ab : Nat) (hm : vs[m]? = some (.iface 115 (.pointer (some ⟨ab, 0, none⟩)))) (hF : FlatR (leadD 7 ⟨#[102, 117, 110, 99]⟩ ((m : Int) + 1) 0 0 0)) (w : World) (hN : NamesAt w) (h : HeapAt w hb M vs) :
  Calls Tryz.prog 61 #[.pointer (some ⟨hb, 0, none⟩), .agg #[.int .i64 7, .string ⟨#[102, 117, 110, 99]⟩, .int .i64 0, .int .u64 0, .string ⟨#[]⟩, .int .i64 ((m : Int) + 1), .int .i64 0, .int .i64 0, .int .i64 0, .slice none 0 0, .slice none 0 0]] w fun r w' => r = .returned (.tuple #[.pointer (some ⟨ab, 0, none⟩), .bool true]) ∧ Below w.heap.size w w' := by
 have HF : Hid (∀ W, Below w.heap.size w W → Calls Tryz.prog 64 #[.pointer (some ⟨hb, 0, none⟩), .agg #[.int .i64 7, .string ⟨#[102, 117, 110, 99]⟩, .int .i64 0, .int .u64 0, .string ⟨#[]⟩, .int .i64 ((m : Int) + 1), .int .i64 0, .int .i64 0, .int .i64 0, .slice none 0 0, .slice none 0 0]] W fun r w' => r = .returned (.bool true) ∧ Below W.heap.size W w') := fun W hW => fits_func hb M vs m ab hm hF W (hN.kept hW) (h.below hW)
 go_enter Tryz.func61, Tryz.ntmps61
 go_wp2_with fail
 have u0 := below1 w (.cells #[.int .i64 7, .string ⟨#[102, 117, 110, 99]⟩, .int .i64 0, .int .u64 0, .string ⟨#[]⟩, .int .i64 ((m : Int) + 1), .int .i64 0, .int .i64 0, .int .i64 0, .slice none 0 0, .slice none 0 0] 32)
 obtain ⟨U0, hU0⟩ : ∃ W, W = w.alloc (.cells #[.int .i64 7, .string ⟨#[102, 117, 110, 99]⟩, .int .i64 0, .int .u64 0, .string ⟨#[]⟩, .int .i64 ((m : Int) + 1), .int .i64 0, .int .i64 0, .int .i64 0, .slice none 0 0, .slice none 0 0] 32) := ⟨_, rfl⟩
 rw [← hU0] at u0 ⊢
 have b0 : U0.heap[w.heap.size]? = some (.cells #[.int .i64 7, .string ⟨#[102, 117, 110, 99]⟩, .int .i64 0, .int .u64 0, .string ⟨#[]⟩, .int .i64 ((m : Int) + 1), .int .i64 0, .int .i64 0, .int .i64 0, .slice none 0 0, .slice none 0 0] 32) := by rw [hU0]; exact heap_alloc_new _ _
 clear hU0
 refine (HF.out U0 u0).mono ?_
 rintro _ U1 ⟨rfl, c1⟩
 have u1 : Below w.heap.size w U1 := u0.trans (c1.mono u0.size)
 have b1 := (c1.block _ (hblk b0)).trans b0
 clear b0 u0 c1
 go_wp2_with fail
 refine rg (S := fun W => (∀ j, W.cell? ⟨w.heap.size, j, none⟩ = (#[.int .i64 7, .string ⟨#[102, 117, 110, 99]⟩, .int .i64 0, .int .u64 0, .string ⟨#[]⟩, .int .i64 ((m : Int) + 1), .int .i64 0, .int .i64 0, .int .i64 0, .slice none 0 0, .slice none 0 0] : Array Value)[j]?) ∧ (∀ j, W.cell? ⟨hb, j, none⟩ = (#[.map (some M), .int .i64 vs.length] : Array Value)[j]?) ∧ HeapAt W hb M vs) (fun U2 hB4 HU2 => ?_)
 have hS : (∀ j, U2.cell? ⟨w.heap.size, j, none⟩ = (#[.int .i64 7, .string ⟨#[102, 117, 110, 99]⟩, .int .i64 0, .int .u64 0, .string ⟨#[]⟩, .int .i64 ((m : Int) + 1), .int .i64 0, .int .i64 0, .int .i64 0, .slice none 0 0, .slice none 0 0] : Array Value)[j]?) ∧ (∀ j, U2.cell? ⟨hb, j, none⟩ = (#[.map (some M), .int .i64 vs.length] : Array Value)[j]?) ∧ HeapAt U2 hb M vs := ⟨(cells_of ((hB4.block _ (hblk b1)).trans b1)).1, (cells_of ((h.below u1).below hB4).box).1, (h.below u1).below hB4⟩
 refine tq 0 (.pointer (some ⟨hb, 0, none⟩)) rfl hS ?_
 simp only [sa, sb, Act.put, sd, se, sf]
 refine tq 1 (.pointer (some ⟨hb, 0, none⟩)) rfl hS ?_
 simp only [sa, sb, sc, Act.put, sd, se, sf]
 refine tq 2 (.pointer (some ⟨hb, 0, none⟩)) rfl hS ?_
 simp only [sa, sb, sc, Act.put, sd, se, sf]
 refine tk 3 (.map (some M)) rfl (.inl ⟨by rfl, ?r⟩) hS ?_
 case r => intro W hW; simp [go_sem, execOp, Act.eval, hW.2.1]
 simp only [sa, sb, sc, Act.put, sd, se, sf]
 refine tq 4 (.pointer (some ⟨w.heap.size, 5, none⟩)) rfl hS ?_
 simp only [sa, sb, sc, Act.put, sd, se, sf]
 refine tq 5 (.pointer (some ⟨w.heap.size, 5, none⟩)) rfl hS ?_
 simp only [sa, sb, sc, Act.put, sd, se, sf]
 refine tk 6 (.int .i64 ((m : Int) + 1)) rfl (.inl ⟨by rfl, ?r⟩) hS ?_
 case r => intro W hW; simp [go_sem, execOp, Act.eval, hW.1]
 simp only [sa, sb, sc, Act.put, sd, se, sf]
 refine tk 7 (.iface 115 (.pointer (some ⟨ab, 0, none⟩))) rfl (.inl ⟨by rfl, ?r⟩) hS ?_
 case r => intro W hW; simp [go_sem, execOp, Act.eval, hW.2.2.look hm rfl]
 simp only [sa, sb, sc, Act.put, sd, se, sf]
 refine tq 8 (.tuple #[.pointer (some ⟨ab, 0, none⟩), .bool true]) rfl hS ?_
 simp only [sa, sb, sc, Act.put, sd, se, sf]
 refine tq 9 (.tuple #[.pointer (some ⟨ab, 0, none⟩), .bool true]) rfl hS ?_
 simp only [sa, sb, sc, Act.put, sd, se, sf]
 refine tq 10 (.pointer (some ⟨ab, 0, none⟩)) rfl hS ?_
 simp only [sa, sb, sc, Act.put, sd, se, sf]
 refine tq 11 (.bool true) rfl hS ?_
 simp only [sa, sb, sc, Act.put, sd, se, sf]
 have u2 : Below w.heap.size w U2 := u1.trans (hB4.mono u1.size)
 clear HU2 hB4 b1 u1
 refine one 12 rfl (fun K hK => ?_)
 simp only [sa, sb, sc]
 go_simp
 refine hK _ _ ⟨hS, ?_⟩
 clear hK K
 try simp only [Act.put, sd, se, sf]
 refine one 13 rfl (fun K hK => ?_)
 simp only [sa, sb, sc]
 go_simp
 refine hK _ _ ⟨hS, ?_⟩
 clear hK K hS
 try simp only [Act.put, sd, se, sf]
 refine dn ?_
 try simp only [Act.put]
 go_wp2_with fail
 exact bodyPost_ret (v := .tuple #[.pointer (some ⟨ab, 0, none⟩), .bool true]) (by simp [results, Tryz.results61, go_sem]) rfl ⟨rfl, u2⟩
theorem KM.keep0 {S : Nat → Prop} {n : Nat} {w w' : World} {m : Nat} {G : KG} (h : KM n w m [] G) (k : Kp S w w') (hn : ∀ b, KM.own m [] G b → ¬ S b) : KM n w' m [] G := by
 have bl : ∀ {b : Nat} {o : Obj}, KM.own m [] G b → w.heap[b]? = some o → w'.heap[b]? = some o := fun hb e => (k.block _ (hblk e) (hn _ hb)).trans e
 refine ⟨bl (Or.inl rfl) h.map, h.L1, h.Lc, h.Lm, h.capm, ?_, bl (Or.inr (Or.inr (Or.inl rfl))) h.ring, fun e he => (by cases he), fun e he => (by cases he), h.adj, h.nod, h.chain, h.fit, h.key, h.apart⟩
 obtain ⟨cur, h1, h2, h3⟩ := h.heads
 exact ⟨cur, bl (Or.inr (Or.inl rfl)) h1, h2, h3⟩
theorem b106_0 (p : Option Addr) (w : World) : (Instr.build 106 #[(0, .pointer p)]).run Tryz.prog w = .ok (.agg #[.pointer p]) w := by kernel_rfl
theorem b117_3 (c : Int) (w : World) : (Instr.build 117 #[(0, .int .i64 c), (1, .slice none 0 0), (2, .slice none 0 0)]).run Tryz.prog w = .ok (.agg #[.int .i64 c, .slice none 0 0, .slice none 0 0]) w := by kernel_rfl
attribute [local go_sem] b106_0 b117_3
theorem Map_any (hb M : Nat) (vs : List Value) (hl : vs.length < 1000) (w : World) (h : HeapAt w hb M vs) :
  Calls Tryz.prog 23 #[.pointer (some ⟨hb, 0, none⟩)] w fun r w' => r = .returned (leadD 6 ⟨#[109, 97, 112]⟩ ((vs.length : Int) + 1) 0 0 0).val ∧ ∃ ab km G, HeapAt w' hb M (vs ++ [.iface 102 (.pointer (some ⟨ab, 0, none⟩))]) ∧ w'.heap[ab]? = some (.cells #[.pointer (some ⟨km, 0, none⟩)] 106) ∧ Kp (fun b => b = hb ∨ b = M) w w' ∧ w.heap.size ≤ ab ∧ KM 4 w' km [] G ∧ (∀ b, KM.own km [] G b → w.heap.size ≤ b ∧ b ≠ ab) := by
 have hlt1 := hblk h.box
 have hlt2 := hblk h.map
 have HA : Hid (∀ v W, HeapAt W hb M vs → Calls Tryz.prog 43 #[.pointer (some ⟨hb, 0, none⟩), v] W fun r w' => r = .returned (.tuple #[.int .i64 ((vs.length : Int) + 1), .nilIface]) ∧ HeapAt w' hb M (vs ++ [v]) ∧ Kp (fun b => b = hb ∨ b = M) W w') := fun v W hW => add_any v hb M vs hl W hW
 go_enter Tryz.func23, Tryz.ntmps23
 go_wp2_with fail
 obtain ⟨U0, hU0⟩ : ∃ W, W = w.alloc (.cells #[.int .i64 0, .string ⟨#[]⟩, .int .i64 0, .int .u64 0, .string ⟨#[]⟩, .int .i64 0, .int .i64 0, .int .i64 0, .int .i64 0, .slice none 0 0, .slice none 0 0] 32) := ⟨_, rfl⟩
 rw [← hU0]
 have u0 : Below w.heap.size w U0 := by rw [hU0]; exact below1 w _
 have r0 : U0.heap[w.heap.size]? = some (.cells #[.int .i64 0, .string ⟨#[]⟩, .int .i64 0, .int .u64 0, .string ⟨#[]⟩, .int .i64 0, .int .i64 0, .int .i64 0, .int .i64 0, .slice none 0 0, .slice none 0 0] 32) := by rw [hU0]; exact heap_alloc_new _ _
 clear hU0
 have y0 := hblk r0
 refine (kn_new U0 U0 (Below.refl _ _)).mono ?_
 rintro _ U1 ⟨km, G, rfl, s1⟩
 have r1 : U1.heap[w.heap.size]? = _ := (s1.old.block _ y0).trans r0
 have u1 : Below w.heap.size w U1 := u0.trans (s1.old.mono u0.size)
 have y1 := s1.old.size
 clear r0 u0
 go_wp2_with fail
 obtain ⟨U2, hU2⟩ : ∃ W, W = U1.alloc (.cells #[.pointer (some ⟨km, 0, none⟩)] 106) := ⟨_, rfl⟩
 rw [← hU2]
 have c2 : Below U1.heap.size U1 U2 := by rw [hU2]; exact below1 _ _
 have a2 : U2.heap[U1.heap.size]? = some (.cells #[.pointer (some ⟨km, 0, none⟩)] 106) := by rw [hU2]; exact heap_alloc_new _ _
 clear hU2
 have r2 := (c2.block _ (hblk r1)).trans r1
 have u2 : Below w.heap.size w U2 := u1.trans (c2.mono u1.size)
 refine (HA.out _ _ (h.below u2)).mono ?_
 rintro _ U3 ⟨rfl, h3, k3⟩
 have hown : ∀ b, KM.own km [] G b → w.heap.size + 1 ≤ b ∧ b < U1.heap.size := fun b hb => ⟨Nat.le_trans y0 (s1.own b hb), by obtain ⟨c', t', e, _⟩ := s1.map.tag hb; exact hblk e⟩
 have m2 := s1.map.keep c2
 have m3 := m2.keep0 k3 (fun b hb e => by have := (hown b hb).1; omega)
 have r3 := (k3.block _ (hblk r2) (by omega)).trans r2
 have a3 := (k3.block _ (hblk a2) (by omega)).trans a2
 have k4 : Kp (fun b => b = hb ∨ b = M) w U3 := (Kp.of u2).trans k3 fun _ _ e => e
 clear r2 a2 m2 k3 u2 c2 r1 u1
 go_wp2_with fail
 refine Calls.mono (leading_any 6 ((vs.length : Int) + 1) 0 0 0 ⟨#[109, 97, 112]⟩ (by show 3 ≤ 60000; omega) _) ?_
 rintro _ U4 ⟨rfl, c4⟩
 have r4 := (c4.block _ (hblk r3)).trans r3
 have a4 := (c4.block _ (hblk a3)).trans a3
 have h4 := h3.below c4
 have m4 := m3.keep c4
 have k5 := k4.next c4
 clear r3 a3 h3 m3 k4 c4
 obtain ⟨rc4, rf4⟩ := cells_of r4
 simp only [leadD, MD.val, D, List.length_nil]
 go_wp2_with fail
 have kU8 := kp_eleven U4 (w.heap.size) (.int .i64 6) (.string ⟨#[109, 97, 112]⟩) (.int .i64 0) (.int .u64 0) (.string ⟨#[]⟩) (.int .i64 ((vs.length : Int) + 1)) (.int .i64 0) (.int .i64 0) (.int .i64 0) (.slice none 0 0) (.slice none 0 0)
 have hrU8 := eleven_set r4 (.int .i64 6) (.string ⟨#[109, 97, 112]⟩) (.int .i64 0) (.int .u64 0) (.string ⟨#[]⟩) (.int .i64 ((vs.length : Int) + 1)) (.int .i64 0) (.int .i64 0) (.int .i64 0) (.slice none 0 0) (.slice none 0 0)
 obtain ⟨U8, hU8⟩ : ∃ W, W = (((((((((((U4.setCell ⟨w.heap.size, 0, none⟩ (.int .i64 6)).setCell ⟨w.heap.size, 1, none⟩ (.string ⟨#[109, 97, 112]⟩)).setCell ⟨w.heap.size, 2, none⟩ (.int .i64 0)).setCell ⟨w.heap.size, 3, none⟩ (.int .u64 0)).setCell ⟨w.heap.size, 4, none⟩ (.string ⟨#[]⟩)).setCell ⟨w.heap.size, 5, none⟩ (.int .i64 ((vs.length : Int) + 1))).setCell ⟨w.heap.size, 6, none⟩ (.int .i64 0)).setCell ⟨w.heap.size, 7, none⟩ (.int .i64 0)).setCell ⟨w.heap.size, 8, none⟩ (.int .i64 0)).setCell ⟨w.heap.size, 9, none⟩ (.slice none 0 0)).setCell ⟨w.heap.size, 10, none⟩ (.slice none 0 0)) := ⟨_, rfl⟩
 rw [← hU8] at kU8 hrU8 ⊢
 clear hU8
 have rcU8 := (cells_of hrU8).1
 exact bodyPost_ret (v := (leadD 6 ⟨#[109, 97, 112]⟩ ((vs.length : Int) + 1) 0 0 0).val) (by simp [results, Tryz.results23, go_sem, rcU8, leadD, MD.val, D]) rfl ⟨rfl, U1.heap.size, km, G, h4.kp kU8 (by omega) (by omega), (kU8.block _ (hblk a4) (by omega)).trans a4, k5.trans kU8 fun i hi e => by omega, by omega, m4.keep0 kU8 (fun b hb e => by have := (hown b hb).1; omega), fun b hb => by have := hown b hb; omega⟩
end Go.Proofs.YtdbijkgnddcneaaGreatDoor
namespace Go.Proofs.YtdbijkgnddcneaaGreatDoor
open Go.RowKit Go.ChangeMaps
set_option maxRecDepth 100000
set_option maxHeartbeats 4000000
attribute [local go_sem] refold2 cell3_0 cell3_1 b28_0 b28_01 nz26 nz23 b32_012 b32_015 b30_023 b30_0123 b30_0 b131_0 b112_0 b106_0 b117_3
theorem eq22 (W : World) : (binOp .eql 22 (.slice none 0 0) (.slice none 0 0)).run Tryz.prog W = .ok (.bool true) W := by kernel_rfl
theorem cloneI_nil (w : World) : Calls Tryz.prog 47 #[.slice none 0 0] w fun r w' => r = .returned (.slice none 0 0) ∧ w' = w := by
 have he := eq22 w
 go_enter Tryz.func47, Tryz.ntmps47
 go_wp2_with fail
 go_ret
 exact ⟨rfl, rfl⟩
theorem allBoxes_none (hb : Value) (w : World) : Calls Tryz.prog 60 #[hb, .slice none 0 0] w fun r w' => r = .returned (.bool true) ∧ w' = w := by
 go_enter Tryz.func60, Tryz.ntmps60
 go_wp2_with fail
 go_loopw [9] (fun i wr => i = .int .i64 0 ∧ wr = w) (fun _ _ => 0)
 case atStart => exact ⟨rfl, rfl⟩
 case round =>
  obtain ⟨rfl, rfl⟩ := hrel
  go_wp2_with fail
  go_ret
  exact ⟨rfl, rfl⟩
theorem Func_0 (hb M : Nat) (vs : List Value) (hl : vs.length < 1000) (w : World) (h : HeapAt w hb M vs) :
  Calls Tryz.prog 28 #[.pointer (some ⟨hb, 0, none⟩), .int .i64 0, .slice none 0 0, .slice none 0 0] w fun r w' => r = .returned (.tuple #[(leadD 7 ⟨#[102, 117, 110, 99]⟩ ((vs.length : Int) + 1) 0 0 0).val, .nilIface]) ∧ ∃ ab, HeapAt w' hb M (vs ++ [.iface 115 (.pointer (some ⟨ab, 0, none⟩))]) ∧ w'.heap[ab]? = some (.cells #[.int .i64 0, .slice none 0 0, .slice none 0 0] 117) ∧ Kp (fun b => b = hb ∨ b = M) w w' ∧ w.heap.size ≤ ab := by
 have hlt1 := hblk h.box
 have hlt2 := hblk h.map
 have HA : Hid (∀ v W, HeapAt W hb M vs → Calls Tryz.prog 43 #[.pointer (some ⟨hb, 0, none⟩), v] W fun r w' => r = .returned (.tuple #[.int .i64 ((vs.length : Int) + 1), .nilIface]) ∧ HeapAt w' hb M (vs ++ [v]) ∧ Kp (fun b => b = hb ∨ b = M) W w') := fun v W hW => add_any v hb M vs hl W hW
 go_enter Tryz.func28, Tryz.ntmps28
 go_wp2_with fail
 obtain ⟨U0, hU0⟩ : ∃ W, W = w.alloc (.cells #[.int .i64 0, .string ⟨#[]⟩, .int .i64 0, .int .u64 0, .string ⟨#[]⟩, .int .i64 0, .int .i64 0, .int .i64 0, .int .i64 0, .slice none 0 0, .slice none 0 0] 32) := ⟨_, rfl⟩
 rw [← hU0]
 have u0 : Below w.heap.size w U0 := by rw [hU0]; exact below1 w _
 have r0 : U0.heap[w.heap.size]? = some (.cells #[.int .i64 0, .string ⟨#[]⟩, .int .i64 0, .int .u64 0, .string ⟨#[]⟩, .int .i64 0, .int .i64 0, .int .i64 0, .int .i64 0, .slice none 0 0, .slice none 0 0] 32) := by rw [hU0]; exact heap_alloc_new _ _
 clear hU0
 refine (allBoxes_none _ _).mono ?_
 rintro _ V ⟨rfl, hV⟩
 obtain rfl := hV.symm
 go_wp2_with fail
 refine (allRight_none 0 none _).mono ?_
 rintro _ V ⟨rfl, hV⟩
 obtain rfl := hV.symm
 go_wp2_with fail
 refine (cloneI_nil _).mono ?_
 rintro _ V ⟨rfl, hV⟩
 obtain rfl := hV.symm
 go_wp2_with fail
 refine (copies_nil _).mono ?_
 rintro _ V ⟨rfl, hV⟩
 obtain rfl := hV.symm
 go_wp2_with fail
 obtain ⟨U2, hU2⟩ : ∃ W, W = U0.alloc (.cells #[.int .i64 0, .slice none 0 0, .slice none 0 0] 117) := ⟨_, rfl⟩
 rw [← hU2]
 have c2 : Below U0.heap.size U0 U2 := by rw [hU2]; exact below1 _ _
 have a2 : U2.heap[U0.heap.size]? = some (.cells #[.int .i64 0, .slice none 0 0, .slice none 0 0] 117) := by rw [hU2]; exact heap_alloc_new _ _
 clear hU2
 have r2 := (c2.block _ (hblk r0)).trans r0
 have u2 : Below w.heap.size w U2 := u0.trans (c2.mono u0.size)
 have y0 := hblk r0
 refine (HA.out _ _ (h.below u2)).mono ?_
 rintro _ U3 ⟨rfl, h3, k3⟩
 have r3 := (k3.block _ (hblk r2) (by omega)).trans r2
 have a3 := (k3.block _ (hblk a2) (by omega)).trans a2
 have k4 : Kp (fun b => b = hb ∨ b = M) w U3 := (Kp.of u2).trans k3 fun _ _ e => e
 clear r2 a2 k3 u2 c2 r0 u0
 go_wp2_with fail
 refine Calls.mono (leading_any 7 ((vs.length : Int) + 1) 0 0 0 ⟨#[102, 117, 110, 99]⟩ (by show 4 ≤ 60000; omega) _) ?_
 rintro _ U4 ⟨rfl, c4⟩
 have r4 := (c4.block _ (hblk r3)).trans r3
 have a4 := (c4.block _ (hblk a3)).trans a3
 have h4 := h3.below c4
 have k5 := k4.next c4
 clear r3 a3 h3 k4 c4
 obtain ⟨rc4, rf4⟩ := cells_of r4
 simp only [leadD, MD.val, D, List.length_nil]
 go_wp2_with fail
 have kU8 := kp_eleven U4 (w.heap.size) (.int .i64 7) (.string ⟨#[102, 117, 110, 99]⟩) (.int .i64 0) (.int .u64 0) (.string ⟨#[]⟩) (.int .i64 ((vs.length : Int) + 1)) (.int .i64 0) (.int .i64 0) (.int .i64 0) (.slice none 0 0) (.slice none 0 0)
 have hrU8 := eleven_set r4 (.int .i64 7) (.string ⟨#[102, 117, 110, 99]⟩) (.int .i64 0) (.int .u64 0) (.string ⟨#[]⟩) (.int .i64 ((vs.length : Int) + 1)) (.int .i64 0) (.int .i64 0) (.int .i64 0) (.slice none 0 0) (.slice none 0 0)
 obtain ⟨U8, hU8⟩ : ∃ W, W = (((((((((((U4.setCell ⟨w.heap.size, 0, none⟩ (.int .i64 7)).setCell ⟨w.heap.size, 1, none⟩ (.string ⟨#[102, 117, 110, 99]⟩)).setCell ⟨w.heap.size, 2, none⟩ (.int .i64 0)).setCell ⟨w.heap.size, 3, none⟩ (.int .u64 0)).setCell ⟨w.heap.size, 4, none⟩ (.string ⟨#[]⟩)).setCell ⟨w.heap.size, 5, none⟩ (.int .i64 ((vs.length : Int) + 1))).setCell ⟨w.heap.size, 6, none⟩ (.int .i64 0)).setCell ⟨w.heap.size, 7, none⟩ (.int .i64 0)).setCell ⟨w.heap.size, 8, none⟩ (.int .i64 0)).setCell ⟨w.heap.size, 9, none⟩ (.slice none 0 0)).setCell ⟨w.heap.size, 10, none⟩ (.slice none 0 0)) := ⟨_, rfl⟩
 rw [← hU8] at kU8 hrU8 ⊢
 clear hU8
 have rcU8 := (cells_of hrU8).1
 exact bodyPost_ret (v := .tuple #[(leadD 7 ⟨#[102, 117, 110, 99]⟩ ((vs.length : Int) + 1) 0 0 0).val, .nilIface]) (by simp [results, Tryz.results28, go_sem, rcU8, leadD, MD.val, D]) rfl ⟨rfl, U0.heap.size, h4.kp kU8 (by omega) (by omega), (kU8.block _ (hblk a4) (by omega)).trans a4, k5.trans kU8 fun i hi e => by omega, by omega⟩
theorem Called_0 (hb M : Nat) (vs : List Value) (m ab : Nat) (hm : vs[m]? = some (.iface 115 (.pointer (some ⟨ab, 0, none⟩)))) (hF : FlatR (leadD 7 ⟨#[102, 117, 110, 99]⟩ ((m : Int) + 1) 0 0 0)) (w : World) (hN : NamesAt w) (h : HeapAt w hb M vs) (ha : w.heap[ab]? = some (.cells #[.int .i64 0, .slice none 0 0, .slice none 0 0] 117)) :
  Calls Tryz.prog 29 #[.pointer (some ⟨hb, 0, none⟩), .agg #[.int .i64 7, .string ⟨#[102, 117, 110, 99]⟩, .int .i64 0, .int .u64 0, .string ⟨#[]⟩, .int .i64 ((m : Int) + 1), .int .i64 0, .int .i64 0, .int .i64 0, .slice none 0 0, .slice none 0 0]] w fun r w' => r = .returned (.tuple #[.int .i64 0, .slice none 0 0, .slice none 0 0, .bool true]) ∧ Below w.heap.size w w' := by
 have HF : Hid (∀ W, Below w.heap.size w W → Calls Tryz.prog 61 #[.pointer (some ⟨hb, 0, none⟩), .agg #[.int .i64 7, .string ⟨#[102, 117, 110, 99]⟩, .int .i64 0, .int .u64 0, .string ⟨#[]⟩, .int .i64 ((m : Int) + 1), .int .i64 0, .int .i64 0, .int .i64 0, .slice none 0 0, .slice none 0 0]] W fun r w' => r = .returned (.tuple #[.pointer (some ⟨ab, 0, none⟩), .bool true]) ∧ Below W.heap.size W w') := fun W hW => function_any hb M vs m ab hm hF W (hN.kept hW) (h.below hW)
 go_enter Tryz.func29, Tryz.ntmps29
 go_wp2_with fail
 have u0 := below1 w (.cells #[.int .i64 7, .string ⟨#[102, 117, 110, 99]⟩, .int .i64 0, .int .u64 0, .string ⟨#[]⟩, .int .i64 ((m : Int) + 1), .int .i64 0, .int .i64 0, .int .i64 0, .slice none 0 0, .slice none 0 0] 32)
 obtain ⟨U0, hU0⟩ : ∃ W, W = w.alloc (.cells #[.int .i64 7, .string ⟨#[102, 117, 110, 99]⟩, .int .i64 0, .int .u64 0, .string ⟨#[]⟩, .int .i64 ((m : Int) + 1), .int .i64 0, .int .i64 0, .int .i64 0, .slice none 0 0, .slice none 0 0] 32) := ⟨_, rfl⟩
 rw [← hU0] at u0 ⊢
 clear hU0
 refine (HF.out U0 u0).mono ?_
 rintro _ U1 ⟨rfl, c1⟩
 have u1 : Below w.heap.size w U1 := u0.trans (c1.mono u0.size)
 have a1 := (u1.block _ (hblk ha)).trans ha
 clear u0 c1
 go_wp2_with fail
 refine rg (S := fun W => (∀ j, W.cell? ⟨ab, j, none⟩ = (#[.int .i64 0, .slice none 0 0, .slice none 0 0] : Array Value)[j]?)) (fun U2 hB4 HU2 => ?_)
 have hS := (cells_of ((hB4.block _ (hblk a1)).trans a1)).1
 refine tq 0 (.pointer (some ⟨ab, 0, none⟩)) rfl hS ?_
 simp only [sa, sb, Act.put, sd, se, sf]
 refine tq 1 (.pointer (some ⟨ab, 0, none⟩)) rfl hS ?_
 simp only [sa, sb, sc, Act.put, sd, se, sf]
 refine tq 2 (.pointer (some ⟨ab, 0, none⟩)) rfl hS ?_
 simp only [sa, sb, sc, Act.put, sd, se, sf]
 refine tk 3 (.int .i64 0) rfl (.inl ⟨by rfl, ?r⟩) hS ?_
 case r => intro W hW; simp [go_sem, execOp, Act.eval, hW]
 simp only [sa, sb, sc, Act.put, sd, se, sf]
 refine tq 4 (.pointer (some ⟨ab, 0, none⟩)) rfl hS ?_
 simp only [sa, sb, sc, Act.put, sd, se, sf]
 refine tq 5 (.pointer (some ⟨ab, 0, none⟩)) rfl hS ?_
 simp only [sa, sb, sc, Act.put, sd, se, sf]
 refine tq 6 (.pointer (some ⟨ab, 1, none⟩)) rfl hS ?_
 simp only [sa, sb, sc, Act.put, sd, se, sf]
 refine tk 7 (.slice none 0 0) rfl (.inl ⟨by rfl, ?r⟩) hS ?_
 case r => intro W hW; simp [go_sem, execOp, Act.eval, hW]
 simp only [sa, sb, sc, Act.put, sd, se, sf]
 refine tq 9 (.pointer (some ⟨ab, 0, none⟩)) rfl hS ?_
 simp only [sa, sb, sc, Act.put, sd, se, sf]
 refine tq 10 (.pointer (some ⟨ab, 0, none⟩)) rfl hS ?_
 simp only [sa, sb, sc, Act.put, sd, se, sf]
 refine tq 11 (.pointer (some ⟨ab, 2, none⟩)) rfl hS ?_
 simp only [sa, sb, sc, Act.put, sd, se, sf]
 refine tk 12 (.slice none 0 0) rfl (.inl ⟨by rfl, ?r⟩) hS ?_
 case r => intro W hW; simp [go_sem, execOp, Act.eval, hW]
 simp only [sa, sb, sc, Act.put, sd, se, sf]
 have u2 : Below w.heap.size w U2 := u1.trans (hB4.mono u1.size)
 clear HU2 hB4
 refine one 8 rfl (fun K hK => ?_)
 simp only [sa, sb, sc]
 go_simp
 refine (cloneI_nil _).mono ?_
 rintro _ V ⟨rfl, hV⟩
 obtain rfl := hV.symm
 go_simp
 refine hK _ _ ⟨hS, ?_⟩
 clear hK K
 try simp only [Act.put, sd, se, sf]
 refine one 13 rfl (fun K hK => ?_)
 simp only [sa, sb, sc]
 go_simp
 refine (copies_nil _).mono ?_
 rintro _ V ⟨rfl, hV2⟩
 obtain rfl := hV2.symm
 go_simp
 refine hK _ _ ⟨hS, ?_⟩
 clear hK K
 try simp only [Act.put, sd, se, sf]
 refine tq 14 (.int .i64 0) rfl hS ?_
 simp only [sa, sb, sc, Act.put, sd, se, sf]
 refine tq 15 (.slice none 0 0) rfl hS ?_
 simp only [sa, sb, sc, Act.put, sd, se, sf]
 refine tq 16 (.slice none 0 0) rfl hS ?_
 simp only [sa, sb, sc, Act.put, sd, se, sf]
 refine tq 17 (.bool true) rfl hS ?_
 simp only [sa, sb, sc, Act.put, sd, se, sf]
 refine dn ?_
 try simp only [Act.put]
 go_wp2_with fail
 exact bodyPost_ret (v := .tuple #[.int .i64 0, .slice none 0 0, .slice none 0 0, .bool true]) (by simp [results, Tryz.results29, go_sem]) rfl ⟨rfl, u2⟩
end Go.Proofs.YtdbijkgnddcneaaGreatDoor
namespace Go.Proofs.YtdbijkgnddcneaaGreatDoor
open Go.RowKit Go.ChangeMaps
set_option maxRecDepth 100000
set_option maxHeartbeats 4000000
attribute [local go_sem] refold2 cell3_0 cell3_1 b28_0 b28_01 nz26 nz23 b32_012 b32_015 b30_023 b30_0123 b30_0 b131_0 b112_0 b106_0 b117_3
theorem Lay_whole (hb M : Nat) (vs : List Value) (m ab km : Nat) (G : KG) (hm : vs[m]? = some (.iface 102 (.pointer (some ⟨ab, 0, none⟩)))) (hF : FlatR (leadD 6 ⟨#[109, 97, 112]⟩ ((m : Int) + 1) 0 0 0)) (x z : Int) (hx : FlatR (wholeD x)) (hz : FlatR (wholeD z)) (w : World) (hN : NamesAt w) (h : HeapAt w hb M vs) (ha : w.heap[ab]? = some (.cells #[.pointer (some ⟨km, 0, none⟩)] 106)) (hKM : KM 4 w km [] G) :
  Calls Tryz.prog 24 #[.pointer (some ⟨hb, 0, none⟩), .agg #[.int .i64 6, .string ⟨#[109, 97, 112]⟩, .int .i64 0, .int .u64 0, .string ⟨#[]⟩, .int .i64 ((m : Int) + 1), .int .i64 0, .int .i64 0, .int .i64 0, .slice none 0 0, .slice none 0 0], .agg #[.int .i64 2, .string ⟨#[105, 110, 116]⟩, .int .i64 x, .int .u64 0, .string ⟨#[]⟩, .int .i64 0, .int .i64 0, .int .i64 0, .int .i64 0, .slice none 0 0, .slice none 0 0], .agg #[.int .i64 2, .string ⟨#[105, 110, 116]⟩, .int .i64 z, .int .u64 0, .string ⟨#[]⟩, .int .i64 0, .int .i64 0, .int .i64 0, .int .i64 0, .slice none 0 0, .slice none 0 0]] w fun r w' => r = .returned .nilIface ∧ ∃ e G', KM 4 w' km [e] G' ∧ MD.same 4 (wholeD x) e.k = true ∧ MD.same 4 (wholeD z) e.v = true ∧ KeepS (KM.own km [] G) w w' := by
 have HF : Hid (∀ W, Below w.heap.size w W → Calls Tryz.prog 55 #[.pointer (some ⟨hb, 0, none⟩), .agg #[.int .i64 6, .string ⟨#[109, 97, 112]⟩, .int .i64 0, .int .u64 0, .string ⟨#[]⟩, .int .i64 ((m : Int) + 1), .int .i64 0, .int .i64 0, .int .i64 0, .slice none 0 0, .slice none 0 0]] W fun r w' => r = .returned (.tuple #[.pointer (some ⟨ab, 0, none⟩), .bool true]) ∧ Below W.heap.size W w') := fun W hW => mapping_any hb M vs m ab hm hF W (hN.kept hW) (h.below hW)
 have HR : Hid (∀ W (y : Int), FlatR (wholeD y) → Below w.heap.size w W → Calls Tryz.prog 39 #[(wholeD y).val] W fun r w' => r = .returned (.bool true) ∧ Below W.heap.size W w') := fun W y hy hW => by
  have := Right_any 4 (wholeD y) W (hN.kept hW) (hy.inn _ _)
  rw [hy.right] at this
  exact this
 go_enter Tryz.func24, Tryz.ntmps24
 go_wp2_with fail
 obtain ⟨U0, hU0⟩ : ∃ W, W = ((w.alloc (.cells #[.int .i64 6, .string ⟨#[109, 97, 112]⟩, .int .i64 0, .int .u64 0, .string ⟨#[]⟩, .int .i64 ((m : Int) + 1), .int .i64 0, .int .i64 0, .int .i64 0, .slice none 0 0, .slice none 0 0] 32)).alloc (.cells #[.int .i64 2, .string ⟨#[105, 110, 116]⟩, .int .i64 x, .int .u64 0, .string ⟨#[]⟩, .int .i64 0, .int .i64 0, .int .i64 0, .int .i64 0, .slice none 0 0, .slice none 0 0] 32)).alloc (.cells #[.int .i64 2, .string ⟨#[105, 110, 116]⟩, .int .i64 z, .int .u64 0, .string ⟨#[]⟩, .int .i64 0, .int .i64 0, .int .i64 0, .int .i64 0, .slice none 0 0, .slice none 0 0] 32) := ⟨_, rfl⟩
 rw [← hU0]
 have u0 : Below w.heap.size w U0 := by rw [hU0]; exact below3 w _ _ _
 have b0 : U0.heap[w.heap.size + 1]? = some (.cells #[.int .i64 2, .string ⟨#[105, 110, 116]⟩, .int .i64 x, .int .u64 0, .string ⟨#[]⟩, .int .i64 0, .int .i64 0, .int .i64 0, .int .i64 0, .slice none 0 0, .slice none 0 0] 32) := by rw [hU0, Below.heap_alloc _ _ _ (by simp)]; exact heap2_1 _ _ _
 have r0 : U0.heap[w.heap.size + 1 + 1]? = some (.cells #[.int .i64 2, .string ⟨#[105, 110, 116]⟩, .int .i64 z, .int .u64 0, .string ⟨#[]⟩, .int .i64 0, .int .i64 0, .int .i64 0, .int .i64 0, .slice none 0 0, .slice none 0 0] 32) := by rw [hU0, show w.heap.size + 1 + 1 = ((w.alloc (.cells #[.int .i64 6, .string ⟨#[109, 97, 112]⟩, .int .i64 0, .int .u64 0, .string ⟨#[]⟩, .int .i64 ((m : Int) + 1), .int .i64 0, .int .i64 0, .int .i64 0, .slice none 0 0, .slice none 0 0] 32)).alloc (.cells #[.int .i64 2, .string ⟨#[105, 110, 116]⟩, .int .i64 x, .int .u64 0, .string ⟨#[]⟩, .int .i64 0, .int .i64 0, .int .i64 0, .int .i64 0, .slice none 0 0, .slice none 0 0] 32)).heap.size by simp]; exact heap_alloc_new _ _
 clear hU0
 refine (HF.out _ u0).mono ?_
 rintro _ U1 ⟨rfl, c1⟩
 have u1 : Below w.heap.size w U1 := u0.trans (c1.mono u0.size)
 have b1 := (c1.block _ (hblk b0)).trans b0
 have r1 := (c1.block _ (hblk r0)).trans r0
 clear c1 b0 r0 u0
 have bc1 := (cells_of b1).1
 have rc1 := (cells_of r1).1
 go_wp2_with fail
 refine (HR.out _ x hx u1).mono ?_
 rintro _ U2 ⟨rfl, c2⟩
 have u2 : Below w.heap.size w U2 := u1.trans (c2.mono u1.size)
 have b2 := (c2.block _ (hblk b1)).trans b1
 have r2 := (c2.block _ (hblk r1)).trans r1
 clear c2 b1 r1 u1 bc1 rc1
 have bc2 := (cells_of b2).1
 have rc2 := (cells_of r2).1
 go_wp2_with fail
 refine (HR.out _ z hz u2).mono ?_
 rintro _ U3 ⟨rfl, c3⟩
 have u3 : Below w.heap.size w U3 := u2.trans (c3.mono u2.size)
 have b3 := (c3.block _ (hblk b2)).trans b2
 have r3 := (c3.block _ (hblk r2)).trans r2
 have a3 := (u3.block _ (hblk ha)).trans ha
 clear c3 b2 r2 u2 bc2 rc2
 go_wp2_with fail
 refine rg (S := fun W => (∀ j, W.cell? ⟨w.heap.size + 1, j, none⟩ = (#[.int .i64 2, .string ⟨#[105, 110, 116]⟩, .int .i64 x, .int .u64 0, .string ⟨#[]⟩, .int .i64 0, .int .i64 0, .int .i64 0, .int .i64 0, .slice none 0 0, .slice none 0 0] : Array Value)[j]?) ∧ (∀ j, W.cell? ⟨w.heap.size + 1 + 1, j, none⟩ = (#[.int .i64 2, .string ⟨#[105, 110, 116]⟩, .int .i64 z, .int .u64 0, .string ⟨#[]⟩, .int .i64 0, .int .i64 0, .int .i64 0, .int .i64 0, .slice none 0 0, .slice none 0 0] : Array Value)[j]?) ∧ (∀ j, W.cell? ⟨ab, j, none⟩ = (#[.pointer (some ⟨km, 0, none⟩)] : Array Value)[j]?)) (fun U4 hB4 HU4 => ?_)
 have hS : (∀ j, U4.cell? ⟨w.heap.size + 1, j, none⟩ = (#[.int .i64 2, .string ⟨#[105, 110, 116]⟩, .int .i64 x, .int .u64 0, .string ⟨#[]⟩, .int .i64 0, .int .i64 0, .int .i64 0, .int .i64 0, .slice none 0 0, .slice none 0 0] : Array Value)[j]?) ∧ (∀ j, U4.cell? ⟨w.heap.size + 1 + 1, j, none⟩ = (#[.int .i64 2, .string ⟨#[105, 110, 116]⟩, .int .i64 z, .int .u64 0, .string ⟨#[]⟩, .int .i64 0, .int .i64 0, .int .i64 0, .int .i64 0, .slice none 0 0, .slice none 0 0] : Array Value)[j]?) ∧ (∀ j, U4.cell? ⟨ab, j, none⟩ = (#[.pointer (some ⟨km, 0, none⟩)] : Array Value)[j]?) := ⟨(cells_of ((hB4.block _ (hblk b3)).trans b3)).1, (cells_of ((hB4.block _ (hblk r3)).trans r3)).1, (cells_of ((hB4.block _ (hblk a3)).trans a3)).1⟩
 refine tq 0 (.pointer (some ⟨ab, 0, none⟩)) rfl hS ?_
 simp only [sa, sb, Act.put, sd, se, sf]
 refine tq 1 (.pointer (some ⟨ab, 0, none⟩)) rfl hS ?_
 simp only [sa, sb, sc, Act.put, sd, se, sf]
 refine tq 2 (.pointer (some ⟨ab, 0, none⟩)) rfl hS ?_
 simp only [sa, sb, sc, Act.put, sd, se, sf]
 refine tk 3 (.pointer (some ⟨km, 0, none⟩)) rfl (.inl ⟨by rfl, ?r⟩) hS ?_
 case r => intro W hW; simp [go_sem, execOp, Act.eval, hW.2.2]
 simp only [sa, sb, sc, Act.put, sd, se, sf]
 refine tk 4 (.agg #[.int .i64 2, .string ⟨#[105, 110, 116]⟩, .int .i64 x, .int .u64 0, .string ⟨#[]⟩, .int .i64 0, .int .i64 0, .int .i64 0, .int .i64 0, .slice none 0 0, .slice none 0 0]) rfl (.inl ⟨by rfl, ?r⟩) hS ?_
 case r => intro W hW; simp [go_sem, execOp, Act.eval, hW.1]
 simp only [sa, sb, sc, Act.put, sd, se, sf]
 refine tk 5 (.agg #[.int .i64 2, .string ⟨#[105, 110, 116]⟩, .int .i64 z, .int .u64 0, .string ⟨#[]⟩, .int .i64 0, .int .i64 0, .int .i64 0, .int .i64 0, .slice none 0 0, .slice none 0 0]) rfl (.inl ⟨by rfl, ?r⟩) hS ?_
 case r => intro W hW; simp [go_sem, execOp, Act.eval, hW.2.1]
 simp only [sa, sb, sc, Act.put, sd, se, sf]
 have u4 : Below w.heap.size w U4 := u3.trans (hB4.mono u3.size)
 have b4 := (hB4.block _ (hblk b3)).trans b3
 have r4 := (hB4.block _ (hblk r3)).trans r3
 have a4 := (hB4.block _ (hblk a3)).trans a3
 clear HU4 hB4
 refine one 6 rfl (fun K hK => ?_)
 simp only [sa, sb, sc]
 go_simp
 refine (put_good (k := wholeD x) (v := wholeD z) (hKM.keep u4) (hN.kept u4) (hx.inn _ _) (hz.inn _ _) hx.right (whole_key x) hz.right (eqv_two 3 _ _ rfl) (fun _ h => by cases h) (by have := hKM.L1; simp; omega)).mono ?_
 rintro _ U5 ⟨rfl, es', G', h1, h2, h3, h4⟩
 have q5 : ∃ e, es' = [e] ∧ MD.same 4 (wholeD x) e.k = true ∧ MD.same 4 (wholeD z) e.v = true := by
  rcases h4 with ⟨A, e, B, vb, v', e1, _⟩ | ⟨_, e, e1, e2, e3⟩
  ·simp at e1
  ·exact ⟨e, by simpa using e3, e1, e2⟩
 obtain ⟨e, rfl, e1, e2⟩ := q5
 have k5 : KeepS (KM.own km [] G) w U5 := KeepS.trans (Below.keepS _ u4) h3
 have mK := hKM.keep u4
 have b5 := h3.cells b4 (mK.data _ _ 32 (.inr rfl) b4)
 have r5 := h3.cells r4 (mK.data _ _ 32 (.inr rfl) r4)
 have a5 := h3.cells a4 (fun ho => by
  obtain ⟨c', t', q1, q2⟩ := mK.tag ho
  rw [a4] at q1
  injection q1 with q1
  injection q1 with _ q1
  subst q1
  rcases q2 with q2 | q2 | q2 <;> exact absurd q2 (by decide))
 go_simp
 have hS5 : (∀ j, U5.cell? ⟨w.heap.size + 1, j, none⟩ = (#[.int .i64 2, .string ⟨#[105, 110, 116]⟩, .int .i64 x, .int .u64 0, .string ⟨#[]⟩, .int .i64 0, .int .i64 0, .int .i64 0, .int .i64 0, .slice none 0 0, .slice none 0 0] : Array Value)[j]?) ∧ (∀ j, U5.cell? ⟨w.heap.size + 1 + 1, j, none⟩ = (#[.int .i64 2, .string ⟨#[105, 110, 116]⟩, .int .i64 z, .int .u64 0, .string ⟨#[]⟩, .int .i64 0, .int .i64 0, .int .i64 0, .int .i64 0, .slice none 0 0, .slice none 0 0] : Array Value)[j]?) ∧ (∀ j, U5.cell? ⟨ab, j, none⟩ = (#[.pointer (some ⟨km, 0, none⟩)] : Array Value)[j]?) := ⟨(cells_of b5).1, (cells_of r5).1, (cells_of a5).1⟩
 refine hK _ _ ⟨hS5, ?_⟩
 clear hK K hS
 try simp only [Act.put, sd, se, sf]
 refine one 7 rfl (fun K hK => ?_)
 simp only [sa, sb, sc]
 go_simp
 refine hK _ _ ⟨hS5, ?_⟩
 clear hK K
 try simp only [Act.put, sd, se, sf]
 refine dn ?_
 try simp only [Act.put]
 go_wp2_with fail
 go_ret
 exact ⟨rfl, e, G', h1, e1, e2, k5⟩
end Go.Proofs.YtdbijkgnddcneaaGreatDoor
namespace Go.Proofs.YtdbijkgnddcneaaGreatDoor
open Go.RowKit Go.ChangeMaps
set_option maxRecDepth 100000
set_option maxHeartbeats 4000000
attribute [local go_sem] refold2 cell3_0 cell3_1 b28_0 b28_01 nz26 nz23 b32_012 b32_015 b30_023 b30_0123 b30_0 b131_0 b112_0 b106_0 b117_3
theorem Get_whole (hb M : Nat) (vs : List Value) (m ab km : Nat) (G : KG) (e : Ent) (hm : vs[m]? = some (.iface 102 (.pointer (some ⟨ab, 0, none⟩)))) (hF : FlatR (leadD 6 ⟨#[109, 97, 112]⟩ ((m : Int) + 1) 0 0 0)) (x z : Int) (hx : FlatR (wholeD x)) (he : MD.same 4 (wholeD x) e.k = true) (hv : MD.same 4 (wholeD z) e.v = true) (w : World) (hN : NamesAt w) (h : HeapAt w hb M vs) (ha : w.heap[ab]? = some (.cells #[.pointer (some ⟨km, 0, none⟩)] 106)) (hKM : KM 4 w km [e] G) :
  Calls Tryz.prog 25 #[.pointer (some ⟨hb, 0, none⟩), .agg #[.int .i64 6, .string ⟨#[109, 97, 112]⟩, .int .i64 0, .int .u64 0, .string ⟨#[]⟩, .int .i64 ((m : Int) + 1), .int .i64 0, .int .i64 0, .int .i64 0, .slice none 0 0, .slice none 0 0], .agg #[.int .i64 2, .string ⟨#[105, 110, 116]⟩, .int .i64 x, .int .u64 0, .string ⟨#[]⟩, .int .i64 0, .int .i64 0, .int .i64 0, .int .i64 0, .slice none 0 0, .slice none 0 0]] w fun r w' => ∃ d : MD, r = .returned (.tuple #[d.val, .bool true, .nilIface]) ∧ MD.same 4 (wholeD z) d = true ∧ Below w.heap.size w w' := by
 have HF : Hid (∀ W, Below w.heap.size w W → Calls Tryz.prog 55 #[.pointer (some ⟨hb, 0, none⟩), .agg #[.int .i64 6, .string ⟨#[109, 97, 112]⟩, .int .i64 0, .int .u64 0, .string ⟨#[]⟩, .int .i64 ((m : Int) + 1), .int .i64 0, .int .i64 0, .int .i64 0, .slice none 0 0, .slice none 0 0]] W fun r w' => r = .returned (.tuple #[.pointer (some ⟨ab, 0, none⟩), .bool true]) ∧ Below W.heap.size W w') := fun W hW => mapping_any hb M vs m ab hm hF W (hN.kept hW) (h.below hW)
 have HG : Hid (∀ W, Below w.heap.size w W → Calls Tryz.prog 58 #[.pointer (some ⟨km, 0, none⟩), .agg #[.int .i64 2, .string ⟨#[105, 110, 116]⟩, .int .i64 x, .int .u64 0, .string ⟨#[]⟩, .int .i64 0, .int .i64 0, .int .i64 0, .int .i64 0, .slice none 0 0, .slice none 0 0]] W fun r w' => ∃ d : MD, r = .returned (.tuple #[d.val, .bool true, .nilIface]) ∧ MD.same 4 (wholeD z) d = true ∧ Below W.heap.size W w') := fun W hW => by
  refine (get_good (k := wholeD x) (hKM.keep hW) (hN.kept hW) (hx.inn _ _) hx.right (whole_key x) (eqv_two 3 _ _ rfl) (fun q hq => by simp at hq; subst hq; exact eqv_two 3 _ _ (same_parts he).1)).mono fun r W' hp => ?_
  rcases hp with ⟨e1, e2, e3⟩ | ⟨e', he', e1, d, e2, e3, e4, e5⟩
  ·have := e2 e (by simp)
   rw [ek he] at this
   simp at this
  ·obtain rfl : e' = e := by simpa using he'
   exact ⟨d, e2, same_trans 4 _ _ _ hv e3, e5⟩
 go_enter Tryz.func25, Tryz.ntmps25
 go_wp2_with fail
 obtain ⟨U0, hU0⟩ : ∃ W, W = ((w.alloc (.cells #[.int .i64 6, .string ⟨#[109, 97, 112]⟩, .int .i64 0, .int .u64 0, .string ⟨#[]⟩, .int .i64 ((m : Int) + 1), .int .i64 0, .int .i64 0, .int .i64 0, .slice none 0 0, .slice none 0 0] 32)).alloc (.cells #[.int .i64 2, .string ⟨#[105, 110, 116]⟩, .int .i64 x, .int .u64 0, .string ⟨#[]⟩, .int .i64 0, .int .i64 0, .int .i64 0, .int .i64 0, .slice none 0 0, .slice none 0 0] 32)).alloc (.cells #[.int .i64 0, .string ⟨#[]⟩, .int .i64 0, .int .u64 0, .string ⟨#[]⟩, .int .i64 0, .int .i64 0, .int .i64 0, .int .i64 0, .slice none 0 0, .slice none 0 0] 32) := ⟨_, rfl⟩
 rw [← hU0]
 have u0 : Below w.heap.size w U0 := by rw [hU0]; exact below3 w _ _ _
 have b0 : U0.heap[w.heap.size + 1]? = some (.cells #[.int .i64 2, .string ⟨#[105, 110, 116]⟩, .int .i64 x, .int .u64 0, .string ⟨#[]⟩, .int .i64 0, .int .i64 0, .int .i64 0, .int .i64 0, .slice none 0 0, .slice none 0 0] 32) := by rw [hU0, Below.heap_alloc _ _ _ (by simp)]; exact heap2_1 _ _ _
 have r0 : U0.heap[w.heap.size + 1 + 1]? = some (.cells #[.int .i64 0, .string ⟨#[]⟩, .int .i64 0, .int .u64 0, .string ⟨#[]⟩, .int .i64 0, .int .i64 0, .int .i64 0, .int .i64 0, .slice none 0 0, .slice none 0 0] 32) := by rw [hU0, show w.heap.size + 1 + 1 = ((w.alloc (.cells #[.int .i64 6, .string ⟨#[109, 97, 112]⟩, .int .i64 0, .int .u64 0, .string ⟨#[]⟩, .int .i64 ((m : Int) + 1), .int .i64 0, .int .i64 0, .int .i64 0, .slice none 0 0, .slice none 0 0] 32)).alloc (.cells #[.int .i64 2, .string ⟨#[105, 110, 116]⟩, .int .i64 x, .int .u64 0, .string ⟨#[]⟩, .int .i64 0, .int .i64 0, .int .i64 0, .int .i64 0, .slice none 0 0, .slice none 0 0] 32)).heap.size by simp]; exact heap_alloc_new _ _
 clear hU0
 refine (HF.out _ u0).mono ?_
 rintro _ U1 ⟨rfl, c1⟩
 have u1 : Below w.heap.size w U1 := u0.trans (c1.mono u0.size)
 have b1 := (c1.block _ (hblk b0)).trans b0
 have r1 := (c1.block _ (hblk r0)).trans r0
 have a1 := (u1.block _ (hblk ha)).trans ha
 clear c1 b0 r0 u0
 go_wp2_with fail
 refine rg (S := fun W => (∀ j, W.cell? ⟨w.heap.size + 1, j, none⟩ = (#[.int .i64 2, .string ⟨#[105, 110, 116]⟩, .int .i64 x, .int .u64 0, .string ⟨#[]⟩, .int .i64 0, .int .i64 0, .int .i64 0, .int .i64 0, .slice none 0 0, .slice none 0 0] : Array Value)[j]?) ∧ (∀ j, W.cell? ⟨ab, j, none⟩ = (#[.pointer (some ⟨km, 0, none⟩)] : Array Value)[j]?)) (fun U2 hB4 HU2 => ?_)
 have hS : (∀ j, U2.cell? ⟨w.heap.size + 1, j, none⟩ = (#[.int .i64 2, .string ⟨#[105, 110, 116]⟩, .int .i64 x, .int .u64 0, .string ⟨#[]⟩, .int .i64 0, .int .i64 0, .int .i64 0, .int .i64 0, .slice none 0 0, .slice none 0 0] : Array Value)[j]?) ∧ (∀ j, U2.cell? ⟨ab, j, none⟩ = (#[.pointer (some ⟨km, 0, none⟩)] : Array Value)[j]?) := ⟨(cells_of ((hB4.block _ (hblk b1)).trans b1)).1, (cells_of ((hB4.block _ (hblk a1)).trans a1)).1⟩
 refine tq 0 (.pointer (some ⟨ab, 0, none⟩)) rfl hS ?_
 simp only [sa, sb, Act.put, sd, se, sf]
 refine tq 1 (.pointer (some ⟨ab, 0, none⟩)) rfl hS ?_
 simp only [sa, sb, sc, Act.put, sd, se, sf]
 refine tq 2 (.pointer (some ⟨ab, 0, none⟩)) rfl hS ?_
 simp only [sa, sb, sc, Act.put, sd, se, sf]
 refine tk 3 (.pointer (some ⟨km, 0, none⟩)) rfl (.inl ⟨by rfl, ?r⟩) hS ?_
 case r => intro W hW; simp [go_sem, execOp, Act.eval, hW.2]
 simp only [sa, sb, sc, Act.put, sd, se, sf]
 refine tk 4 (.agg #[.int .i64 2, .string ⟨#[105, 110, 116]⟩, .int .i64 x, .int .u64 0, .string ⟨#[]⟩, .int .i64 0, .int .i64 0, .int .i64 0, .int .i64 0, .slice none 0 0, .slice none 0 0]) rfl (.inl ⟨by rfl, ?r⟩) hS ?_
 case r => intro W hW; simp [go_sem, execOp, Act.eval, hW.1]
 simp only [sa, sb, sc, Act.put, sd, se, sf]
 have u2 : Below w.heap.size w U2 := u1.trans (hB4.mono u1.size)
 have b2 := (hB4.block _ (hblk b1)).trans b1
 have r2 := (hB4.block _ (hblk r1)).trans r1
 have a2 := (hB4.block _ (hblk a1)).trans a1
 clear HU2 hB4
 refine one 5 rfl (fun K hK => ?_)
 simp only [sa, sb, sc]
 go_simp
 refine (HG.out U2 u2).mono ?_
 rintro _ U3 ⟨d, rfl, hs, c3⟩
 obtain ⟨⟨k0, k1, k2, k3, k4, k5, k6, k7, k8, pp, path, pc⟩, ip, ic, items⟩ := d
 have HS : Hid (MD.same 4 (wholeD z) ⟨⟨k0, k1, k2, k3, k4, k5, k6, k7, k8, pp, path, pc⟩, ip, ic, items⟩ = true) := hs
 clear hs
 have u3 : Below w.heap.size w U3 := u2.trans (c3.mono u2.size)
 have b3 := (c3.block _ (hblk b2)).trans b2
 have r3 := (c3.block _ (hblk r2)).trans r2
 have a3 := (c3.block _ (hblk a2)).trans a2
 simp only [MD.val, D]
 go_simp
 refine hK _ _ ⟨⟨(cells_of b3).1, (cells_of a3).1⟩, ?_⟩
 clear hK K hS
 have hS : (∀ j, U3.cell? ⟨w.heap.size + 1, j, none⟩ = (#[.int .i64 2, .string ⟨#[105, 110, 116]⟩, .int .i64 x, .int .u64 0, .string ⟨#[]⟩, .int .i64 0, .int .i64 0, .int .i64 0, .int .i64 0, .slice none 0 0, .slice none 0 0] : Array Value)[j]?) ∧ (∀ j, U3.cell? ⟨ab, j, none⟩ = (#[.pointer (some ⟨km, 0, none⟩)] : Array Value)[j]?) := ⟨(cells_of b3).1, (cells_of a3).1⟩
 try simp only [Act.put, sd, se, sf]
 refine tq 6 (.agg #[.int .i64 k0, .string k1, .int .i64 k2, .int .u64 k3, .string k4, .int .i64 k5, .int .i64 k6, .int .i64 k7, .int .i64 k8, .slice pp path.length pc, .slice ip items.length ic]) rfl hS ?_
 simp only [sa, sb, sc, Act.put, sd, se, sf]
 refine tq 7 (.bool true) rfl hS ?_
 simp only [sa, sb, sc, Act.put, sd, se, sf]
 refine tq 8 (.nilIface) rfl hS ?_
 simp only [sa, sb, sc, Act.put, sd, se, sf]
 refine one 9 rfl (fun K hK => ?_)
 simp only [sa, sb, sc]
 refine wp_store_row 32 _ _ rfl (w.heap.size + 1 + 1) _ rfl rfl 32 _ r3 info32 rfl (by simp [Value.oneCell']) ?_
 have habl := hblk ha
 have hS4 : (∀ j, (U3.setRow (w.heap.size + 1 + 1) #[.int .i64 k0, .string k1, .int .i64 k2, .int .u64 k3, .string k4, .int .i64 k5, .int .i64 k6, .int .i64 k7, .int .i64 k8, .slice pp path.length pc, .slice ip items.length ic]).cell? ⟨w.heap.size + 1, j, none⟩ = (#[.int .i64 2, .string ⟨#[105, 110, 116]⟩, .int .i64 x, .int .u64 0, .string ⟨#[]⟩, .int .i64 0, .int .i64 0, .int .i64 0, .int .i64 0, .slice none 0 0, .slice none 0 0] : Array Value)[j]?) ∧ (∀ j, (U3.setRow (w.heap.size + 1 + 1) #[.int .i64 k0, .string k1, .int .i64 k2, .int .u64 k3, .string k4, .int .i64 k5, .int .i64 k6, .int .i64 k7, .int .i64 k8, .slice pp path.length pc, .slice ip items.length ic]).cell? ⟨ab, j, none⟩ = (#[.pointer (some ⟨km, 0, none⟩)] : Array Value)[j]?) := ⟨fun j => (srow (by omega)).trans (hS.1 j), fun j => (srow (by omega)).trans (hS.2 j)⟩
 refine hK _ _ ⟨hS4, ?_⟩
 clear hK K hS
 have hS := hS4
 clear hS4
 refine one 10 rfl (fun K hK => ?_)
 simp only [sa, sb, sc]
 go_simp
 refine hK _ _ ⟨hS, ?_⟩
 clear hK K
 try simp only [Act.put, sd, se, sf]
 refine one 11 rfl (fun K hK => ?_)
 simp only [sa, sb, sc]
 go_simp
 refine hK _ _ ⟨hS, ?_⟩
 clear hK K
 try simp only [Act.put, sd, se, sf]
 refine dn ?_
 try simp only [Act.put]
 go_wp2_with fail
 refine bodyPost_ret (v := .tuple #[.agg #[.int .i64 k0, .string k1, .int .i64 k2, .int .u64 k3, .string k4, .int .i64 k5, .int .i64 k6, .int .i64 k7, .int .i64 k8, .slice pp path.length pc, .slice ip items.length ic], .bool true, .nilIface]) (by simp [results, Tryz.results25, go_sem, rowT r3]) rfl ⟨_, rfl, HS.out, ?_⟩
 exact brow u3 (by omega) _
end Go.Proofs.YtdbijkgnddcneaaGreatDoor
