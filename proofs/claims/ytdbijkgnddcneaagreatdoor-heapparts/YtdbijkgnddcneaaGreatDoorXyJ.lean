/-
  .
  .
  .
  .
-/
import Derived.Test.YtdbijkgnddcneaaGreatDoorXs
import Derived.Lib.AppendStr
import Derived.Test.YtdbijkgnddcneaaGreatDoorSq
namespace Go.Proofs.YtdbijkgnddcneaaGreatDoor
open Go.RowKit Go.ChangeMaps
set_option maxRecDepth 100000
set_option maxHeartbeats 4000000
attribute [local go_sem] refold2 cell3_0 cell3_1 b28_0 b28_01 nz26 nz23
structure WK (B wb : Nat) (w w' : World) : Prop where
 os : w'.os = w.os
 tape : w'.tape = w.tape
 output : w'.output = w.output
 size : w.heap.size ≤ w'.heap.size
 block : ∀ b o, w.heap[b]? = some o → b ≠ wb → (b < B ∨ ∀ c m, o ≠ .cells c 5 m) → w'.heap[b]? = some o
theorem WK.trans {B wb : Nat} {a b c : World} (h : WK B wb a b) (k : WK B wb b c) : WK B wb a c := ⟨k.os.trans h.os, k.tape.trans h.tape, k.output.trans h.output, Nat.le_trans h.size k.size, fun x o h1 h2 h3 => k.block x o (h.block x o h1 h2 h3) h2 h3⟩
theorem WK.of {B wb : Nat} {w w' : World} (h : Below w.heap.size w w') : WK B wb w w' := ⟨h.os, h.tape, h.output, h.size, fun b _o ho _ _ => (h.block b (hblk ho)).trans ho⟩
theorem WK.below {B wb : Nat} {w w' : World} (h : WK B wb w w') {C : Nat} (hC : C ≤ w.heap.size) (hw : C ≤ wb) (hB : C ≤ B) : Below C w w' := ⟨h.os, h.tape, h.output, h.size, fun k hk => by
 have hl : k < w.heap.size := by omega
 rw [h.block k _ (Array.getElem?_eq_getElem hl) (by omega) (.inl (by omega))]
 exact (Array.getElem?_eq_getElem hl).symm⟩
structure WrAt (B wb : Nat) (x y : Value) (L : List UInt8) (w : World) : Prop where
 ex : ∃ v, w.heap[wb]? = some (.cells #[x, y, v] 123) ∧ w.ownsRow B 5 1 v L.length (Lib.byteCells L)
 lt : wb < B
 le : B ≤ w.heap.size
theorem WrAt.below {B wb : Nat} {x y : Value} {L : List UInt8} {w w' : World} (h : WrAt B wb x y L w) (hb : Below w.heap.size w w') : WrAt B wb x y L w' := by
 obtain ⟨v, h1, h2⟩ := h.ex
 exact ⟨⟨v, (hb.block _ (hblk h1)).trans h1, ownsRow_below h2 hb⟩, h.lt, Nat.le_trans h.le hb.size⟩
theorem ownsRow_slice {w : World} {base : Nat} {e : TypeId} {size : Nat} {v : Value} {n : Nat} {xs : List Value} (h : w.ownsRow base e size v n xs) : ∃ p cap, v = .slice p n cap := by
 rcases h.2 with ⟨h1, h2⟩ | ⟨g, cap, cur, h1, _⟩
 ·subst h2; exact ⟨none, 0, h1⟩
 ·exact ⟨_, cap, h1⟩
theorem write_any (B wb : Nat) (x y : Value) (L : List UInt8) (s : ByteArray) (hl : L.length ≤ 1000) (hs : s.size ≤ 1000) (w : World) (h : WrAt B wb x y L w) :
  Calls Tryz.prog 85 #[.pointer (some ⟨wb, 0, none⟩), .string s] w fun r w' => r = .returned (.tuple #[]) ∧ WrAt B wb x y (L ++ s.data.toList) w' ∧ WK B wb w w' := by
 obtain ⟨⟨v, h1, hown⟩, hlt, hle⟩ := h
 obtain ⟨cc, ff⟩ := cells_of h1
 obtain ⟨i0, hi, hz0, hz1, hz2⟩ := info_parts info5
 have hwl := hblk h1
 obtain ⟨p0, cap0, rfl⟩ := ownsRow_slice hown
 have HO : Hid (w.ownsRow B 5 1 (.slice p0 L.length cap0) L.length (Lib.byteCells L)) := hown
 go_enter Tryz.func85, Tryz.ntmps85
 go_wp2_with (at_builtin; refine Lib.wpList_append_own_string _ rfl _ _ 121 9 rfl B 5 i0 Tryz.underlying121 Tryz.underlying9 hi hz0 hz1 hz2 _ _ _ rfl HO.out s rfl (by unfold maxLen; omega) (by omega) (by omega) ?_; intro v' w3 hown3 hgr3 _; have hne : some wb ≠ (Value.slice p0 L.length cap0).ownBlock := (fun hq => by have := (HO.out.lt wb hq.symm).1; omega); have h3 : w3.heap[wb]? = some (.cells #[x, y, .slice p0 L.length cap0] 123) := (hgr3.block wb hwl hne).trans h1; have HO3 : Hid (w3.ownsRow B 5 1 v' (L.length + s.size) (Lib.byteCells L ++ Lib.strCells s)) := hown3; have HG3 : Hid (w.grownBy w3 (Value.slice p0 L.length cap0).ownBlock) := hgr3; obtain ⟨cc3, ff3⟩ := cells_of h3; obtain ⟨p3, cap3, rfl⟩ := ownsRow_slice hown3; clear hown3 hgr3)
 refine bodyPost_end (results_none rfl _ _ _) rfl ⟨rfl, ⟨⟨_, heap_set h3 2 _, ?_⟩, hlt, ?_⟩, ⟨?_, ?_, ?_, ?_, fun b o ho hb1 hb2 => ?_⟩⟩
 ·have e1 : Lib.byteCells (L ++ s.data.toList) = Lib.byteCells L ++ Lib.strCells s := by simp [Lib.byteCells, Lib.strCells]
  have e2 : (L ++ s.data.toList).length = L.length + s.size := by rw [List.length_append, Array.length_toList]; rfl
  rw [e1, e2]
  exact ownsRow_setCell_below HO3.out (a := ⟨wb, 2, none⟩) hlt _
 ·have := HG3.out.size; simp; omega
 ·exact HG3.out.os
 ·exact HG3.out.tape
 ·exact HG3.out.output
 ·have := HG3.out.size; simp; omega
 ·rw [heap_set_other _ _ _ _ _ hb1]
  refine (HG3.out.block b (hblk ho) fun hq => ?_).trans ho
  have hge := (HO.out.lt b hq.symm).1
  rcases HO.out.2 with ⟨hn, _⟩ | ⟨g, cap, cur, hv, _, hbk, _⟩
  ·rw [hn] at hq; simp [Value.ownBlock] at hq
  ·rw [hv] at hq
   simp only [Value.ownBlock, Option.some.injEq] at hq
   subst hq
   rw [ho] at hbk
   rcases hb2 with hb2 | hb2
   ·omega
   ·exact hb2 _ _ (Option.some.inj hbk)
theorem full_any (B wb : Nat) (x y : Value) (L : List UInt8) (hl : L.length ≤ 1000) (w : World) (h : WrAt B wb x y L w) :
  Calls Tryz.prog 170 #[.pointer (some ⟨wb, 0, none⟩)] w fun r w' => r = .returned (.bool false) ∧ w' = w := by
 obtain ⟨⟨v, h1, hown⟩, hlt, hle⟩ := h
 have cc := (cells_of h1).1
 obtain ⟨p0, cap0, rfl⟩ := ownsRow_slice hown
 have i1 : ¬ (65536 : Int) < L.length := by omega
 go_enter Tryz.func170, Tryz.ntmps170
 go_wp2_with fail
 go_ret
 exact ⟨by simp, rfl⟩
theorem between_0 (wv : Value) (w : World) : Calls Tryz.prog 171 #[wv, .int .i64 0] w fun r w' => r = .returned (.tuple #[]) ∧ w' = w := by
 go_enter Tryz.func171, Tryz.ntmps171
 go_wp2_with fail
 exact bodyPost_end (results_none rfl _ _ _) rfl ⟨rfl, rfl⟩
end Go.Proofs.YtdbijkgnddcneaaGreatDoor
namespace Go.Proofs.YtdbijkgnddcneaaGreatDoor
open Go.RowKit Go.ChangeMaps
set_option maxRecDepth 100000
set_option maxHeartbeats 4000000
attribute [local go_sem] refold2 cell3_0 cell3_1 b28_0 b28_01 nz26 nz23
theorem numShow_small (i : Nat) (hi : i < 100) (w : World) : Calls Tryz.prog 86 #[.agg #[.int .i64 2, .string ⟨#[105, 110, 116]⟩, .int .i64 (i : Int), .int .u64 0, .string ⟨#[]⟩, .int .i64 0, .int .i64 0, .int .i64 0, .int .i64 0, .slice none 0 0, .slice none 0 0]] w fun r w' => r = .returned (.string ⟨(Lib.decDigits i).toArray⟩) ∧ Below w.heap.size w w' := by
 go_enter Tryz.func86, Tryz.ntmps86
 go_wp2_with fail
 refine (strconv_Itoa_small i hi _).mono ?_
 rintro _ V ⟨rfl, hV⟩
 obtain rfl := hV.symm
 go_wp2_with fail
 go_ret
 exact ⟨rfl, below1 _ _⟩
theorem dig_size (i : Nat) (hi : i < 100) : (Lib.decDigits i).length ≤ 10 := by
 have : ∀ j : Fin 100, (Lib.decDigits j.1).length ≤ 10 := by decide +kernel
 exact this ⟨i, hi⟩
theorem fits_whole (hbv : Value) (z : Int) (hz : FlatR (wholeD z)) (w : World) (hN : NamesAt w) : Calls Tryz.prog 64 #[hbv, .agg #[.int .i64 2, .string ⟨#[105, 110, 116]⟩, .int .i64 z, .int .u64 0, .string ⟨#[]⟩, .int .i64 0, .int .i64 0, .int .i64 0, .int .i64 0, .slice none 0 0, .slice none 0 0]] w fun r w' => r = .returned (.bool true) ∧ Below w.heap.size w w' := by
 have HR : Hid (∀ W, Below w.heap.size w W → Calls Tryz.prog 39 #[.agg #[.int .i64 2, .string ⟨#[105, 110, 116]⟩, .int .i64 z, .int .u64 0, .string ⟨#[]⟩, .int .i64 0, .int .i64 0, .int .i64 0, .int .i64 0, .slice none 0 0, .slice none 0 0]] W fun r w' => r = .returned (.bool true) ∧ Below W.heap.size W w') := fun W hW => by
  have := Right_any 4 (wholeD z) W (hN.kept hW) (hz.inn _ _)
  rw [hz.right] at this
  exact this
 go_enter Tryz.func64, Tryz.ntmps64
 go_wp2_with fail
 have u0 := below1 w (.cells #[.int .i64 2, .string ⟨#[105, 110, 116]⟩, .int .i64 z, .int .u64 0, .string ⟨#[]⟩, .int .i64 0, .int .i64 0, .int .i64 0, .int .i64 0, .slice none 0 0, .slice none 0 0] 32)
 obtain ⟨U0, hU0⟩ : ∃ W, W = w.alloc (.cells #[.int .i64 2, .string ⟨#[105, 110, 116]⟩, .int .i64 z, .int .u64 0, .string ⟨#[]⟩, .int .i64 0, .int .i64 0, .int .i64 0, .int .i64 0, .slice none 0 0, .slice none 0 0] 32) := ⟨_, rfl⟩
 rw [← hU0] at u0 ⊢
 have b0 : U0.heap[w.heap.size]? = some (.cells #[.int .i64 2, .string ⟨#[105, 110, 116]⟩, .int .i64 z, .int .u64 0, .string ⟨#[]⟩, .int .i64 0, .int .i64 0, .int .i64 0, .int .i64 0, .slice none 0 0, .slice none 0 0] 32) := by rw [hU0]; exact heap_alloc_new _ _
 clear hU0
 refine (HR.out _ u0).mono ?_
 rintro _ U1 ⟨rfl, c1⟩
 have u1 : Below w.heap.size w U1 := u0.trans (c1.mono u0.size)
 have bc := (cells_of ((c1.block _ (hblk b0)).trans b0)).1
 go_wp2_with fail
 go_ret
 exact ⟨rfl, u1⟩
theorem datum_int (B wb hb : Nat) (y : Value) (L : List UInt8) (hl : L.length ≤ 900) (i : Nat) (hi : i < 100) (hz : FlatR (wholeD (i : Int))) (n : Int) (w : World) (hN : NamesAt w) (h : WrAt B wb (.pointer (some ⟨hb, 0, none⟩)) y L w) :
  Calls Tryz.prog 62 #[.pointer (some ⟨wb, 0, none⟩), .agg #[.int .i64 2, .string ⟨#[105, 110, 116]⟩, .int .i64 (i : Int), .int .u64 0, .string ⟨#[]⟩, .int .i64 0, .int .i64 0, .int .i64 0, .int .i64 0, .slice none 0 0, .slice none 0 0], .int .i64 n] w fun r w' => r = .returned (.tuple #[]) ∧ WrAt B wb (.pointer (some ⟨hb, 0, none⟩)) y (L ++ Lib.decDigits i) w' ∧ WK B wb w w' := by
 have hwl : wb < w.heap.size := Nat.lt_of_lt_of_le h.lt h.le
 go_enter Tryz.func62, Tryz.ntmps62
 go_wp2_with fail
 obtain ⟨U0, hU0, u0, p0, d0⟩ := an2 w (.cells #[.pointer (some ⟨wb, 0, none⟩)] 120) (.cells #[.int .i64 2, .string ⟨#[105, 110, 116]⟩, .int .i64 (i : Int), .int .u64 0, .string ⟨#[]⟩, .int .i64 0, .int .i64 0, .int .i64 0, .int .i64 0, .slice none 0 0, .slice none 0 0] 32)
 rw [← hU0]
 clear hU0
 have h0 := h.below u0
 obtain ⟨v0, x0, _⟩ := h0.ex
 refine rg (S := fun W => (∀ j, W.cell? ⟨w.heap.size, j, none⟩ = (#[.pointer (some ⟨wb, 0, none⟩)] : Array Value)[j]?) ∧ (∀ j, W.cell? ⟨w.heap.size + 1, j, none⟩ = (#[.int .i64 2, .string ⟨#[105, 110, 116]⟩, .int .i64 (i : Int), .int .u64 0, .string ⟨#[]⟩, .int .i64 0, .int .i64 0, .int .i64 0, .int .i64 0, .slice none 0 0, .slice none 0 0] : Array Value)[j]?) ∧ (∀ j, j < 2 → W.cell? ⟨wb, j, none⟩ = (#[.pointer (some ⟨hb, 0, none⟩), y] : Array Value)[j]?)) (fun U1 hB4 HU1 => ?_)
 have hS : (∀ j, U1.cell? ⟨w.heap.size, j, none⟩ = (#[.pointer (some ⟨wb, 0, none⟩)] : Array Value)[j]?) ∧ (∀ j, U1.cell? ⟨w.heap.size + 1, j, none⟩ = (#[.int .i64 2, .string ⟨#[105, 110, 116]⟩, .int .i64 (i : Int), .int .u64 0, .string ⟨#[]⟩, .int .i64 0, .int .i64 0, .int .i64 0, .int .i64 0, .slice none 0 0, .slice none 0 0] : Array Value)[j]?) ∧ (∀ j, j < 2 → U1.cell? ⟨wb, j, none⟩ = (#[.pointer (some ⟨hb, 0, none⟩), y] : Array Value)[j]?) := ⟨(cells_of ((hB4.block _ (hblk p0)).trans p0)).1, (cells_of ((hB4.block _ (hblk d0)).trans d0)).1, fun j hj => by rw [(cells_of ((hB4.block _ (hblk x0)).trans x0)).1 j]; rcases (show j = 0 ∨ j = 1 by omega) with rfl | rfl <;> rfl⟩
 refine tk 0 (.pointer (some ⟨wb, 0, none⟩)) rfl (.inl ⟨by rfl, ?r⟩) hS ?_
 case r => intro W hW; simp [go_sem, execOp, Act.eval, hW.1]
 simp only [sa, sb, Act.put, sd, se, sf]
 refine tq 1 (.pointer (some ⟨wb, 0, none⟩)) rfl hS ?_
 simp only [sa, sb, sc, Act.put, sd, se, sf]
 refine tq 2 (.pointer (some ⟨wb, 0, none⟩)) rfl hS ?_
 simp only [sa, sb, sc, Act.put, sd, se, sf]
 refine tk 3 (.pointer (some ⟨hb, 0, none⟩)) rfl (.inl ⟨by rfl, ?r⟩) hS ?_
 case r => intro W hW; simp [go_sem, execOp, Act.eval, hW.2.2 0 (by decide)]
 simp only [sa, sb, sc, Act.put, sd, se, sf]
 refine tk 4 (.agg #[.int .i64 2, .string ⟨#[105, 110, 116]⟩, .int .i64 (i : Int), .int .u64 0, .string ⟨#[]⟩, .int .i64 0, .int .i64 0, .int .i64 0, .int .i64 0, .slice none 0 0, .slice none 0 0]) rfl (.inl ⟨by rfl, ?r⟩) hS ?_
 case r => intro W hW; simp [go_sem, execOp, Act.eval, hW.2.1]
 simp only [sa, sb, sc, Act.put, sd, se, sf]
 have u1 : Below w.heap.size w U1 := u0.trans (hB4.mono u0.size)
 have p1 := (hB4.block _ (hblk p0)).trans p0
 have d1 := (hB4.block _ (hblk d0)).trans d0
 have h1 := h.below u1
 clear HU1 hB4 p0 d0 u0 h0 x0
 refine one 5 rfl (fun K hK => ?_)
 simp only [sa, sb, sc]
 go_simp
 refine (fits_whole _ (i : Int) hz U1 (hN.kept u1)).mono ?_
 rintro _ U2 ⟨rfl, c2⟩
 have u2 : Below w.heap.size w U2 := u1.trans (c2.mono u1.size)
 have p2 := (c2.block _ (hblk p1)).trans p1
 have d2 := (c2.block _ (hblk d1)).trans d1
 have h2 := h1.below c2
 obtain ⟨v2, x2, _⟩ := h2.ex
 go_simp
 have hS2 : (∀ j, U2.cell? ⟨w.heap.size, j, none⟩ = (#[.pointer (some ⟨wb, 0, none⟩)] : Array Value)[j]?) ∧ (∀ j, U2.cell? ⟨w.heap.size + 1, j, none⟩ = (#[.int .i64 2, .string ⟨#[105, 110, 116]⟩, .int .i64 (i : Int), .int .u64 0, .string ⟨#[]⟩, .int .i64 0, .int .i64 0, .int .i64 0, .int .i64 0, .slice none 0 0, .slice none 0 0] : Array Value)[j]?) ∧ (∀ j, j < 2 → U2.cell? ⟨wb, j, none⟩ = (#[.pointer (some ⟨hb, 0, none⟩), y] : Array Value)[j]?) := ⟨(cells_of p2).1, (cells_of d2).1, fun j hj => by rw [(cells_of x2).1 j]; rcases (show j = 0 ∨ j = 1 by omega) with rfl | rfl <;> rfl⟩
 refine hK _ _ ⟨hS2, ?_⟩
 clear hK K hS
 have hS := hS2
 clear hS2
 try simp only [Act.put, sd, se, sf]
 refine tq 6 (.bool false) rfl hS ?_
 simp only [sa, sb, sc, Act.put, sd, se, sf]
 refine one 7 rfl (fun K hK => ?_)
 simp only [sa, sb, sc]
 go_simp
 refine hK _ _ ⟨hS, ?_⟩
 clear hK K
 try simp only [Act.put, sd, se, sf]
 refine dn ?_
 try simp only [Act.put]
 clear hS x2
 have pc2 := (cells_of p2).1
 have dc2 := (cells_of d2).1
 go_wp2_with fail
 refine rg (S := fun W => (∀ j, W.cell? ⟨w.heap.size, j, none⟩ = (#[.pointer (some ⟨wb, 0, none⟩)] : Array Value)[j]?) ∧ (∀ j, W.cell? ⟨w.heap.size + 1, j, none⟩ = (#[.int .i64 2, .string ⟨#[105, 110, 116]⟩, .int .i64 (i : Int), .int .u64 0, .string ⟨#[]⟩, .int .i64 0, .int .i64 0, .int .i64 0, .int .i64 0, .slice none 0 0, .slice none 0 0] : Array Value)[j]?)) (fun U3 hB4 HU3 => ?_)
 have hS : (∀ j, U3.cell? ⟨w.heap.size, j, none⟩ = (#[.pointer (some ⟨wb, 0, none⟩)] : Array Value)[j]?) ∧ (∀ j, U3.cell? ⟨w.heap.size + 1, j, none⟩ = (#[.int .i64 2, .string ⟨#[105, 110, 116]⟩, .int .i64 (i : Int), .int .u64 0, .string ⟨#[]⟩, .int .i64 0, .int .i64 0, .int .i64 0, .int .i64 0, .slice none 0 0, .slice none 0 0] : Array Value)[j]?) := ⟨(cells_of ((hB4.block _ (hblk p2)).trans p2)).1, (cells_of ((hB4.block _ (hblk d2)).trans d2)).1⟩
 refine tk 0 (.pointer (some ⟨wb, 0, none⟩)) rfl (.inl ⟨by rfl, ?r⟩) hS ?_
 case r => intro W hW; simp [go_sem, execOp, Act.eval, hW.1]
 simp only [sa, sb, Act.put, sd, se, sf]
 refine tk 1 (.agg #[.int .i64 2, .string ⟨#[105, 110, 116]⟩, .int .i64 (i : Int), .int .u64 0, .string ⟨#[]⟩, .int .i64 0, .int .i64 0, .int .i64 0, .int .i64 0, .slice none 0 0, .slice none 0 0]) rfl (.inl ⟨by rfl, ?r⟩) hS ?_
 case r => intro W hW; simp [go_sem, execOp, Act.eval, hW.2]
 simp only [sa, sb, sc, Act.put, sd, se, sf]
 have u3 : Below w.heap.size w U3 := u2.trans (hB4.mono u2.size)
 have p3 := (hB4.block _ (hblk p2)).trans p2
 have d3 := (hB4.block _ (hblk d2)).trans d2
 have h3 := h2.below hB4
 clear HU3 hB4 p2 d2 pc2 dc2
 refine one 2 rfl (fun K hK => ?_)
 simp only [sa, sb, sc]
 go_simp
 refine (numShow_small i hi U3).mono ?_
 rintro _ U4 ⟨rfl, c4⟩
 have u4 : Below w.heap.size w U4 := u3.trans (c4.mono u3.size)
 have p4 := (c4.block _ (hblk p3)).trans p3
 have d4 := (c4.block _ (hblk d3)).trans d3
 have h4 := h3.below c4
 go_simp
 refine hK _ _ ⟨⟨(cells_of p4).1, (cells_of d4).1⟩, ?_⟩
 clear hK K hS
 try simp only [Act.put, sd, se, sf]
 refine one 3 rfl (fun K hK => ?_)
 simp only [sa, sb, sc]
 go_simp
 refine (write_any B wb _ y L ⟨(Lib.decDigits i).toArray⟩ (by omega) (by have := dig_size i hi; show (Lib.decDigits i).toArray.size ≤ 1000; rw [List.size_toArray]; omega) U4 h4).mono ?_
 rintro _ U5 ⟨rfl, h5, k5⟩
 have k6 : WK B wb w U5 := (WK.of u4).trans k5
 have hwl2 := h.le
 have p5 : U5.heap[w.heap.size]? = _ := k5.block _ _ p4 (by omega) (.inr (by simp))
 have d5 : U5.heap[w.heap.size + 1]? = _ := k5.block _ _ d4 (by omega) (.inr (by simp))
 go_simp
 refine hK _ _ ⟨⟨(cells_of p5).1, (cells_of d5).1⟩, ?_⟩
 clear hK K
 try simp only [Act.put, sd, se, sf]
 refine dn ?_
 try simp only [Act.put]
 go_wp2_with fail
 exact bodyPost_end (results_none rfl _ _ _) rfl ⟨rfl, by simpa using h5, k6⟩
end Go.Proofs.YtdbijkgnddcneaaGreatDoor
namespace Go.Proofs.YtdbijkgnddcneaaGreatDoor
open Go.RowKit Go.ChangeMaps
set_option maxRecDepth 100000
set_option maxHeartbeats 4000000
attribute [local go_sem] refold2 cell3_0 cell3_1 b28_0 b28_01 nz26 nz23
def LsRel (B wb : Nat) (x y : Value) (L D : List UInt8) (w0 : World) (i : Value) (wr : World) : Prop := (i = .int .i64 0 ∧ WrAt B wb x y L wr ∧ WK B wb w0 wr) ∨ (i = .int .i64 1 ∧ WrAt B wb x y (L ++ D) wr ∧ WK B wb w0 wr)
theorem list_one (B wb hb M : Nat) (y : Value) (L : List UInt8) (hl : L.length ≤ 800) (vs : List Value) (m ab g : Nat) (hm : vs[m]? = some (arrV ab)) (hF : FlatR (leadD 5 ⟨#[108, 105, 115, 116]⟩ ((m : Int) + 1) 0 1 1)) (i : Nat) (hi : i < 100) (hz : FlatR (wholeD (i : Int))) (n : Int) (w : World) (hN : NamesAt w) (hH : HeapAt w hb M vs) (ha : w.heap[ab]? = some (.cells #[.slice (some ⟨g, 0, none⟩) 1 1] 131)) (hg : w.heap[g]? = some (.cells (rowOf [wholeD (i : Int)]).toArray 32)) (hgw : g ≠ wb) (hw0 : wb ≠ 0) (h : WrAt B wb (.pointer (some ⟨hb, 0, none⟩)) y L w) :
  Calls Tryz.prog 125 #[.pointer (some ⟨wb, 0, none⟩), .agg #[.int .i64 5, .string ⟨#[108, 105, 115, 116]⟩, .int .i64 0, .int .u64 0, .string ⟨#[]⟩, .int .i64 ((m : Int) + 1), .int .i64 0, .int .i64 1, .int .i64 1, .slice none 0 0, .slice none 0 0], .int .i64 n] w fun r w' => r = .returned (.tuple #[]) ∧ WrAt B wb (.pointer (some ⟨hb, 0, none⟩)) y (L ++ [91] ++ Lib.decDigits i ++ [93]) w' ∧ WK B wb w w' := by
 have hwl : wb < w.heap.size := Nat.lt_of_lt_of_le h.lt h.le
 have HP : Hid (∀ W, Below w.heap.size w W → Calls Tryz.prog 36 #[.pointer (some ⟨hb, 0, none⟩), .agg #[.int .i64 5, .string ⟨#[108, 105, 115, 116]⟩, .int .i64 0, .int .u64 0, .string ⟨#[]⟩, .int .i64 ((m : Int) + 1), .int .i64 0, .int .i64 1, .int .i64 1, .slice none 0 0, .slice none 0 0]] W fun r w' => r = .returned (.tuple #[.slice (some ⟨g, 0, none⟩) 1 1, .bool true]) ∧ Below W.heap.size W w') := fun W hW => by
  have := piece_any hb M vs m ab hm g 1 0 1 1 (by omega) (by omega) ⟨#[108, 105, 115, 116]⟩ hF W (hN.kept hW) (hH.below hW) ((hW.block _ (hblk ha)).trans ha)
  exact this
 go_enter Tryz.func125, Tryz.ntmps125
 go_wp2_with fail
 obtain ⟨U0, hU0⟩ : ∃ W, W = w.alloc (.cells #[.int .i64 5, .string ⟨#[108, 105, 115, 116]⟩, .int .i64 0, .int .u64 0, .string ⟨#[]⟩, .int .i64 ((m : Int) + 1), .int .i64 0, .int .i64 1, .int .i64 1, .slice none 0 0, .slice none 0 0] 32) := ⟨_, rfl⟩
 rw [← hU0]
 have u0 : Below w.heap.size w U0 := by rw [hU0]; exact below1 w _
 have d0 : U0.heap[w.heap.size]? = some (.cells #[.int .i64 5, .string ⟨#[108, 105, 115, 116]⟩, .int .i64 0, .int .u64 0, .string ⟨#[]⟩, .int .i64 ((m : Int) + 1), .int .i64 0, .int .i64 1, .int .i64 1, .slice none 0 0, .slice none 0 0] 32) := by rw [hU0]; exact heap_alloc_new _ _
 clear hU0
 have h0 := h.below u0
 obtain ⟨v0, x0, _⟩ := h0.ex
 refine rg (S := fun W => (∀ j, W.cell? ⟨w.heap.size, j, none⟩ = (#[.int .i64 5, .string ⟨#[108, 105, 115, 116]⟩, .int .i64 0, .int .u64 0, .string ⟨#[]⟩, .int .i64 ((m : Int) + 1), .int .i64 0, .int .i64 1, .int .i64 1, .slice none 0 0, .slice none 0 0] : Array Value)[j]?) ∧ (∀ j, j < 2 → W.cell? ⟨wb, j, none⟩ = (#[.pointer (some ⟨hb, 0, none⟩), y] : Array Value)[j]?)) (fun U1 hB4 HU1 => ?_)
 have hS : (∀ j, U1.cell? ⟨w.heap.size, j, none⟩ = (#[.int .i64 5, .string ⟨#[108, 105, 115, 116]⟩, .int .i64 0, .int .u64 0, .string ⟨#[]⟩, .int .i64 ((m : Int) + 1), .int .i64 0, .int .i64 1, .int .i64 1, .slice none 0 0, .slice none 0 0] : Array Value)[j]?) ∧ (∀ j, j < 2 → U1.cell? ⟨wb, j, none⟩ = (#[.pointer (some ⟨hb, 0, none⟩), y] : Array Value)[j]?) := ⟨(cells_of ((hB4.block _ (hblk d0)).trans d0)).1, fun j hj => by rw [(cells_of ((hB4.block _ (hblk x0)).trans x0)).1 j]; rcases (show j = 0 ∨ j = 1 by omega) with rfl | rfl <;> rfl⟩
 refine tq 0 (.pointer (some ⟨wb, 0, none⟩)) rfl hS ?_
 simp only [sa, sb, Act.put, sd, se, sf]
 refine tq 1 (.pointer (some ⟨wb, 0, none⟩)) rfl hS ?_
 simp only [sa, sb, sc, Act.put, sd, se, sf]
 refine tq 2 (.pointer (some ⟨wb, 0, none⟩)) rfl hS ?_
 simp only [sa, sb, sc, Act.put, sd, se, sf]
 refine tk 3 (.pointer (some ⟨hb, 0, none⟩)) rfl (.inl ⟨by rfl, ?r⟩) hS ?_
 case r => intro W hW; simp [go_sem, execOp, Act.eval, hW.2 0 (by decide)]
 simp only [sa, sb, sc, Act.put, sd, se, sf]
 refine tk 4 (.agg #[.int .i64 5, .string ⟨#[108, 105, 115, 116]⟩, .int .i64 0, .int .u64 0, .string ⟨#[]⟩, .int .i64 ((m : Int) + 1), .int .i64 0, .int .i64 1, .int .i64 1, .slice none 0 0, .slice none 0 0]) rfl (.inl ⟨by rfl, ?r⟩) hS ?_
 case r => intro W hW; simp [go_sem, execOp, Act.eval, hW.1]
 simp only [sa, sb, sc, Act.put, sd, se, sf]
 have u1 : Below w.heap.size w U1 := u0.trans (hB4.mono u0.size)
 have d1 := (hB4.block _ (hblk d0)).trans d0
 have h1 := h.below u1
 clear HU1 hB4 d0 u0 h0 x0
 refine one 5 rfl (fun K hK => ?_)
 simp only [sa, sb, sc]
 go_simp
 refine (HP.out U1 u1).mono ?_
 rintro _ U2 ⟨rfl, c2⟩
 have u2 : Below w.heap.size w U2 := u1.trans (c2.mono u1.size)
 have d2 := (c2.block _ (hblk d1)).trans d1
 have h2 := h1.below c2
 obtain ⟨v2, x2, _⟩ := h2.ex
 go_simp
 have hS2 : (∀ j, U2.cell? ⟨w.heap.size, j, none⟩ = (#[.int .i64 5, .string ⟨#[108, 105, 115, 116]⟩, .int .i64 0, .int .u64 0, .string ⟨#[]⟩, .int .i64 ((m : Int) + 1), .int .i64 0, .int .i64 1, .int .i64 1, .slice none 0 0, .slice none 0 0] : Array Value)[j]?) ∧ (∀ j, j < 2 → U2.cell? ⟨wb, j, none⟩ = (#[.pointer (some ⟨hb, 0, none⟩), y] : Array Value)[j]?) := ⟨(cells_of d2).1, fun j hj => by rw [(cells_of x2).1 j]; rcases (show j = 0 ∨ j = 1 by omega) with rfl | rfl <;> rfl⟩
 refine hK _ _ ⟨hS2, ?_⟩
 clear hK K hS
 have hS := hS2
 clear hS2
 try simp only [Act.put, sd, se, sf]
 refine tq 6 (.tuple #[.slice (some ⟨g, 0, none⟩) 1 1, .bool true]) rfl hS ?_
 simp only [sa, sb, sc, Act.put, sd, se, sf]
 refine tq 7 (.slice (some ⟨g, 0, none⟩) 1 1) rfl hS ?_
 simp only [sa, sb, sc, Act.put, sd, se, sf]
 refine tq 8 (.bool true) rfl hS ?_
 simp only [sa, sb, sc, Act.put, sd, se, sf]
 refine one 9 rfl (fun K hK => ?_)
 simp only [sa, sb, sc]
 go_simp
 refine hK _ _ ⟨hS, ?_⟩
 clear hK K
 try simp only [Act.put, sd, se, sf]
 refine one 10 rfl (fun K hK => ?_)
 simp only [sa, sb, sc]
 go_simp
 refine hK _ _ ⟨hS, ?_⟩
 clear hK K
 try simp only [Act.put, sd, se, sf]
 refine dn ?_
 try simp only [Act.put]
 clear hS x2
 go_wp2_with fail
 refine (write_any B wb _ y L ⟨#[91]⟩ (by omega) (by show 1 ≤ 1000; omega) U2 h2).mono ?_
 rintro _ U3 ⟨rfl, h3, k3⟩
 have k4 : WK B wb w U3 := (WK.of u2).trans k3
 go_wp2_with fail
 go_loopw [23] (fun j wr => LsRel B wb (.pointer (some ⟨hb, 0, none⟩)) y (L ++ [91]) (Lib.decDigits i) w j wr) (fun j _ => 1 - (intOf j).toNat)
 case atStart => exact .inl ⟨rfl, h3, k4⟩
 case round =>
  clear h3 k4 k3 h2 u2 d2
  rcases hrel with ⟨rfl, h5, k5⟩ | ⟨rfl, h5, k5⟩
  ·have g5 : wr.heap[g]? = some (.cells (rowOf [wholeD (i : Int)]).toArray 32) := k5.block _ _ hg hgw (.inr (by simp))
   have hC := (cells_of g5).1
   have c0 : wr.cell? ⟨g, 0, none⟩ = some (.int .i64 2) := hC 0
   have c1 : wr.cell? ⟨g, 1, none⟩ = some (.string ⟨#[105, 110, 116]⟩) := hC 1
   have c2 : wr.cell? ⟨g, 2, none⟩ = some (.int .i64 (i : Int)) := hC 2
   have c3 : wr.cell? ⟨g, 3, none⟩ = some (.int .u64 0) := hC 3
   have c4 : wr.cell? ⟨g, 4, none⟩ = some (.string ⟨#[]⟩) := hC 4
   have c5 : wr.cell? ⟨g, 5, none⟩ = some (.int .i64 0) := hC 5
   have c6 : wr.cell? ⟨g, 6, none⟩ = some (.int .i64 0) := hC 6
   have c7 : wr.cell? ⟨g, 7, none⟩ = some (.int .i64 0) := hC 7
   have c8 : wr.cell? ⟨g, 8, none⟩ = some (.int .i64 0) := hC 8
   have c9 : wr.cell? ⟨g, 9, none⟩ = some (.slice none 0 0) := hC 9
   have c10 : wr.cell? ⟨g, 10, none⟩ = some (.slice none 0 0) := hC 10
   clear hC
   have n5 : NamesAt wr := by
    have hlt0 := hN.lt
    have hb0 := k5.block 0 _ (Array.getElem?_eq_getElem hlt0) (by omega) (.inl (by have := h.lt; omega))
    exact ⟨fun j => (World.cell?_of_block (a := ⟨0, j, none⟩) (hb0.trans (Array.getElem?_eq_getElem hlt0).symm)).trans (hN.cells j), Nat.lt_of_lt_of_le hlt0 k5.size⟩
   go_wp2_with fail
   obtain ⟨U5, hU5⟩ : ∃ W, W = wr.alloc (.cells #[.int .i64 2, .string ⟨#[105, 110, 116]⟩, .int .i64 (i : Int), .int .u64 0, .string ⟨#[]⟩, .int .i64 0, .int .i64 0, .int .i64 0, .int .i64 0, .slice none 0 0, .slice none 0 0] 32) := ⟨_, rfl⟩
   rw [← hU5]
   have c5 : Below wr.heap.size wr U5 := by rw [hU5]; exact below1 _ _
   have b5 : U5.heap[wr.heap.size]? = some (.cells #[.int .i64 2, .string ⟨#[105, 110, 116]⟩, .int .i64 (i : Int), .int .u64 0, .string ⟨#[]⟩, .int .i64 0, .int .i64 0, .int .i64 0, .int .i64 0, .slice none 0 0, .slice none 0 0] 32) := by rw [hU5]; exact heap_alloc_new _ _
   clear hU5
   have h6 := h5.below c5
   refine (full_any B wb _ y _ (by simp; omega) U5 h6).mono ?_
   rintro _ V ⟨rfl, hV⟩
   obtain rfl := hV.symm
   go_wp2_with fail
   refine (between_0 _ _).mono ?_
   rintro _ V ⟨rfl, hV⟩
   obtain rfl := hV.symm
   have bc5 := (cells_of b5).1
   go_wp2_with fail
   refine (datum_int B wb hb y (L ++ [91]) (by simp; omega) i hi hz n U5 (n5.kept c5) h6).mono ?_
   rintro _ U6 ⟨rfl, h7, k7⟩
   go_wp2_with fail
   exact ⟨.inr ⟨rfl, h7, (k5.trans (WK.of c5)).trans k7⟩, by simp [intOf]⟩
  ·go_wp2_with fail
   refine (write_any B wb _ y _ ⟨#[93]⟩ (by have := dig_size i hi; simp at *; omega) (by show 1 ≤ 1000; omega) _ h5).mono ?_
   rintro _ W6 ⟨rfl, h6, k6⟩
   go_wp2_with fail
   exact bodyPost_end (results_none rfl _ _ _) rfl ⟨rfl, h6, k5.trans k6⟩
end Go.Proofs.YtdbijkgnddcneaaGreatDoor
namespace Go.Proofs.YtdbijkgnddcneaaGreatDoor
open Go.RowKit Go.ChangeMaps
set_option maxRecDepth 100000
set_option maxHeartbeats 4000000
attribute [local go_sem] refold2 cell3_0 cell3_1 b28_0 b28_01 nz26 nz23
theorem clos_list (Q : Ending → World → Prop) (b0 b1 b2 wb m : Nat) (n : Int) (w : World) (h0 : w.cell? ⟨b0, 0, none⟩ = some (.pointer (some ⟨wb, 0, none⟩))) (h1 : w.heap[b1]? = some (.cells #[.int .i64 5, .string ⟨#[108, 105, 115, 116]⟩, .int .i64 0, .int .u64 0, .string ⟨#[]⟩, .int .i64 ((m : Int) + 1), .int .i64 0, .int .i64 1, .int .i64 1, .slice none 0 0, .slice none 0 0] 32)) (h2 : w.cell? ⟨b2, 0, none⟩ = some (.int .i64 n)) (HL : Calls Tryz.prog 125 #[.pointer (some ⟨wb, 0, none⟩), .agg #[.int .i64 5, .string ⟨#[108, 105, 115, 116]⟩, .int .i64 0, .int .u64 0, .string ⟨#[]⟩, .int .i64 ((m : Int) + 1), .int .i64 0, .int .i64 1, .int .i64 1, .slice none 0 0, .slice none 0 0], .int .i64 n] w fun r w' => r = .returned (.tuple #[]) ∧ Q r w') :
  Calls Tryz.prog 124 #[.pointer (some ⟨b0, 0, none⟩), .pointer (some ⟨b1, 0, none⟩), .pointer (some ⟨b2, 0, none⟩)] w fun r w' => r = .returned (.tuple #[]) ∧ Q r w' := by
 have HH : Hid _ := HL
 have c1 := (cells_of h1).1
 clear HL
 go_enter Tryz.func124, Tryz.ntmps124
 go_wp2_with fail
 refine Calls.mono HH.out ?_
 rintro _ W ⟨rfl, hQ⟩
 go_wp2_with fail
 exact bodyPost_end (results_none rfl _ _ _) rfl ⟨rfl, hQ⟩
theorem named_list (Q : Ending → World → Prop) (b0 b1 b2 : Nat) (wv : Value) (w : World) (HL : Calls Tryz.prog 124 #[.pointer (some ⟨b0, 0, none⟩), .pointer (some ⟨b1, 0, none⟩), .pointer (some ⟨b2, 0, none⟩)] w fun r w' => r = .returned (.tuple #[]) ∧ Q r w') :
  Calls Tryz.prog 87 #[wv, .string ⟨#[108, 105, 115, 116]⟩, .string ⟨#[108, 105, 115, 116]⟩, .func (.func 124) #[] #[.pointer (some ⟨b0, 0, none⟩), .pointer (some ⟨b1, 0, none⟩), .pointer (some ⟨b2, 0, none⟩)]] w fun r w' => r = .returned (.tuple #[]) ∧ Q r w' := by
 have HH : Hid _ := HL
 clear HL
 go_enter Tryz.func87, Tryz.ntmps87
 go_wp2_with fail
 refine Calls.mono HH.out ?_
 rintro _ W ⟨rfl, hQ⟩
 go_wp2_with fail
 exact bodyPost_ret (results_none rfl _ _ _) rfl ⟨rfl, hQ⟩
theorem inside_list (B wb hb M : Nat) (y : Value) (L : List UInt8) (hl : L.length ≤ 800) (vs : List Value) (m ab g : Nat) (hm : vs[m]? = some (arrV ab)) (hF : FlatR (leadD 5 ⟨#[108, 105, 115, 116]⟩ ((m : Int) + 1) 0 1 1)) (i : Nat) (hi : i < 100) (hz : FlatR (wholeD (i : Int))) (n : Int) (w : World) (hN : NamesAt w) (hH : HeapAt w hb M vs) (ha : w.heap[ab]? = some (.cells #[.slice (some ⟨g, 0, none⟩) 1 1] 131)) (hg : w.heap[g]? = some (.cells (rowOf [wholeD (i : Int)]).toArray 32)) (hgw : g ≠ wb) (hw0 : wb ≠ 0) (h : WrAt B wb (.pointer (some ⟨hb, 0, none⟩)) y L w) :
  Calls Tryz.prog 89 #[.pointer (some ⟨wb, 0, none⟩), .agg #[.int .i64 5, .string ⟨#[108, 105, 115, 116]⟩, .int .i64 0, .int .u64 0, .string ⟨#[]⟩, .int .i64 ((m : Int) + 1), .int .i64 0, .int .i64 1, .int .i64 1, .slice none 0 0, .slice none 0 0], .int .i64 n] w fun r w' => r = .returned (.tuple #[]) ∧ WrAt B wb (.pointer (some ⟨hb, 0, none⟩)) y (L ++ [91] ++ Lib.decDigits i ++ [93]) w' ∧ WK B wb w w' := by
 go_enter Tryz.func89, Tryz.ntmps89
 go_wp2_with fail
 obtain ⟨U0, hU0⟩ : ∃ W, W = ((w.alloc (.cells #[.pointer (some ⟨wb, 0, none⟩)] 120)).alloc (.cells #[.int .i64 5, .string ⟨#[108, 105, 115, 116]⟩, .int .i64 0, .int .u64 0, .string ⟨#[]⟩, .int .i64 ((m : Int) + 1), .int .i64 0, .int .i64 1, .int .i64 1, .slice none 0 0, .slice none 0 0] 32)).alloc (.cells #[.int .i64 n] 3) := ⟨_, rfl⟩
 rw [← hU0]
 have u0 : Below w.heap.size w U0 := by rw [hU0]; exact below3 w _ _ _
 have p0 : U0.heap[w.heap.size]? = some (.cells #[.pointer (some ⟨wb, 0, none⟩)] 120) := by rw [hU0, Below.heap_alloc _ _ _ (by simp; omega), Below.heap_alloc _ _ _ (by simp)]; exact heap_alloc_new _ _
 have d0 : U0.heap[w.heap.size + 1]? = some (.cells #[.int .i64 5, .string ⟨#[108, 105, 115, 116]⟩, .int .i64 0, .int .u64 0, .string ⟨#[]⟩, .int .i64 ((m : Int) + 1), .int .i64 0, .int .i64 1, .int .i64 1, .slice none 0 0, .slice none 0 0] 32) := by rw [hU0, Below.heap_alloc _ _ _ (by simp)]; exact heap2_1 _ _ _
 have n0 : U0.heap[w.heap.size + 1 + 1]? = some (.cells #[.int .i64 n] 3) := by rw [hU0, show w.heap.size + 1 + 1 = ((w.alloc (.cells #[.pointer (some ⟨wb, 0, none⟩)] 120)).alloc (.cells #[.int .i64 5, .string ⟨#[108, 105, 115, 116]⟩, .int .i64 0, .int .u64 0, .string ⟨#[]⟩, .int .i64 ((m : Int) + 1), .int .i64 0, .int .i64 1, .int .i64 1, .slice none 0 0, .slice none 0 0] 32)).heap.size by simp]; exact heap_alloc_new _ _
 clear hU0
 have HL := list_one B wb hb M y L hl vs m ab g hm hF i hi hz n U0 (hN.kept u0) (hH.below u0) ((u0.block _ (hblk ha)).trans ha) ((u0.block _ (hblk hg)).trans hg) hgw hw0 (h.below u0)
 have HC := named_list _ _ _ _ (.pointer (some ⟨wb, 0, none⟩)) U0 (clos_list (fun _ w' => WrAt B wb (.pointer (some ⟨hb, 0, none⟩)) y (L ++ [91] ++ Lib.decDigits i ++ [93]) w' ∧ WK B wb U0 w') w.heap.size (w.heap.size + 1) (w.heap.size + 1 + 1) wb m n U0 ((cells_of p0).1 0) d0 ((cells_of n0).1 0) HL)
 refine Calls.mono HC ?_
 rintro _ W ⟨rfl, h5, k5⟩
 go_wp2_with fail
 exact bodyPost_end (results_none rfl _ _ _) rfl ⟨rfl, h5, (WK.of u0).trans k5⟩
theorem datum_list (B wb hb M : Nat) (y : Value) (L : List UInt8) (hl : L.length ≤ 800) (vs : List Value) (m ab g : Nat) (hm : vs[m]? = some (arrV ab)) (hF : FlatR (leadD 5 ⟨#[108, 105, 115, 116]⟩ ((m : Int) + 1) 0 1 1)) (i : Nat) (hi : i < 100) (hz : FlatR (wholeD (i : Int))) (w : World) (hN : NamesAt w) (hH : HeapAt w hb M vs) (ha : w.heap[ab]? = some (.cells #[.slice (some ⟨g, 0, none⟩) 1 1] 131)) (hg : w.heap[g]? = some (.cells (rowOf [wholeD (i : Int)]).toArray 32)) (hgw : g ≠ wb) (hw0 : wb ≠ 0) (h : WrAt B wb (.pointer (some ⟨hb, 0, none⟩)) y L w) :
  Calls Tryz.prog 62 #[.pointer (some ⟨wb, 0, none⟩), .agg #[.int .i64 5, .string ⟨#[108, 105, 115, 116]⟩, .int .i64 0, .int .u64 0, .string ⟨#[]⟩, .int .i64 ((m : Int) + 1), .int .i64 0, .int .i64 1, .int .i64 1, .slice none 0 0, .slice none 0 0], .int .i64 0] w fun r w' => r = .returned (.tuple #[]) ∧ WrAt B wb (.pointer (some ⟨hb, 0, none⟩)) y (L ++ [91] ++ Lib.decDigits i ++ [93]) w' ∧ WK B wb w w' := by
 have hwl : wb < w.heap.size := Nat.lt_of_lt_of_le h.lt h.le
 have HFt : Hid (∀ W, Below w.heap.size w W → Calls Tryz.prog 64 #[.pointer (some ⟨hb, 0, none⟩), .agg #[.int .i64 5, .string ⟨#[108, 105, 115, 116]⟩, .int .i64 0, .int .u64 0, .string ⟨#[]⟩, .int .i64 ((m : Int) + 1), .int .i64 0, .int .i64 1, .int .i64 1, .slice none 0 0, .slice none 0 0]] W fun r w' => r = .returned (.bool true) ∧ Below W.heap.size W w') := fun W hW => fits_list hb M vs m ab hm _ 1 ⟨#[108, 105, 115, 116]⟩ _ 0 1 1 rfl hF (by omega) (by omega) W (hN.kept hW) (hH.below hW) ((hW.block _ (hblk ha)).trans ha)
 have o1 : ¬ (m : Int) + 1 = 0 := by omega
 go_enter Tryz.func62, Tryz.ntmps62
 go_wp2_with fail
 obtain ⟨U0, hU0, u0, p0, d0⟩ := an2 w (.cells #[.pointer (some ⟨wb, 0, none⟩)] 120) (.cells #[.int .i64 5, .string ⟨#[108, 105, 115, 116]⟩, .int .i64 0, .int .u64 0, .string ⟨#[]⟩, .int .i64 ((m : Int) + 1), .int .i64 0, .int .i64 1, .int .i64 1, .slice none 0 0, .slice none 0 0] 32)
 rw [← hU0]
 clear hU0
 have h0 := h.below u0
 obtain ⟨v0, x0, _⟩ := h0.ex
 refine rg (S := fun W => (∀ j, W.cell? ⟨w.heap.size, j, none⟩ = (#[.pointer (some ⟨wb, 0, none⟩)] : Array Value)[j]?) ∧ (∀ j, W.cell? ⟨w.heap.size + 1, j, none⟩ = (#[.int .i64 5, .string ⟨#[108, 105, 115, 116]⟩, .int .i64 0, .int .u64 0, .string ⟨#[]⟩, .int .i64 ((m : Int) + 1), .int .i64 0, .int .i64 1, .int .i64 1, .slice none 0 0, .slice none 0 0] : Array Value)[j]?) ∧ (∀ j, j < 2 → W.cell? ⟨wb, j, none⟩ = (#[.pointer (some ⟨hb, 0, none⟩), y] : Array Value)[j]?)) (fun U1 hB4 HU1 => ?_)
 have hS : (∀ j, U1.cell? ⟨w.heap.size, j, none⟩ = (#[.pointer (some ⟨wb, 0, none⟩)] : Array Value)[j]?) ∧ (∀ j, U1.cell? ⟨w.heap.size + 1, j, none⟩ = (#[.int .i64 5, .string ⟨#[108, 105, 115, 116]⟩, .int .i64 0, .int .u64 0, .string ⟨#[]⟩, .int .i64 ((m : Int) + 1), .int .i64 0, .int .i64 1, .int .i64 1, .slice none 0 0, .slice none 0 0] : Array Value)[j]?) ∧ (∀ j, j < 2 → U1.cell? ⟨wb, j, none⟩ = (#[.pointer (some ⟨hb, 0, none⟩), y] : Array Value)[j]?) := ⟨(cells_of ((hB4.block _ (hblk p0)).trans p0)).1, (cells_of ((hB4.block _ (hblk d0)).trans d0)).1, fun j hj => by rw [(cells_of ((hB4.block _ (hblk x0)).trans x0)).1 j]; rcases (show j = 0 ∨ j = 1 by omega) with rfl | rfl <;> rfl⟩
 refine tk 0 (.pointer (some ⟨wb, 0, none⟩)) rfl (.inl ⟨by rfl, ?r⟩) hS ?_
 case r => intro W hW; simp [go_sem, execOp, Act.eval, hW.1]
 simp only [sa, sb, Act.put, sd, se, sf]
 refine tq 1 (.pointer (some ⟨wb, 0, none⟩)) rfl hS ?_
 simp only [sa, sb, sc, Act.put, sd, se, sf]
 refine tq 2 (.pointer (some ⟨wb, 0, none⟩)) rfl hS ?_
 simp only [sa, sb, sc, Act.put, sd, se, sf]
 refine tk 3 (.pointer (some ⟨hb, 0, none⟩)) rfl (.inl ⟨by rfl, ?r⟩) hS ?_
 case r => intro W hW; simp [go_sem, execOp, Act.eval, hW.2.2 0 (by decide)]
 simp only [sa, sb, sc, Act.put, sd, se, sf]
 refine tk 4 (.agg #[.int .i64 5, .string ⟨#[108, 105, 115, 116]⟩, .int .i64 0, .int .u64 0, .string ⟨#[]⟩, .int .i64 ((m : Int) + 1), .int .i64 0, .int .i64 1, .int .i64 1, .slice none 0 0, .slice none 0 0]) rfl (.inl ⟨by rfl, ?r⟩) hS ?_
 case r => intro W hW; simp [go_sem, execOp, Act.eval, hW.2.1]
 simp only [sa, sb, sc, Act.put, sd, se, sf]
 have u1 : Below w.heap.size w U1 := u0.trans (hB4.mono u0.size)
 have p1 := (hB4.block _ (hblk p0)).trans p0
 have d1 := (hB4.block _ (hblk d0)).trans d0
 have h1 := h.below u1
 clear HU1 hB4 p0 d0 u0 h0 x0
 refine one 5 rfl (fun K hK => ?_)
 simp only [sa, sb, sc]
 go_simp
 refine (HFt.out U1 u1).mono ?_
 rintro _ U2 ⟨rfl, c2⟩
 have u2 : Below w.heap.size w U2 := u1.trans (c2.mono u1.size)
 have p2 := (c2.block _ (hblk p1)).trans p1
 have d2 := (c2.block _ (hblk d1)).trans d1
 have h2 := h1.below c2
 obtain ⟨v2, x2, _⟩ := h2.ex
 go_simp
 have hS2 : (∀ j, U2.cell? ⟨w.heap.size, j, none⟩ = (#[.pointer (some ⟨wb, 0, none⟩)] : Array Value)[j]?) ∧ (∀ j, U2.cell? ⟨w.heap.size + 1, j, none⟩ = (#[.int .i64 5, .string ⟨#[108, 105, 115, 116]⟩, .int .i64 0, .int .u64 0, .string ⟨#[]⟩, .int .i64 ((m : Int) + 1), .int .i64 0, .int .i64 1, .int .i64 1, .slice none 0 0, .slice none 0 0] : Array Value)[j]?) ∧ (∀ j, j < 2 → U2.cell? ⟨wb, j, none⟩ = (#[.pointer (some ⟨hb, 0, none⟩), y] : Array Value)[j]?) := ⟨(cells_of p2).1, (cells_of d2).1, fun j hj => by rw [(cells_of x2).1 j]; rcases (show j = 0 ∨ j = 1 by omega) with rfl | rfl <;> rfl⟩
 refine hK _ _ ⟨hS2, ?_⟩
 clear hK K hS
 have hS := hS2
 clear hS2
 try simp only [Act.put, sd, se, sf]
 refine tq 6 (.bool false) rfl hS ?_
 simp only [sa, sb, sc, Act.put, sd, se, sf]
 refine one 7 rfl (fun K hK => ?_)
 simp only [sa, sb, sc]
 go_simp
 refine hK _ _ ⟨hS, ?_⟩
 clear hK K
 try simp only [Act.put, sd, se, sf]
 refine dn ?_
 try simp only [Act.put]
 clear hS x2
 have pc2 := (cells_of p2).1
 have dc2 := (cells_of d2).1
 go_wp2_with fail
 refine (inside_list B wb hb M y L hl vs m ab g hm hF i hi hz _ U2 (hN.kept u2) (hH.below u2) ((u2.block _ (hblk ha)).trans ha) ((u2.block _ (hblk hg)).trans hg) hgw hw0 h2).mono ?_
 rintro _ W ⟨rfl, h5, k5⟩
 go_wp2_with fail
 exact bodyPost_end (results_none rfl _ _ _) rfl ⟨rfl, h5, (WK.of u2).trans k5⟩
end Go.Proofs.YtdbijkgnddcneaaGreatDoor
