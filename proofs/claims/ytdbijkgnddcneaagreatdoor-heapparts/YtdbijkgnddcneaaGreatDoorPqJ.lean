/-
  .
  .
  .
  .
  .
  .
  .
  .
  .
-/
import Derived.Test.YtdbijkgnddcneaaGreatDoorPeJ
import Derived.Test.YtdbijkgnddcneaaGreatDoorZaJ
import Derived.Test.YtdbijkgnddcneaaGreatDoorPj
import Derived.Test.YtdbijkgnddcneaaGreatDoorSq
import Derived.Test.YtdbijkgnddcneaaGreatDoorSc
namespace Go.Proofs.YtdbijkgnddcneaaGreatDoor
open Go.RowKit Go.ChangeMaps
set_option maxRecDepth 100000
set_option maxHeartbeats 4000000
def pickN (c n : Int) : Int := if c < 0 then -((c + 1).tmod n) else c % n
theorem pickN_lt (c n : Int) (hn : 0 < n) : 0 ≤ pickN c n ∧ pickN c n < n := by
 unfold pickN
 split
 ·rw [← Int.neg_tmod]
  exact ⟨Int.tmod_nonneg _ (by omega), Int.tmod_lt_of_pos _ hn⟩
 ·exact ⟨Int.emod_nonneg _ (by omega), Int.emod_lt_of_pos _ hn⟩
theorem pick_any (c n : Int) (h0 : -9223372036854775808 ≤ c) (h1 : c ≤ 9223372036854775807) (hn : 0 < n) (hn2 : n ≤ 100) (w : World) : Calls Tryz.prog 7 #[.int .i64 c, .int .i64 n] w fun r w' => r = .returned (.int .i64 (pickN c n)) ∧ w' = w := by
 have hp := pickN_lt c n hn
 by_cases hc : c < 0
 ·have e : pickN c n = -((c + 1).tmod n) := by unfold pickN; rw [if_pos hc]
  rw [e] at hp ⊢
  clear e
  go_enter Tryz.func7, Tryz.ntmps7
  go_wp2
  go_ret
  exact ⟨rfl, rfl⟩
 ·have e : pickN c n = c % n := by unfold pickN; rw [if_neg hc]
  rw [e] at hp ⊢
  clear e
  go_enter Tryz.func7, Tryz.ntmps7
  go_wp2
  go_ret
  exact ⟨rfl, rfl⟩
def firstLoop : Code → Option Code
 | .loop c => some c
 | .seq a b => match firstLoop a with
  | some c => some c
  | none => firstLoop b
 | .block _ c => firstLoop c
 | .scope c => firstLoop c
 | .cond _ a b => match firstLoop a with
  | some c => some c
  | none => firstLoop b
 | _ => none
noncomputable def body1 : Code := ((Tryz.f3.body.bind firstLoop).getD .skip)
def ints (k : Nat) : List Int := (List.range k).map fun (j : Nat) => (j : Int)
end Go.Proofs.YtdbijkgnddcneaaGreatDoor
namespace Go.Proofs.YtdbijkgnddcneaaGreatDoor
open Go.RowKit Go.ChangeMaps
set_option maxRecDepth 1000000
def GP (s0 s1 s2 s8 s9 s10 s11 s12 s13 s14 s15 s16 s17 s18 s23 s24 s25 s26 s27 s28 s29 s30 s31 s32 s33 s34 s35 s36 : Value) (u : Nat → Value) : Act := ⟨#[s0, s1, s2, u 3, u 4, u 5, .bool false, u 7, s8, s9, s10, s11, s12, s13, s14, s15, s16, s17, s18, u 19, u 20, u 21, u 22, s23, s24, s25, s26, s27, s28, s29, s30, s31, s32, s33, s34, s35, s36, u 37, u 38, u 39, u 40, u 41, u 42, u 43, u 44, u 45, u 46, u 47, u 48, u 49, u 50, u 51, u 52, u 53, u 54, u 55, u 56, u 57, u 58, u 59, u 60, u 61, u 62, u 63, u 64, u 65, u 66, u 67, u 68, u 69, u 70, u 71, u 72, u 73, u 74, u 75, u 76, u 77, u 78, u 79, u 80, u 81, u 82, u 83, u 84, u 85, u 86, u 87, u 88, u 89, u 90, u 91, u 92, u 93, u 94, u 95, u 96, u 97, u 98, u 99, u 100, u 101, u 102, u 103, u 104, u 105, u 106, u 107, u 108, u 109, u 110, u 111, u 112, u 113, u 114, u 115, u 116, u 117, u 118, u 119, u 120, u 121, u 122, u 123, u 124, u 125, u 126, u 127, u 128, u 129, u 130, u 131, u 132, u 133, u 134, u 135, u 136, u 137, u 138, u 139, u 140, u 141, u 142, u 143, u 144, u 145, u 146, u 147, u 148, u 149, u 150, u 151, u 152, u 153, u 154, u 155, u 156, u 157, u 158, u 159, u 160, u 161, u 162, u 163, u 164, u 165, u 166, u 167, u 168, u 169, u 170, u 171, u 172, u 173, u 174, u 175, u 176, u 177, u 178, u 179, u 180, u 181, u 182, u 183, u 184, u 185, u 186, u 187, u 188, u 189, u 190, u 191, u 192, u 193, u 194, u 195, u 196, u 197, u 198, u 199, u 200, u 201, u 202, u 203, u 204, u 205, u 206, u 207, u 208, u 209, u 210, u 211, u 212, u 213, u 214, u 215, u 216, u 217, u 218, u 219, u 220, u 221, u 222, u 223, u 224, u 225, u 226, u 227, u 228, u 229, u 230, u 231, u 232, u 233], []⟩
def secP : Nat → Code → Code
 | 0, c => c
 | k + 1, .seq _ b => secP k b
 | _, c => c
noncomputable def pieceQ (k : Nat) : Code := secP k (Tryz.f4.body.getD .skip)
def base1 (n : Int) : MD := pairE 0 (wholeD n) zeroD
def base2 (m : Int) : MD := pairE 0 (wholeD m) (wholeD m)
structure BoxD (w : World) (n b : Nat) (base d : MD) : Prop where
 box : w.heap[b]? = some (.cells d.cells 32)
 inn : MD.In w.heap.size w n d
 same : MD.same n base d = true
theorem BoxD.below {w w' : World} {n b : Nat} {base d : MD} (h : BoxD w n b base d) (hB : Below w.heap.size w w') : BoxD w' n b base d :=
 ⟨(hB.block _ (hblk h.box)).trans h.box, MD.In.mono hB.size _ _ (MD.In.below hB _ _ h.inn), h.same⟩
theorem BoxD.apart {S : Nat → Prop} {w w' : World} {n b : Nat} {base d : MD} (h : BoxD w n b base d) (hK : Kp S w w') (hb : ¬ S b) (hA : MD.Avoid S n d) : BoxD w' n b base d :=
 ⟨(hK.block _ (hblk h.box) hb).trans h.box, MD.In.mono hK.size _ _ (MD.In.apart (S := S) (fun i h1 h2 => hK.block i h2 h1) _ _ h.inn hA), h.same⟩
theorem BoxD.alike {w w' : World} {n b b' : Nat} {base d d' : MD} (h : BoxD w n b base d) (h' : BoxD w' n b' base d') : MD.same n d d' = true := same_trans _ _ _ _ (same_comm _ _ _ h.same) h'.same
end Go.Proofs.YtdbijkgnddcneaaGreatDoor
namespace Go.Proofs.YtdbijkgnddcneaaGreatDoor
open Go.RowKit Go.ChangeMaps
set_option maxRecDepth 1000000
set_option maxHeartbeats 16000000
theorem same_call (n : Nat) (a b : MD) (w : World) (ha : MD.In w.heap.size w n a) (hb : MD.In w.heap.size w n b) (hs : MD.same n a b = true) : ∀ W, Below w.heap.size w W → Calls Tryz.prog 19 #[a.val, b.val] W fun r w' => r = .returned (.bool true) ∧ Below W.heap.size W w' := fun W hW => by
 have := refSame_any n a b W (MD.In.mono hW.size _ _ (MD.In.below hW _ _ ha)) (MD.In.mono hW.size _ _ (MD.In.below hW _ _ hb))
 rw [hs] at this
 exact this
theorem tail22 (k : Nat) (m n : Int) (bd bn bl bs : Nat) (dd nd ld sd : MD) (u : Nat → Value) (w0 w : World) (hu : Below w0.heap.size w0 w) (hd : BoxD w (5 + k) bd (tow (base1 n) k) dd) (hn : BoxD w 5 bn (base2 m) nd) (hl : BoxD w 5 bl (base2 m) ld) (hs : BoxD w (5 + k) bs (tow (base1 n) k) sd) :
  Code.wp Tryz.prog (pieceQ 22) (bodyPost Tryz.prog Tryz.f4 fun r w' => r = .returned (.bool true) ∧ Below w0.heap.size w0 w') (GP (u 0) (u 1) (.int .i64 m) (u 8) (.pointer (some ⟨bd, 0, none⟩)) (u 10) (u 11) (u 12) (u 13) (u 14) (u 15) (u 16) (u 17) (u 18) (u 23) (u 24) (u 25) (.pointer (some ⟨bn, 0, none⟩)) (u 27) (.pointer (some ⟨bl, 0, none⟩)) (u 29) (.pointer (some ⟨bs, 0, none⟩)) (u 31) (u 32) (.bool true) (.bool true) (u 35) (u 36) u) w := by
 have H1 : Hid _ := same_call 5 ld nd w hl.inn hn.inn (hl.alike hn)
 have H2 : Hid _ := same_call (5 + k) sd dd w hs.inn hd.inn (hs.alike hd)
 have b1 := hl.box
 have b2 := hn.box
 have b3 := hs.box
 have b4 := hd.box
 clear hl hn hs hd
 obtain ⟨⟨k1, t1, n1, f1, s1, x1, y1, z1, u1, pp1, path1, pc1⟩, ip1, ic1, items1⟩ := ld
 obtain ⟨⟨k2, t2, n2, f2, s2, x2, y2, z2, u2, pp2, path2, pc2⟩, ip2, ic2, items2⟩ := nd
 obtain ⟨⟨k3, t3, n3, f3, s3, x3, y3, z3, u3, pp3, path3, pc3⟩, ip3, ic3, items3⟩ := sd
 obtain ⟨⟨k4, t4, n4, f4, s4, x4, y4, z4, u4, pp4, path4, pc4⟩, ip4, ic4, items4⟩ := dd
 simp only [MD.cells] at b1 b2 b3 b4
 have c1 := (cells_of b1).1
 have c2 := (cells_of b2).1
 try unfold GP
 conv => arg 2; whnf
 refine wp_seq_k ?_
 intro K22 hK22
 have HK22 : Hid (∀ (a : Act) (w : World), Code.wp Tryz.prog (pieceQ 23) (bodyPost Tryz.prog Tryz.f4 fun r w' => r = .returned (.bool true) ∧ Below w0.heap.size w0 w') a w → K22 a w) := hK22
 clear hK22
 go_wp2_with fail
 refine (H1.out _ (Below.refl _ _)).mono ?_
 rintro _ V1 ⟨rfl, v1⟩
 have u1 : Below w0.heap.size w0 V1 := hu.trans (v1.mono hu.size)
 have b3' := (v1.block _ (hblk b3)).trans b3
 have b4' := (v1.block _ (hblk b4)).trans b4
 clear hu b1 b2 b3 b4 c1 c2 H1
 go_wp2_with fail
 refine HK22.out _ _ ?_
 clear HK22
 have c3 := (cells_of b3').1
 have c4 := (cells_of b4').1
 try unfold GP
 conv => arg 2; whnf
 refine wp_seq_k ?_
 intro K23 hK23
 have HK23 : Hid (∀ (a : Act) (w : World), Code.wp Tryz.prog (pieceQ 24) (bodyPost Tryz.prog Tryz.f4 fun r w' => r = .returned (.bool true) ∧ Below w0.heap.size w0 w') a w → K23 a w) := hK23
 clear hK23
 go_wp2_with fail
 refine (H2.out _ v1).mono ?_
 rintro _ V2 ⟨rfl, v2⟩
 have u2 : Below w0.heap.size w0 V2 := u1.trans (v2.mono u1.size)
 clear u1 b3' b4' c3 c4 H2 v1 v2
 go_wp2_with fail
 refine HK23.out _ _ ?_
 clear HK23
 try unfold GP
 conv => arg 2; whnf
 go_wp2_with fail
 go_ret
 exact ⟨rfl, u2⟩
theorem tail21 (k : Nat) (m n : Int) (bd bn bl bs : Nat) (dd nd ld sd : MD) (u : Nat → Value) (w0 v : World) (hu : Below w0.heap.size w0 v) (hd : BoxD v (5 + k) bd (tow (base1 n) k) dd) (hn : BoxD v 5 bn (base2 m) nd) (hl : BoxD v 5 bl (base2 m) ld) (hs : BoxD v (5 + k) bs (tow (base1 n) k) sd) (hx : FlatR (wholeD m)) :
  Code.wp Tryz.prog (pieceQ 21) (bodyPost Tryz.prog Tryz.f4 fun r w' => r = .returned (.bool true) ∧ Below w0.heap.size w0 w') (GP (u 0) (u 1) (.int .i64 m) (u 8) (.pointer (some ⟨bd, 0, none⟩)) (u 10) (u 11) (u 12) (u 13) (u 14) (u 15) (u 16) (u 17) (u 18) (u 23) (u 24) (u 25) (.pointer (some ⟨bn, 0, none⟩)) (u 27) (.pointer (some ⟨bl, 0, none⟩)) (u 29) (.pointer (some ⟨bs, 0, none⟩)) (u 31) (u 32) (.bool true) (u 34) (u 35) (u 36) u) v := by
 have HP : Hid (∀ (g : Nat) (W : World), Below v.heap.size v W → W.heap[g]? = some (.cells (rowOf [wholeD m, wholeD m]).toArray 32) → Calls Tryz.prog 19 #[nd.val, (pairE g (wholeD m) (wholeD m)).val] W fun r w' => r = .returned (.bool true) ∧ Below W.heap.size W w') := fun g W hW hg => by
  have h1 : MD.In W.heap.size W 5 (pairE g (wholeD m) (wholeD m)) := pairE_in (hx.inn _ _) (hx.inn _ _) (hblk hg) hg
  have h2 : MD.same 5 (base2 m) (pairE g (wholeD m) (wholeD m)) = true := pairE_same (same_self _ _) (same_self _ _)
  exact same_call 5 nd _ W (hn.below hW).inn h1 (same_trans _ _ _ _ (same_comm _ _ _ hn.same) h2) W (Below.refl _ _)
 have TAIL : ∀ W, Below w0.heap.size w0 W → BoxD W 5 bl (base2 m) ld → BoxD W (5 + k) bs (tow (base1 n) k) sd → BoxD W (5 + k) bd (tow (base1 n) k) dd → BoxD W 5 bn (base2 m) nd → ∀ a : Act, a = (GP (a.tmps.getD 0 undef) (a.tmps.getD 1 undef) (.int .i64 m) (a.tmps.getD 8 undef) (.pointer (some ⟨bd, 0, none⟩)) (a.tmps.getD 10 undef) (a.tmps.getD 11 undef) (a.tmps.getD 12 undef) (a.tmps.getD 13 undef) (a.tmps.getD 14 undef) (a.tmps.getD 15 undef) (a.tmps.getD 16 undef) (a.tmps.getD 17 undef) (a.tmps.getD 18 undef) (a.tmps.getD 23 undef) (a.tmps.getD 24 undef) (a.tmps.getD 25 undef) (.pointer (some ⟨bn, 0, none⟩)) (a.tmps.getD 27 undef) (.pointer (some ⟨bl, 0, none⟩)) (a.tmps.getD 29 undef) (.pointer (some ⟨bs, 0, none⟩)) (a.tmps.getD 31 undef) (a.tmps.getD 32 undef) (.bool true) (.bool true) (a.tmps.getD 35 undef) (a.tmps.getD 36 undef) (fun k => a.tmps.getD k undef)) → Code.wp Tryz.prog (pieceQ 22) (bodyPost Tryz.prog Tryz.f4 fun r w' => r = .returned (.bool true) ∧ Below w0.heap.size w0 w') a W := fun W q1 q2 q3 q4 q5 a ha => by
  rw [ha]
  exact tail22 k m n bd bn bl bs dd nd ld sd (fun k => a.tmps.getD k undef) w0 W q1 q4 q5 q2 q3
 have TL : Hid _ := TAIL
 clear TAIL
 have xb := hn.box
 obtain ⟨nd0, hnd⟩ : ∃ x, x = nd := ⟨_, rfl⟩
 rw [← hnd] at hn TL
 obtain ⟨⟨k3, t3, n3, f3, s3, x3, y3, z3, u3, pp3, path3, pc3⟩, ip3, ic3, items3⟩ := nd
 simp only [MD.cells] at xb
 try unfold GP
 conv => arg 2; whnf
 refine wp_seq_k ?_
 intro K21 hK21
 have HK21 : Hid (∀ (a : Act) (w : World), Code.wp Tryz.prog (pieceQ 22) (bodyPost Tryz.prog Tryz.f4 fun r w' => r = .returned (.bool true) ∧ Below w0.heap.size w0 w') a w → K21 a w) := hK21
 clear hK21
 go_wp2_with fail
 refine rg (S := fun W => (∀ j, W.cell? ⟨bn, j, none⟩ = (#[.int .i64 k3, .string t3, .int .i64 n3, .int .u64 f3, .string s3, .int .i64 x3, .int .i64 y3, .int .i64 z3, .int .i64 u3, .slice pp3 path3.length pc3, .slice ip3 items3.length ic3] : Array Value)[j]?)) (fun Y0 hB4 HY0 => ?_)
 have hS := (cells_of ((hB4.block _ (hblk xb)).trans xb)).1
 have xY0 := (hB4.block _ (hblk xb)).trans xb
 have vY0 : Below v.heap.size v Y0 := hB4
 clear HY0 hB4
 refine tk 0 (.agg #[.int .i64 k3, .string t3, .int .i64 n3, .int .u64 f3, .string s3, .int .i64 x3, .int .i64 y3, .int .i64 z3, .int .i64 u3, .slice pp3 path3.length pc3, .slice ip3 items3.length ic3]) rfl (.inl ⟨by rfl, ?r⟩) hS ?_
 case r => intro W hW; simp [go_sem, execOp, Act.eval, hW]
 simp only [sa, sb, Act.put, Go.Proofs.YtdbijkgnddcneaaGreatDoor.sd, se, sf]
 refine tq 1 (.int .i64 m) rfl hS ?_
 simp only [sa, sb, sc, Act.put, Go.Proofs.YtdbijkgnddcneaaGreatDoor.sd, se, sf]
 refine tq 3 (.int .i64 m) rfl hS ?_
 simp only [sa, sb, sc, Act.put, Go.Proofs.YtdbijkgnddcneaaGreatDoor.sd, se, sf]
 refine one 2 rfl (fun K hK => ?_)
 simp only [sa, sb, sc]
 go_simp
 refine (whole_any m Y0).mono ?_
 rintro _ Y1 ⟨rfl, cY1⟩
 have xY1 := (cY1.block _ (hblk xY0)).trans xY0
 have vY1 : Below v.heap.size v Y1 := vY0.trans (cY1.mono vY0.size)
 clear cY1 xY0 vY0
 go_simp
 have hSY1 := (cells_of xY1).1
 refine hK _ _ ⟨hSY1, ?_⟩
 clear hK K hS
 have hS := hSY1
 clear hSY1
 try simp only [Act.put, sd, se, sf]
 refine one 4 rfl (fun K hK => ?_)
 simp only [sa, sb, sc]
 go_simp
 refine (whole_any m Y1).mono ?_
 rintro _ Y2 ⟨rfl, cY2⟩
 have xY2 := (cY2.block _ (hblk xY1)).trans xY1
 have vY2 : Below v.heap.size v Y2 := vY1.trans (cY2.mono vY1.size)
 clear cY2 xY1 vY1
 go_simp
 have hSY2 := (cells_of xY2).1
 refine hK _ _ ⟨hSY2, ?_⟩
 clear hK K hS
 have hS := hSY2
 clear hSY2
 try simp only [Act.put, sd, se, sf]
 refine one 5 rfl (fun K hK => ?_)
 simp only [sa, sb, sc]
 go_simp
 refine (pair_any2 (wholeD m) (wholeD m) Y2).mono ?_
 rintro _ Y3 ⟨g, rfl, cY3, hgY3, _⟩
 have xY3 := (cY3.block _ (hblk xY2)).trans xY2
 have vY3 : Below v.heap.size v Y3 := vY2.trans (cY3.mono vY2.size)
 clear cY3 xY2 vY2
 go_simp
 have hSY3 := (cells_of xY3).1
 refine hK _ _ ⟨hSY3, ?_⟩
 clear hK K hS
 have hS := hSY3
 clear hSY3
 try simp only [Act.put, sd, se, sf]
 refine one 6 rfl (fun K hK => ?_)
 simp only [sa, sb, sc]
 go_simp
 refine (HP.out g Y3 vY3 hgY3).mono ?_
 rintro _ Y4 ⟨rfl, cY4⟩
 have xY4 := (cY4.block _ (hblk xY3)).trans xY3
 have vY4 : Below v.heap.size v Y4 := vY3.trans (cY4.mono vY3.size)
 clear cY4 xY3 vY3 hgY3
 go_simp
 have hSY4 := (cells_of xY4).1
 refine hK _ _ ⟨hSY4, ?_⟩
 clear hK K hS
 have hS := hSY4
 clear hSY4
 try simp only [Act.put, sd, se, sf]
 refine tq 7 (.bool true) rfl hS ?_
 simp only [sa, sb, sc, Act.put, Go.Proofs.YtdbijkgnddcneaaGreatDoor.sd, se, sf]
 refine dn ?_
 try simp only [Act.put]
 clear hS xY4 HP
 have u3 : Below w0.heap.size w0 Y4 := hu.trans (vY4.mono hu.size)
 have hl := hl.below vY4
 have hs := hs.below vY4
 have hd := hd.below vY4
 have hn := hn.below vY4
 clear hu vY4
 go_wp2_with fail
 refine HK21.out _ _ ?_
 clear HK21
 exact TL.out Y4 u3 hl hs hd hn _ rfl
theorem tail20 (k : Nat) (m n : Int) (bd bo bn bl bs : Nat) (dd od nd ld sd : MD) (u : Nat → Value) (w0 v : World) (hu : Below w0.heap.size w0 v) (hd : BoxD v (5 + k) bd (tow (base1 n) k) dd) (ho : BoxD v (5 + k) bo (tow (base1 n) k) od) (hn : BoxD v 5 bn (base2 m) nd) (hl : BoxD v 5 bl (base2 m) ld) (hs : BoxD v (5 + k) bs (tow (base1 n) k) sd) (hx : FlatR (wholeD m)) :
  Code.wp Tryz.prog (pieceQ 20) (bodyPost Tryz.prog Tryz.f4 fun r w' => r = .returned (.bool true) ∧ Below w0.heap.size w0 w') (GP (u 0) (u 1) (.int .i64 m) (u 8) (.pointer (some ⟨bd, 0, none⟩)) (u 10) (u 11) (u 12) (u 13) (u 14) (u 15) (u 16) (u 17) (u 18) (.pointer (some ⟨bo, 0, none⟩)) (u 24) (u 25) (.pointer (some ⟨bn, 0, none⟩)) (u 27) (.pointer (some ⟨bl, 0, none⟩)) (u 29) (.pointer (some ⟨bs, 0, none⟩)) (u 31) (u 32) (u 33) (u 34) (u 35) (u 36) u) v := by
 have H1 : Hid _ := same_call (5 + k) od dd v ho.inn hd.inn (ho.alike hd)
 have TAIL : ∀ W, Below w0.heap.size w0 W → Below v.heap.size v W → ∀ a : Act, a = (GP (a.tmps.getD 0 undef) (a.tmps.getD 1 undef) (.int .i64 m) (a.tmps.getD 8 undef) (.pointer (some ⟨bd, 0, none⟩)) (a.tmps.getD 10 undef) (a.tmps.getD 11 undef) (a.tmps.getD 12 undef) (a.tmps.getD 13 undef) (a.tmps.getD 14 undef) (a.tmps.getD 15 undef) (a.tmps.getD 16 undef) (a.tmps.getD 17 undef) (a.tmps.getD 18 undef) (a.tmps.getD 23 undef) (a.tmps.getD 24 undef) (a.tmps.getD 25 undef) (.pointer (some ⟨bn, 0, none⟩)) (a.tmps.getD 27 undef) (.pointer (some ⟨bl, 0, none⟩)) (a.tmps.getD 29 undef) (.pointer (some ⟨bs, 0, none⟩)) (a.tmps.getD 31 undef) (a.tmps.getD 32 undef) (.bool true) (a.tmps.getD 34 undef) (a.tmps.getD 35 undef) (a.tmps.getD 36 undef) (fun k => a.tmps.getD k undef)) → Code.wp Tryz.prog (pieceQ 21) (bodyPost Tryz.prog Tryz.f4 fun r w' => r = .returned (.bool true) ∧ Below w0.heap.size w0 w') a W := fun W q1 q a ha => by
  rw [ha]
  exact tail21 k m n bd bn bl bs dd nd ld sd (fun k => a.tmps.getD k undef) w0 W q1 (hd.below q) (hn.below q) (hl.below q) (hs.below q) hx
 have TL : Hid _ := TAIL
 clear TAIL
 have b1 := ho.box
 have b2 := hd.box
 clear hl hn hs hd ho
 obtain ⟨⟨k1, t1, n1, f1, s1, x1, y1, z1, u1, pp1, path1, pc1⟩, ip1, ic1, items1⟩ := od
 obtain ⟨⟨k2, t2, n2, f2, s2, x2, y2, z2, u2, pp2, path2, pc2⟩, ip2, ic2, items2⟩ := dd
 simp only [MD.cells] at b1 b2
 have c1 := (cells_of b1).1
 have c2 := (cells_of b2).1
 try unfold GP
 conv => arg 2; whnf
 refine wp_seq_k ?_
 intro K20 hK20
 have HK20 : Hid (∀ (a : Act) (w : World), Code.wp Tryz.prog (pieceQ 21) (bodyPost Tryz.prog Tryz.f4 fun r w' => r = .returned (.bool true) ∧ Below w0.heap.size w0 w') a w → K20 a w) := hK20
 clear hK20
 go_wp2_with fail
 refine (H1.out _ (Below.refl _ _)).mono ?_
 rintro _ V1 ⟨rfl, v1⟩
 have u1 : Below w0.heap.size w0 V1 := hu.trans (v1.mono hu.size)
 clear hu b1 b2 c1 c2 H1
 go_wp2_with fail
 refine HK20.out _ _ ?_
 clear HK20
 exact TL.out V1 u1 v1 _ rfl
end Go.Proofs.YtdbijkgnddcneaaGreatDoor
namespace Go.Proofs.YtdbijkgnddcneaaGreatDoor
open Go.RowKit Go.ChangeMaps
set_option maxRecDepth 1000000
set_option maxHeartbeats 16000000
attribute [local go_sem] refold2 cell3_0 cell3_1 b28_0 b28_01
noncomputable def bodyP1 : Code := (((pieceQ 6) |> firstLoop).getD .skip)
def L1Rp (k : Nat) (n : Int) (bd L : Nat) (w : World) (i : Value) (wr : World) : Prop := ∃ (c : Nat) (x : MD), i = .int .i64 (c : Int) ∧ c ≤ k ∧ BoxD wr (5 + c) bd (tow (base1 n) c) x ∧ MD.Above L (5 + c) x ∧ MD.Avoid (· = bd) (5 + c) x ∧ Kp (· = bd) w wr
def L1P (k : Nat) (m : Int) (hb bd : Nat) (n : Int) (L : Nat) (w : World) (a : Act) (wr : World) : Prop := ∃ (u : Nat → Value) (i : Value), L1Rp k n bd L w i wr ∧ a = (GP (u 0) (u 1) (.int .i64 m) (.pointer (some ⟨hb, 0, none⟩)) (.pointer (some ⟨bd, 0, none⟩)) (.int .i64 (k : Int)) i (u 12) (u 13) (u 14) (u 15) (u 16) (u 17) (u 18) (u 23) (u 24) (u 25) (u 26) (u 27) (u 28) (u 29) (u 30) (u 31) (u 32) (u 33) (u 34) (u 35) (u 36) u)
theorem l1p_close (k : Nat) (m : Int) (hb bd : Nat) (n : Int) (L : Nat) (w : World) (a : Act) (wr : World) (h : L1Rp k n bd L w (a.tmps.getD 11 undef) wr) (ha : a = (GP (a.tmps.getD 0 undef) (a.tmps.getD 1 undef) (.int .i64 m) (.pointer (some ⟨hb, 0, none⟩)) (.pointer (some ⟨bd, 0, none⟩)) (.int .i64 (k : Int)) (a.tmps.getD 11 undef) (a.tmps.getD 12 undef) (a.tmps.getD 13 undef) (a.tmps.getD 14 undef) (a.tmps.getD 15 undef) (a.tmps.getD 16 undef) (a.tmps.getD 17 undef) (a.tmps.getD 18 undef) (a.tmps.getD 23 undef) (a.tmps.getD 24 undef) (a.tmps.getD 25 undef) (a.tmps.getD 26 undef) (a.tmps.getD 27 undef) (a.tmps.getD 28 undef) (a.tmps.getD 29 undef) (a.tmps.getD 30 undef) (a.tmps.getD 31 undef) (a.tmps.getD 32 undef) (a.tmps.getD 33 undef) (a.tmps.getD 34 undef) (a.tmps.getD 35 undef) (a.tmps.getD 36 undef) (fun k => a.tmps.getD k undef))) : L1P k m hb bd n L w a wr := ⟨fun k => a.tmps.getD k undef, _, h, ha⟩
def L1Q (k : Nat) (m : Int) (hb bd : Nat) (n : Int) (L : Nat) (w : World) (a : Act) (wr : World) : Prop := ∃ x : MD, BoxD wr (5 + k) bd (tow (base1 n) k) x ∧ MD.Above L (5 + k) x ∧ Kp (· = bd) w wr ∧ a = (GP (a.tmps.getD 0 undef) (a.tmps.getD 1 undef) (.int .i64 m) (.pointer (some ⟨hb, 0, none⟩)) (.pointer (some ⟨bd, 0, none⟩)) (.int .i64 (k : Int)) (a.tmps.getD 11 undef) (a.tmps.getD 12 undef) (a.tmps.getD 13 undef) (a.tmps.getD 14 undef) (a.tmps.getD 15 undef) (a.tmps.getD 16 undef) (a.tmps.getD 17 undef) (a.tmps.getD 18 undef) (a.tmps.getD 23 undef) (a.tmps.getD 24 undef) (a.tmps.getD 25 undef) (a.tmps.getD 26 undef) (a.tmps.getD 27 undef) (a.tmps.getD 28 undef) (a.tmps.getD 29 undef) (a.tmps.getD 30 undef) (a.tmps.getD 31 undef) (a.tmps.getD 32 undef) (a.tmps.getD 33 undef) (a.tmps.getD 34 undef) (a.tmps.getD 35 undef) (a.tmps.getD 36 undef) (fun k => a.tmps.getD k undef))
def L1mp (k : Nat) (a : Act) (_ : World) : Nat := k - (intOf (a.tmps.getD 11 undef)).toNat
theorem loopP1 (k : Nat) (m : Int) (hb bd : Nat) (n : Int) (L : Nat) (hk6 : k ≤ 6) (w : World) (hL : L ≤ w.heap.size) (K : Act → World → Prop) (QQ : Exit → Act → World → Prop)
  (hK : ∀ (a : Act) (wr : World), L1Q k m hb bd n L w a wr → K a wr) (a1 : Act) (hI : L1P k m hb bd n L w a1 w) :
  Code.wp Tryz.prog (Code.loop bodyP1) (Exit.inBlock 0 (Exit.then K QQ)) a1 w := by
 have HK : Hid _ := hK
 clear hK
 refine wp_loop (L1P k m hb bd n L w) (L1mp k) hI (fun a0 wr hGI => ?_)
 clear hI
 obtain ⟨u, i, ⟨c, x, rfl, hc, hB, hA, hV, hKp⟩, rfl⟩ := hGI
 have hws := hKp.size
 by_cases hlt : c < k
 ·have i1 : (c : Int) < k := by omega
  unfold GP
  conv => arg 2; whnf
  go_wp2_with fail
  clear i1
  have hbx := hB.box
  have vwr : Below wr.heap.size wr wr := Below.refl _ _
  refine rg (S := fun W => True) (fun Y0 hB4 HY0 => ?_)
  have hS : True := True.intro
  have xY0 := (hB4.block _ (hblk hbx)).trans hbx
  have vY0 : Below wr.heap.size wr Y0 := hB4
  clear HY0 hB4
  refine tq 0 (.int .i64 (c : Int)) rfl hS ?_
  simp only [sa, sb, Act.put, sd, se, sf]
  refine wpAnyH_all (rs := [1, 2]) (by kernel_rfl) (by simp) (fun i2 hi2 => ?_)
  have hi3 : i2 = 1 ∨ i2 = 2 := by simpa using hi2
  clear hi2
  rcases hi3 with rfl | rfl
  ·refine wpOp_step rfl (fun K hK => ite_yes rfl ?_)
   simp only [sa, sb, sc]
   go_simp
   refine (whole_any (c : Int) Y0).mono ?_
   rintro _ Y1 ⟨rfl, cY1⟩
   have xY1 := (cY1.block _ (hblk xY0)).trans xY0
   have vY1 : Below wr.heap.size wr Y1 := vY0.trans (cY1.mono vY0.size)
   clear cY1 xY0 vY0
   go_simp
   refine hK _ _ ⟨True.intro, ?_⟩
   clear hK K
   try simp only [Act.put, sd, se, sf]
   refine one 2 rfl (fun K hK => ?_)
   simp only [sa, sb, sc]
   refine wp_load_mid 32 _ rfl bd 0 rfl x.cells.toList _ (rangeAt_cells.1 (fun j hj => by rw [Nat.zero_add]; exact (cells_of xY1).1 j)) Tryz.underlying32 rfl info32 ?_
   have hv : Value.agg x.cells.toList.toArray = x.val := by rw [Array.toArray_toList]; rfl
   rw [hv]
   clear hv
   refine hK _ _ ⟨True.intro, ?_⟩
   clear hK K
   try simp only [Act.put, sd, se, sf]
   refine one 3 rfl (fun K hK => ?_)
   simp only [sa, sb, sc]
   go_simp
   refine (pair_any2 (wholeD (c : Int)) x Y1).mono ?_
   rintro _ Y3 ⟨g, rfl, cY3, hg, hgl⟩
   have xY3 := (cY3.block _ (hblk xY1)).trans xY1
   have zz := vY1.size
   have vY3 : Below wr.heap.size wr Y3 := vY1.trans (cY3.mono vY1.size)
   clear cY3 xY1 vY1
   go_simp
   refine hK _ _ ⟨True.intro, ?_⟩
   clear hK K
   try simp only [Act.put, sd, se, sf]
   refine one 4 rfl (fun K hK => ?_)
   simp only [sa, sb, sc]
   refine wp_store_mid 32 _ _ rfl bd 0 (pairE g (wholeD (c : Int)) x).cells rfl rfl (there_at xY3 (Nat.le_refl 11)) info32 (by simp [MD.cells, Value.oneCell']) ?_
   have hput : (Y3.setCells bd 0 (pairE g (wholeD (c : Int)) x).cells.toList).heap[bd]? = some (.cells (pairE g (wholeD (c : Int)) x).cells 32) := by
    have h1 := putL_heap (pairE g (wholeD (c : Int)) x).cells.toList 0 Y3 _ xY3
    rw [putL_all (show (pairE g (wholeD (c : Int)) x).cells.toList.length = x.cells.size from rfl), Array.toArray_toList] at h1
    exact h1
   have k9 : Kp (· = bd) Y3 (Y3.setCells bd 0 (pairE g (wholeD (c : Int)) x).cells.toList) := kp_setCells _ _ _
   obtain ⟨U9, hU9⟩ : ∃ W, W = Y3.setCells bd 0 (pairE g (wholeD (c : Int)) x).cells.toList := ⟨_, rfl⟩
   rw [← hU9] at hput k9 ⊢
   clear hU9
   refine hK _ _ ⟨True.intro, ?_⟩
   clear hK K
   try simp only [Act.put]
   refine dn ?_
   try simp only [Act.put]
   have gl := hblk hg
   have bl := hblk hbx
   have gne : g ≠ bd := by omega
   have hg9 := (k9.block _ gl gne).trans hg
   have HF := FlatR.whole (c : Int) (by omega) (by omega)
   have hI9 : MD.In U9.heap.size U9 (5 + c) x := MD.In.mono k9.size _ _ (MD.In.apart (S := (· = bd)) (fun i h1 h2 => k9.block i h2 h1) _ _ (hB.below vY3).inn hV)
   have HR : Hid (L1Rp k n bd L w (.int .i64 ((c : Int) + 1)) U9) := by
    refine ⟨c + 1, pairE g (wholeD (c : Int)) x, by simp, hlt, ⟨hput, pairE_in (flat_in1 HF c _ _) hI9 (hblk hg9) hg9, pairE_same (same_self _ _) hB.same⟩, ⟨(fun b o e => by cases e), (fun b o e => by cases e; omega), fun y hy => ?_⟩, ⟨.inl rfl, .inr (fun b o e => by cases e; exact gne), fun y hy => ?_⟩, hKp.trans ((Kp.of vY3).trans k9 fun _ _ e => e) fun _ _ e => e⟩
    ·have hy2 : y = wholeD (c : Int) ∨ y = x := by simpa [pairE] using hy
     rcases hy2 with rfl | rfl
     ·obtain ⟨q, hq⟩ : ∃ q, 5 + c = q + 1 := ⟨4 + c, by omega⟩
      show MD.Above L (5 + c) _
      rw [hq]
      exact ⟨(fun b o e => by cases e), (fun b o e => by cases e), fun z hz => by cases hz⟩
     ·exact hA
    ·have hy2 : y = wholeD (c : Int) ∨ y = x := by simpa [pairE] using hy
     rcases hy2 with rfl | rfl
     ·obtain ⟨q, hq⟩ : ∃ q, 5 + c = q + 1 := ⟨4 + c, by omega⟩
      show MD.Avoid (· = bd) (5 + c) _
      rw [hq]
      exact ⟨.inl rfl, .inl rfl, fun z hz => by cases hz⟩
     ·exact hV
   clear hput k9 hI9 hg9 hg hB hA hV hKp xY3 vY3 hbx HF
   go_wp2_with fail
   exact ⟨l1p_close _ _ _ _ _ _ _ _ _ HR.out rfl, by simp [L1mp, intOf]; omega⟩
  ·refine wpOp_step rfl (fun K hK => ite_yes rfl ?_)
   simp only [sa, sb, sc]
   refine wp_load_mid 32 _ rfl bd 0 rfl x.cells.toList _ (rangeAt_cells.1 (fun j hj => by rw [Nat.zero_add]; exact (cells_of xY0).1 j)) Tryz.underlying32 rfl info32 ?_
   have hv : Value.agg x.cells.toList.toArray = x.val := by rw [Array.toArray_toList]; rfl
   rw [hv]
   clear hv
   refine hK _ _ ⟨True.intro, ?_⟩
   clear hK K
   try simp only [Act.put, sd, se, sf]
   refine one 1 rfl (fun K hK => ?_)
   simp only [sa, sb, sc]
   go_simp
   refine (whole_any (c : Int) Y0).mono ?_
   rintro _ Y2 ⟨rfl, cY2⟩
   have xY2 := (cY2.block _ (hblk xY0)).trans xY0
   have vY2 : Below wr.heap.size wr Y2 := vY0.trans (cY2.mono vY0.size)
   clear cY2 xY0 vY0
   go_simp
   refine hK _ _ ⟨True.intro, ?_⟩
   clear hK K
   try simp only [Act.put, sd, se, sf]
   refine one 3 rfl (fun K hK => ?_)
   simp only [sa, sb, sc]
   go_simp
   refine (pair_any2 (wholeD (c : Int)) x Y2).mono ?_
   rintro _ Y3 ⟨g, rfl, cY3, hg, hgl⟩
   have xY3 := (cY3.block _ (hblk xY2)).trans xY2
   have zz := vY2.size
   have vY3 : Below wr.heap.size wr Y3 := vY2.trans (cY3.mono vY2.size)
   clear cY3 xY2 vY2
   go_simp
   refine hK _ _ ⟨True.intro, ?_⟩
   clear hK K
   try simp only [Act.put, sd, se, sf]
   refine one 4 rfl (fun K hK => ?_)
   simp only [sa, sb, sc]
   refine wp_store_mid 32 _ _ rfl bd 0 (pairE g (wholeD (c : Int)) x).cells rfl rfl (there_at xY3 (Nat.le_refl 11)) info32 (by simp [MD.cells, Value.oneCell']) ?_
   have hput : (Y3.setCells bd 0 (pairE g (wholeD (c : Int)) x).cells.toList).heap[bd]? = some (.cells (pairE g (wholeD (c : Int)) x).cells 32) := by
    have h1 := putL_heap (pairE g (wholeD (c : Int)) x).cells.toList 0 Y3 _ xY3
    rw [putL_all (show (pairE g (wholeD (c : Int)) x).cells.toList.length = x.cells.size from rfl), Array.toArray_toList] at h1
    exact h1
   have k9 : Kp (· = bd) Y3 (Y3.setCells bd 0 (pairE g (wholeD (c : Int)) x).cells.toList) := kp_setCells _ _ _
   obtain ⟨U9, hU9⟩ : ∃ W, W = Y3.setCells bd 0 (pairE g (wholeD (c : Int)) x).cells.toList := ⟨_, rfl⟩
   rw [← hU9] at hput k9 ⊢
   clear hU9
   refine hK _ _ ⟨True.intro, ?_⟩
   clear hK K
   try simp only [Act.put]
   refine dn ?_
   try simp only [Act.put]
   have gl := hblk hg
   have bl := hblk hbx
   have gne : g ≠ bd := by omega
   have hg9 := (k9.block _ gl gne).trans hg
   have HF := FlatR.whole (c : Int) (by omega) (by omega)
   have hI9 : MD.In U9.heap.size U9 (5 + c) x := MD.In.mono k9.size _ _ (MD.In.apart (S := (· = bd)) (fun i h1 h2 => k9.block i h2 h1) _ _ (hB.below vY3).inn hV)
   have HR : Hid (L1Rp k n bd L w (.int .i64 ((c : Int) + 1)) U9) := by
    refine ⟨c + 1, pairE g (wholeD (c : Int)) x, by simp, hlt, ⟨hput, pairE_in (flat_in1 HF c _ _) hI9 (hblk hg9) hg9, pairE_same (same_self _ _) hB.same⟩, ⟨(fun b o e => by cases e), (fun b o e => by cases e; omega), fun y hy => ?_⟩, ⟨.inl rfl, .inr (fun b o e => by cases e; exact gne), fun y hy => ?_⟩, hKp.trans ((Kp.of vY3).trans k9 fun _ _ e => e) fun _ _ e => e⟩
    ·have hy2 : y = wholeD (c : Int) ∨ y = x := by simpa [pairE] using hy
     rcases hy2 with rfl | rfl
     ·obtain ⟨q, hq⟩ : ∃ q, 5 + c = q + 1 := ⟨4 + c, by omega⟩
      show MD.Above L (5 + c) _
      rw [hq]
      exact ⟨(fun b o e => by cases e), (fun b o e => by cases e), fun z hz => by cases hz⟩
     ·exact hA
    ·have hy2 : y = wholeD (c : Int) ∨ y = x := by simpa [pairE] using hy
     rcases hy2 with rfl | rfl
     ·obtain ⟨q, hq⟩ : ∃ q, 5 + c = q + 1 := ⟨4 + c, by omega⟩
      show MD.Avoid (· = bd) (5 + c) _
      rw [hq]
      exact ⟨.inl rfl, .inl rfl, fun z hz => by cases hz⟩
     ·exact hV
   clear hput k9 hI9 hg9 hg hB hA hV hKp xY3 vY3 hbx HF
   go_wp2_with fail
   exact ⟨l1p_close _ _ _ _ _ _ _ _ _ HR.out rfl, by simp [L1mp, intOf]; omega⟩
 ·have hck : c = k := by omega
  subst hck
  have i1 : ¬ (c : Int) < c := by omega
  unfold GP
  conv => arg 2; whnf
  have HQ : Hid (BoxD wr (5 + c) bd (tow (base1 n) c) x ∧ MD.Above L (5 + c) x ∧ Kp (· = bd) w wr) := ⟨hB, hA, hKp⟩
  clear hB hA hV hKp
  go_wp2_with fail
  refine HK.out _ _ ?_
  exact ⟨x, HQ.out.1, HQ.out.2.1, HQ.out.2.2, rfl⟩
end Go.Proofs.YtdbijkgnddcneaaGreatDoor
namespace Go.Proofs.YtdbijkgnddcneaaGreatDoor
open Go.RowKit Go.ChangeMaps
set_option maxRecDepth 1000000
set_option maxHeartbeats 16000000
noncomputable def bodyP3 : Code := (((pieceQ 19) |> firstLoop).getD .skip)
def L3R (k : Nat) (m : Int) (bl : Nat) (w : World) (i : Value) (wr : World) : Prop := ∃ (c : Nat) (x : MD), i = .int .i64 (c : Int) ∧ c ≤ k ∧ wr.heap[bl]? = some (.cells x.cells 32) ∧ MD.In bl wr (5 + (k - c)) x ∧ MD.same (5 + (k - c)) (tow (base2 m) (k - c)) x = true ∧ Kp (· = bl) w wr
def L3P (k : Nat) (m : Int) (bd bo bn bl bs : Nat) (w : World) (a : Act) (wr : World) : Prop := ∃ (u : Nat → Value) (i : Value), L3R k m bl w i wr ∧ a = (GP (u 0) (u 1) (.int .i64 m) (u 8) (.pointer (some ⟨bd, 0, none⟩)) (.int .i64 (k : Int)) (u 11) (u 12) (u 13) (u 14) (u 15) (u 16) (u 17) (u 18) (.pointer (some ⟨bo, 0, none⟩)) (u 24) (u 25) (.pointer (some ⟨bn, 0, none⟩)) (u 27) (.pointer (some ⟨bl, 0, none⟩)) (u 29) (.pointer (some ⟨bs, 0, none⟩)) (u 31) i (u 33) (u 34) (u 35) (u 36) u)
theorem l3p_close (k : Nat) (m : Int) (bd bo bn bl bs : Nat) (w : World) (a : Act) (wr : World) (h : L3R k m bl w (a.tmps.getD 32 undef) wr) (ha : a = (GP (a.tmps.getD 0 undef) (a.tmps.getD 1 undef) (.int .i64 m) (a.tmps.getD 8 undef) (.pointer (some ⟨bd, 0, none⟩)) (.int .i64 (k : Int)) (a.tmps.getD 11 undef) (a.tmps.getD 12 undef) (a.tmps.getD 13 undef) (a.tmps.getD 14 undef) (a.tmps.getD 15 undef) (a.tmps.getD 16 undef) (a.tmps.getD 17 undef) (a.tmps.getD 18 undef) (.pointer (some ⟨bo, 0, none⟩)) (a.tmps.getD 24 undef) (a.tmps.getD 25 undef) (.pointer (some ⟨bn, 0, none⟩)) (a.tmps.getD 27 undef) (.pointer (some ⟨bl, 0, none⟩)) (a.tmps.getD 29 undef) (.pointer (some ⟨bs, 0, none⟩)) (a.tmps.getD 31 undef) (a.tmps.getD 32 undef) (a.tmps.getD 33 undef) (a.tmps.getD 34 undef) (a.tmps.getD 35 undef) (a.tmps.getD 36 undef) (fun k => a.tmps.getD k undef))) : L3P k m bd bo bn bl bs w a wr := ⟨fun k => a.tmps.getD k undef, _, h, ha⟩
def L3Q (k : Nat) (m : Int) (bd bo bn bl bs : Nat) (w : World) (a : Act) (wr : World) : Prop := ∃ (u : Nat → Value) (x : MD), BoxD wr 5 bl (base2 m) x ∧ Kp (· = bl) w wr ∧ a = (GP (u 0) (u 1) (.int .i64 m) (u 8) (.pointer (some ⟨bd, 0, none⟩)) (.int .i64 (k : Int)) (u 11) (u 12) (u 13) (u 14) (u 15) (u 16) (u 17) (u 18) (.pointer (some ⟨bo, 0, none⟩)) (u 24) (u 25) (.pointer (some ⟨bn, 0, none⟩)) (u 27) (.pointer (some ⟨bl, 0, none⟩)) (u 29) (.pointer (some ⟨bs, 0, none⟩)) (u 31) (.int .i64 (k : Int)) (u 33) (u 34) (u 35) (u 36) u)
theorem l3q_close (k : Nat) (m : Int) (bd bo bn bl bs : Nat) (w : World) (a : Act) (wr : World) (x : MD) (h : BoxD wr 5 bl (base2 m) x) (hk : Kp (· = bl) w wr) (ha : a = (GP (a.tmps.getD 0 undef) (a.tmps.getD 1 undef) (.int .i64 m) (a.tmps.getD 8 undef) (.pointer (some ⟨bd, 0, none⟩)) (.int .i64 (k : Int)) (a.tmps.getD 11 undef) (a.tmps.getD 12 undef) (a.tmps.getD 13 undef) (a.tmps.getD 14 undef) (a.tmps.getD 15 undef) (a.tmps.getD 16 undef) (a.tmps.getD 17 undef) (a.tmps.getD 18 undef) (.pointer (some ⟨bo, 0, none⟩)) (a.tmps.getD 24 undef) (a.tmps.getD 25 undef) (.pointer (some ⟨bn, 0, none⟩)) (a.tmps.getD 27 undef) (.pointer (some ⟨bl, 0, none⟩)) (a.tmps.getD 29 undef) (.pointer (some ⟨bs, 0, none⟩)) (a.tmps.getD 31 undef) (.int .i64 (k : Int)) (a.tmps.getD 33 undef) (a.tmps.getD 34 undef) (a.tmps.getD 35 undef) (a.tmps.getD 36 undef) (fun k => a.tmps.getD k undef))) : L3Q k m bd bo bn bl bs w a wr := ⟨fun k => a.tmps.getD k undef, x, h, hk, ha⟩
def L3m (k : Nat) (a : Act) (_ : World) : Nat := k - (intOf (a.tmps.getD 32 undef)).toNat
theorem loopP3 (k : Nat) (m : Int) (bd bo bn bl bs : Nat) (hk6 : k ≤ 6) (w : World) (K : Act → World → Prop) (QQ : Exit → Act → World → Prop)
  (hK : ∀ (a : Act) (wr : World), L3Q k m bd bo bn bl bs w a wr → K a wr) (a1 : Act) (hI : L3P k m bd bo bn bl bs w a1 w) :
  Code.wp Tryz.prog (Code.loop bodyP3) (Exit.inBlock 4 (Exit.then K QQ)) a1 w := by
 have HK : Hid _ := hK
 clear hK
 refine wp_loop (L3P k m bd bo bn bl bs w) (L3m k) hI (fun a0 wr hGI => ?_)
 clear hI
 obtain ⟨u, i, ⟨c, x, rfl, hc, hb, hin, hs, hKp⟩, rfl⟩ := hGI
 obtain ⟨bc, bf⟩ := cells_of hb
 by_cases hlt : c < k
 ·obtain ⟨r, hr⟩ : ∃ r, k - c = r + 1 := ⟨k - c - 1, by omega⟩
  rw [hr] at hin hs
  obtain ⟨xa, xb, hit, hsa, hsb, _, _⟩ := tow_parts hs
  obtain ⟨_, han, _, _⟩ := same_flat (n := 4 + r) (show MD.same (4 + r + 1) (wholeD (r : Int)) xa = true by rw [show 4 + r + 1 = 5 + r by omega]; exact hsa)
  obtain ⟨_, _, hl3, _, h5⟩ := (show MD.In bl wr (5 + r + 1) x from hin)
  rcases h5 with h5 | ⟨gi, oi, e1, e2, e3⟩
  ·rw [hit] at h5; cases h5
  have hCa : wr.cell? ⟨gi, oi + 2, none⟩ = some (.int .i64 (r : Int)) := by
   have h0 := (e3 0 (by rw [hit]; simp)).1 2 (by omega)
   simp only [hit, List.getElem_cons_zero, Nat.zero_mul, Nat.add_zero] at h0
   rw [h0, ← han]
   rfl
  have hCb : MD.CellsAt wr gi (oi + 1 * 11) xb ∧ MD.In bl wr (5 + r) xb := by
   have h0 := e3 1 (by rw [hit]; simp)
   simpa only [hit, List.getElem_cons_succ, List.getElem_cons_zero] using h0
  clear e3 hs hin hsa
  obtain ⟨⟨k3, t3, n3, f3, s3, x3, y3, z3, u3, pp3, path3, pc3⟩, ip3, ic3, items3⟩ := x
  obtain rfl : items3 = [xa, xb] := hit
  obtain rfl : ip3 = some ⟨gi, oi, none⟩ := e1
  have H : Hid (MD.In bl wr (5 + r) xb ∧ MD.same (5 + r) (tow (base2 m) r) xb = true) := ⟨hCb.2, hsb⟩
  have hC := hCb.1
  clear hCb hsb
  obtain ⟨e4, he4⟩ : ∃ e4, e4 = xb := ⟨_, rfl⟩
  rw [← he4] at H
  have hec : e4.cells = xb.cells := by rw [he4]
  obtain ⟨⟨k4, t4, n4, f4, s4, x4, y4, z4, u4, pp4, path4, pc4⟩, ip4, ic4, items4⟩ := xb
  simp only [MD.cells] at hb bc hec
  have c0 : wr.cell? ⟨gi, oi + 1 * 11, none⟩ = some (.int .i64 k4) := hC 0 (by omega)
  have c1 : wr.cell? ⟨gi, oi + 1 * 11 + 1, none⟩ = some (.string t4) := hC 1 (by omega)
  have c2 : wr.cell? ⟨gi, oi + 1 * 11 + 2, none⟩ = some (.int .i64 n4) := hC 2 (by omega)
  have c3 : wr.cell? ⟨gi, oi + 1 * 11 + 3, none⟩ = some (.int .u64 f4) := hC 3 (by omega)
  have c4 : wr.cell? ⟨gi, oi + 1 * 11 + 4, none⟩ = some (.string s4) := hC 4 (by omega)
  have c5 : wr.cell? ⟨gi, oi + 1 * 11 + 5, none⟩ = some (.int .i64 x4) := hC 5 (by omega)
  have c6 : wr.cell? ⟨gi, oi + 1 * 11 + 6, none⟩ = some (.int .i64 y4) := hC 6 (by omega)
  have c7 : wr.cell? ⟨gi, oi + 1 * 11 + 7, none⟩ = some (.int .i64 z4) := hC 7 (by omega)
  have c8 : wr.cell? ⟨gi, oi + 1 * 11 + 8, none⟩ = some (.int .i64 u4) := hC 8 (by omega)
  have c9 : wr.cell? ⟨gi, oi + 1 * 11 + 9, none⟩ = some (.slice pp4 path4.length pc4) := hC 9 (by omega)
  have c10 : wr.cell? ⟨gi, oi + 1 * 11 + 10, none⟩ = some (.slice ip4 items4.length ic4) := hC 10 (by omega)
  have HEC : Hid (e4.cells = _) := hec
  have i1 : (c : Int) < k := by omega
  have i2 : (k : Int) - 1 - c = r := by omega
  clear hC hl3 he4
  unfold GP
  conv => arg 2; whnf
  go_wp2_with fail
  have kU8 := kp_eleven wr (bl) (.int .i64 k4) (.string t4) (.int .i64 n4) (.int .u64 f4) (.string s4) (.int .i64 x4) (.int .i64 y4) (.int .i64 z4) (.int .i64 u4) (.slice pp4 path4.length pc4) (.slice ip4 items4.length ic4)
  have hrU8 := eleven_over hb (.int .i64 k4) (.string t4) (.int .i64 n4) (.int .u64 f4) (.string s4) (.int .i64 x4) (.int .i64 y4) (.int .i64 z4) (.int .i64 u4) (.slice pp4 path4.length pc4) (.slice ip4 items4.length ic4)
  obtain ⟨U8, hU8⟩ : ∃ W, W = (((((((((((wr.setCell ⟨bl, 0, none⟩ (.int .i64 k4)).setCell ⟨bl, 1, none⟩ (.string t4)).setCell ⟨bl, 2, none⟩ (.int .i64 n4)).setCell ⟨bl, 3, none⟩ (.int .u64 f4)).setCell ⟨bl, 4, none⟩ (.string s4)).setCell ⟨bl, 5, none⟩ (.int .i64 x4)).setCell ⟨bl, 6, none⟩ (.int .i64 y4)).setCell ⟨bl, 7, none⟩ (.int .i64 z4)).setCell ⟨bl, 8, none⟩ (.int .i64 u4)).setCell ⟨bl, 9, none⟩ (.slice pp4 path4.length pc4)).setCell ⟨bl, 10, none⟩ (.slice ip4 items4.length ic4)) := ⟨_, rfl⟩
  rw [← hU8] at kU8 hrU8 ⊢
  clear hU8
  have rcU8 := (cells_of hrU8).1
  refine ⟨l3p_close _ _ _ _ _ _ _ _ _ _ ⟨c + 1, e4, by simp, hlt, ?_, ?_, ?_, hKp.trans kU8 fun i _ e => e⟩ rfl, by simp [L3m, intOf]; omega⟩
  ·rw [HEC.out]; exact hrU8
  ·rw [show k - (c + 1) = r by omega]; exact MD.In.below (kU8.below (Nat.le_of_lt (hblk hb)) fun i hi e => by omega) _ _ H.out.1
  ·rw [show k - (c + 1) = r by omega]; exact H.out.2
 ·have hck : c = k := by omega
  subst hck
  have i1 : ¬ (c : Int) < c := by omega
  rw [Nat.sub_self] at hin hs
  have H : Hid (BoxD wr 5 bl (base2 m) x ∧ Kp (· = bl) w wr) := ⟨⟨hb, MD.In.mono (Nat.le_of_lt (hblk hb)) _ _ hin, hs⟩, hKp⟩
  clear hb bc bf hin hs hKp
  unfold GP
  conv => arg 2; whnf
  go_wp2_with fail
  refine HK.out _ _ ?_
  exact l3q_close _ _ _ _ _ _ _ _ _ _ _ H.out.1 H.out.2 rfl
end Go.Proofs.YtdbijkgnddcneaaGreatDoor
namespace Go.Proofs.YtdbijkgnddcneaaGreatDoor
open Go.RowKit Go.ChangeMaps
set_option maxRecDepth 1000000
set_option maxHeartbeats 16000000
theorem tail18p (k : Nat) (m n : Int) (bd bo bn bl bs : Nat) (dd od nd ld sd : MD) (u : Nat → Value) (w0 w : World) (hu : Below w0.heap.size w0 w) (hk6 : k ≤ 6) (hd : BoxD w (5 + k) bd (tow (base1 n) k) dd) (ho : BoxD w (5 + k) bo (tow (base1 n) k) od) (hn : BoxD w 5 bn (base2 m) nd) (hlb : w.heap[bl]? = some (.cells ld.cells 32)) (hli : MD.In bl w (5 + k) ld) (hls : MD.same (5 + k) (tow (base2 m) k) ld = true) (hs : BoxD w (5 + k) bs (tow (base1 n) k) sd) (hx : FlatR (wholeD m)) (hA : MD.Avoid (· = bl) (5 + k) dd ∧ MD.Avoid (· = bl) (5 + k) od ∧ MD.Avoid (· = bl) 5 nd ∧ MD.Avoid (· = bl) (5 + k) sd) (hne : bd ≠ bl ∧ bo ≠ bl ∧ bn ≠ bl ∧ bs ≠ bl) (hw0 : w0.heap.size ≤ bl) :
  Code.wp Tryz.prog (pieceQ 18) (bodyPost Tryz.prog Tryz.f4 fun r w' => r = .returned (.bool true) ∧ Below w0.heap.size w0 w') (GP (u 0) (u 1) (.int .i64 m) (u 8) (.pointer (some ⟨bd, 0, none⟩)) (.int .i64 (k : Int)) (u 11) (u 12) (u 13) (u 14) (u 15) (u 16) (u 17) (u 18) (.pointer (some ⟨bo, 0, none⟩)) (.nilIface) (.nilIface) (.pointer (some ⟨bn, 0, none⟩)) (.nilIface) (.pointer (some ⟨bl, 0, none⟩)) (.nilIface) (.pointer (some ⟨bs, 0, none⟩)) (.nilIface) (u 32) (u 33) (u 34) (u 35) (u 36) u) w := by
 have TAIL : ∀ (a : Act) (wr : World), L3Q k m bd bo bn bl bs w a wr → Code.wp Tryz.prog (pieceQ 20) (bodyPost Tryz.prog Tryz.f4 fun r w' => r = .returned (.bool true) ∧ Below w0.heap.size w0 w') a wr := fun a wr hE => by
  obtain ⟨u, x, hB, hK, ha⟩ := hE
  have e : a = (GP (a.tmps.getD 0 undef) (a.tmps.getD 1 undef) (.int .i64 m) (a.tmps.getD 8 undef) (.pointer (some ⟨bd, 0, none⟩)) (a.tmps.getD 10 undef) (a.tmps.getD 11 undef) (a.tmps.getD 12 undef) (a.tmps.getD 13 undef) (a.tmps.getD 14 undef) (a.tmps.getD 15 undef) (a.tmps.getD 16 undef) (a.tmps.getD 17 undef) (a.tmps.getD 18 undef) (.pointer (some ⟨bo, 0, none⟩)) (a.tmps.getD 24 undef) (a.tmps.getD 25 undef) (.pointer (some ⟨bn, 0, none⟩)) (a.tmps.getD 27 undef) (.pointer (some ⟨bl, 0, none⟩)) (a.tmps.getD 29 undef) (.pointer (some ⟨bs, 0, none⟩)) (a.tmps.getD 31 undef) (a.tmps.getD 32 undef) (a.tmps.getD 33 undef) (a.tmps.getD 34 undef) (a.tmps.getD 35 undef) (a.tmps.getD 36 undef) (fun k => a.tmps.getD k undef)) := by rw [ha]; rfl
  rw [e]
  exact tail20 k m n bd bo bn bl bs dd od nd x sd (fun k => a.tmps.getD k undef) w0 wr (hu.trans (hK.below hu.size fun i hi e => by omega)) (hd.apart hK hne.1 hA.1) (ho.apart hK hne.2.1 hA.2.1) (hn.apart hK hne.2.2.1 hA.2.2.1) hB (hs.apart hK hne.2.2.2 hA.2.2.2) hx
 have TL : Hid _ := TAIL
 have HL : Hid (L3R k m bl w (.int .i64 0) w) := ⟨0, ld, rfl, Nat.zero_le _, hlb, hli, hls, Kp.refl _ _⟩
 clear TAIL hd ho hn hlb hli hls hs hA hx
 try unfold GP
 conv => arg 2; whnf
 refine wp_seq_k ?_
 intro K18 hK18
 have HK18 : Hid (∀ (a : Act) (w : World), Code.wp Tryz.prog (pieceQ 19) (bodyPost Tryz.prog Tryz.f4 fun r w' => r = .returned (.bool true) ∧ Below w0.heap.size w0 w') a w → K18 a w) := hK18
 clear hK18
 go_wp2_with fail
 refine HK18.out _ _ ?_
 clear HK18
 try unfold GP
 conv => arg 2; whnf
 refine wp_seq_k ?_
 intro K19 hK19
 have HK19 : Hid (∀ (a : Act) (w : World), Code.wp Tryz.prog (pieceQ 20) (bodyPost Tryz.prog Tryz.f4 fun r w' => r = .returned (.bool true) ∧ Below w0.heap.size w0 w') a w → K19 a w) := hK19
 clear hK19
 go_wp2_with fail
 refine loopP3 k m bd bo bn bl bs hk6 w _ _ (fun a wr hE => ?_) _ (l3p_close _ _ _ _ _ _ _ _ _ _ HL.out rfl)
 exact HK19.out _ _ (TL.out a wr hE)
theorem tail18q (k : Nat) (m n : Int) (bd bo bn bl bs : Nat) (dd od nd ld sd : MD) (w0 w : World) (hu : Below w0.heap.size w0 w) (hk6 : k ≤ 6) (hd : BoxD w (5 + k) bd (tow (base1 n) k) dd) (ho : BoxD w (5 + k) bo (tow (base1 n) k) od) (hn : BoxD w 5 bn (base2 m) nd) (hlb : w.heap[bl]? = some (.cells ld.cells 32)) (hli : MD.In bl w (5 + k) ld) (hls : MD.same (5 + k) (tow (base2 m) k) ld = true) (hs : BoxD w (5 + k) bs (tow (base1 n) k) sd) (hx : FlatR (wholeD m)) (hA : MD.Avoid (· = bl) (5 + k) dd ∧ MD.Avoid (· = bl) (5 + k) od ∧ MD.Avoid (· = bl) 5 nd ∧ MD.Avoid (· = bl) (5 + k) sd) (hne : bd ≠ bl ∧ bo ≠ bl ∧ bn ≠ bl ∧ bs ≠ bl) (hw0 : w0.heap.size ≤ bl) (a : Act) (ha : a = (GP (a.tmps.getD 0 undef) (a.tmps.getD 1 undef) (.int .i64 m) (a.tmps.getD 8 undef) (.pointer (some ⟨bd, 0, none⟩)) (.int .i64 (k : Int)) (a.tmps.getD 11 undef) (a.tmps.getD 12 undef) (a.tmps.getD 13 undef) (a.tmps.getD 14 undef) (a.tmps.getD 15 undef) (a.tmps.getD 16 undef) (a.tmps.getD 17 undef) (a.tmps.getD 18 undef) (.pointer (some ⟨bo, 0, none⟩)) (.nilIface) (.nilIface) (.pointer (some ⟨bn, 0, none⟩)) (.nilIface) (.pointer (some ⟨bl, 0, none⟩)) (.nilIface) (.pointer (some ⟨bs, 0, none⟩)) (.nilIface) (a.tmps.getD 32 undef) (a.tmps.getD 33 undef) (a.tmps.getD 34 undef) (a.tmps.getD 35 undef) (a.tmps.getD 36 undef) (fun k => a.tmps.getD k undef))) : Code.wp Tryz.prog (pieceQ 18) (bodyPost Tryz.prog Tryz.f4 fun r w' => r = .returned (.bool true) ∧ Below w0.heap.size w0 w') a w := by
 rw [ha]
 exact tail18p k m n bd bo bn bl bs dd od nd ld sd (fun k => a.tmps.getD k undef) w0 w hu hk6 hd ho hn hlb hli hls hs hx hA hne hw0
end Go.Proofs.YtdbijkgnddcneaaGreatDoor
namespace Go.Proofs.YtdbijkgnddcneaaGreatDoor
open Go.RowKit Go.ChangeMaps
set_option maxRecDepth 1000000
set_option maxHeartbeats 16000000
attribute [local go_sem] refold2 cell3_0 cell3_1 b28_0 b28_01
section
variable {w : World} {hb M m ab j : Nat} {vs : List Value} {base d : MD}
theorem Held.read0 (h : Held w hb M vs m ab j base d) (hN : NamesAt w) : Calls Tryz.prog 17 #[.pointer (some ⟨hb, 0, none⟩), .agg #[.int .i64 9, .string ⟨#[83]⟩, .int .i64 0, .int .u64 0, .string ⟨#[]⟩, .int .i64 ((m : Int) + 1), .int .i64 0, .int .i64 0, .int .i64 0, .slice none 0 0, .slice none 0 0]] w fun r w' => ∃ d' : MD, r = .returned (.tuple #[d'.val, .nilIface]) ∧ MD.In w'.heap.size w' (5 + j) d' ∧ MD.Above w.heap.size (5 + j) d' ∧ MD.same (5 + j) (tow base j) d' = true ∧ Below w.heap.size w w' :=
 h.read hN 0 (Nat.zero_le _) none 0 (.inl rfl) (Nat.zero_le _) (Nat.zero_le _)
theorem Held.readk (h : Held w hb M vs m ab j base d) (hN : NamesAt w) (pp : Option Addr) (pc : Nat) (hO : OnesAt w pp j) (hc : j ≤ pc) (hpc : pc ≤ maxLen) : Calls Tryz.prog 17 #[.pointer (some ⟨hb, 0, none⟩), .agg #[.int .i64 9, .string ⟨#[83]⟩, .int .i64 0, .int .u64 0, .string ⟨#[]⟩, .int .i64 ((m : Int) + 1), .int .i64 0, .int .i64 0, .int .i64 0, .slice pp j pc, .slice none 0 0]] w fun r w' => ∃ d' : MD, r = .returned (.tuple #[d'.val, .nilIface]) ∧ MD.In w'.heap.size w' 5 d' ∧ MD.Above w.heap.size 5 d' ∧ MD.same 5 base d' = true ∧ Below w.heap.size w w' := by
 have := h.read hN j (Nat.le_refl _) pp pc hO hc hpc
 rw [Nat.sub_self] at this
 exact this
theorem Held.apart (h : Held w hb M vs m ab j base d) {w' : World} {S : Nat → Prop} (hK : Kp S w w') (h1 : ¬ S hb) (h2 : ¬ S M) (h3 : ¬ S ab) (h4 : MD.Avoid S (5 + j) d) : Held w' hb M vs m ab j base d :=
 ⟨h.heap.kp hK h1 h2, h.thing, (hK.block _ (hblk h.cells) h3).trans h.cells, MD.In.mono hK.size _ _ (MD.In.apart (S := S) (fun i q1 q2 => hK.block i q2 q1) _ _ h.inn h4), h.same, h.full, h.bk, h.few⟩
end
theorem tail15 (k : Nat) (m n : Int) (hb M ab1 ab2 bd bo bp bt bq : Nat) (pp : Option Addr) (pc : Nat) (dd od d1 d2 : MD) (u : Nat → Value) (w0 w : World) (hk6 : k ≤ 6) (hc : k ≤ pc) (hpc : pc ≤ maxLen) (hx : FlatR (wholeD m)) (u_w : Below w0.heap.size w0 w) (nm_w : NamesAt w) (dB_w : BoxD w (5 + k) bd (tow (base1 n) k) dd) (oB_w : BoxD w (5 + k) bo (tow (base1 n) k) od) (h1_w : Held w hb M [.iface 84 (.pointer (some ⟨ab1, 0, none⟩)), .iface 84 (.pointer (some ⟨ab2, 0, none⟩))] 0 ab1 k (base2 m) d1) (h2_w : Held w hb M [.iface 84 (.pointer (some ⟨ab1, 0, none⟩)), .iface 84 (.pointer (some ⟨ab2, 0, none⟩))] 1 ab2 k (base1 n) d2)
  (bp_w : w.heap[bp]? = some (.cells #[.int .i64 9, .string ⟨#[83]⟩, .int .i64 0, .int .u64 0, .string ⟨#[]⟩, .int .i64 1, .int .i64 0, .int .i64 0, .int .i64 0, .slice none 0 0, .slice none 0 0] 32)) (bt_w : w.heap[bt]? = some (.cells #[.int .i64 9, .string ⟨#[83]⟩, .int .i64 0, .int .u64 0, .string ⟨#[]⟩, .int .i64 2, .int .i64 0, .int .i64 0, .int .i64 0, .slice none 0 0, .slice none 0 0] 32)) (bq_w : w.heap[bq]? = some (.cells #[.int .i64 9, .string ⟨#[83]⟩, .int .i64 0, .int .u64 0, .string ⟨#[]⟩, .int .i64 1, .int .i64 0, .int .i64 0, .int .i64 0, .slice pp k pc, .slice none 0 0] 32)) (pO_w : OnesAt w pp k) :
  Code.wp Tryz.prog (pieceQ 15) (bodyPost Tryz.prog Tryz.f4 fun r w' => r = .returned (.bool true) ∧ Below w0.heap.size w0 w') (GP (u 0) (u 1) (.int .i64 m) (.pointer (some ⟨hb, 0, none⟩)) (.pointer (some ⟨bd, 0, none⟩)) (.int .i64 (k : Int)) (u 11) (.pointer (some ⟨bp, 0, none⟩)) (u 13) (.pointer (some ⟨bt, 0, none⟩)) (u 15) (.pointer (some ⟨bq, 0, none⟩)) (u 17) (u 18) (.pointer (some ⟨bo, 0, none⟩)) (.nilIface) (.nilIface) (u 26) (u 27) (u 28) (u 29) (u 30) (u 31) (u 32) (u 33) (u 34) (u 35) (u 36) u) w := by
 try unfold GP
 conv => arg 2; whnf
 refine wp_seq_k ?_
 intro K15 hK15
 have HK15 : Hid (∀ (a : Act) (w : World), Code.wp Tryz.prog (pieceQ 16) (bodyPost Tryz.prog Tryz.f4 fun r w' => r = .returned (.bool true) ∧ Below w0.heap.size w0 w') a w → K15 a w) := hK15
 clear hK15
 have cc15 := (cells_of bq_w).1
 go_wp2_with fail
 refine Calls.mono (h1_w.readk nm_w pp pc pO_w hc hpc) ?_
 rintro _ V1 ⟨nd, rfl, ndi, nda, nds, cV1⟩
 obtain ⟨nd0, end0⟩ : ∃ x, x = nd := ⟨_, rfl⟩
 rw [← end0] at ndi nda nds
 obtain ⟨⟨k1, t1, n1, f1, s1, x1, y1, z1, u1, pp1, path1, pc1⟩, ip1, ic1, items1⟩ := nd
 simp only [MD.val, D]
 clear cc15
 have dB_V1 := BoxD.below dB_w cV1
 have oB_V1 := BoxD.below oB_w cV1
 have h1_V1 := Held.below h1_w cV1
 have h2_V1 := Held.below h2_w cV1
 have bp_V1 := (cV1.block _ (hblk bp_w)).trans bp_w
 have bt_V1 := (cV1.block _ (hblk bt_w)).trans bt_w
 have bq_V1 := (cV1.block _ (hblk bq_w)).trans bq_w
 have pO_V1 := OnesAt.below pO_w cV1
 have u_V1 := u_w.trans (cV1.mono u_w.size)
 have nm_V1 := NamesAt.kept nm_w cV1
 clear dB_w oB_w h1_w h2_w bp_w bt_w bq_w pO_w u_w nm_w
 have zV1 := cV1.size
 clear cV1
 go_wp2_with fail
 obtain ⟨V2, eV2, cV2, yV2, nV2⟩ := an V1 (.cells #[.int .i64 k1, .string t1, .int .i64 n1, .int .u64 f1, .string s1, .int .i64 x1, .int .i64 y1, .int .i64 z1, .int .i64 u1, .slice pp1 path1.length pc1, .slice ip1 items1.length ic1] 32)
 rw [← eV2]
 clear eV2
 have ndB_V2 : BoxD V2 (5) V1.heap.size (base2 m) nd0 := ⟨by rw [end0]; exact nV2, MD.In.mono cV2.size _ _ (MD.In.below cV2 _ _ ndi), nds⟩
 clear nV2
 have dB_V2 := BoxD.below dB_V1 cV2
 have oB_V2 := BoxD.below oB_V1 cV2
 have h1_V2 := Held.below h1_V1 cV2
 have h2_V2 := Held.below h2_V1 cV2
 have bp_V2 := (cV2.block _ (hblk bp_V1)).trans bp_V1
 have bt_V2 := (cV2.block _ (hblk bt_V1)).trans bt_V1
 have bq_V2 := (cV2.block _ (hblk bq_V1)).trans bq_V1
 have pO_V2 := OnesAt.below pO_V1 cV2
 have u_V2 := u_V1.trans (cV2.mono u_V1.size)
 have nm_V2 := NamesAt.kept nm_V1 cV2
 clear dB_V1 oB_V1 h1_V1 h2_V1 bp_V1 bt_V1 bq_V1 pO_V1 u_V1 nm_V1
 clear cV2
 refine HK15.out _ _ ?_
 clear HK15
 try unfold GP
 conv => arg 2; whnf
 refine wp_seq_k ?_
 intro K16 hK16
 have HK16 : Hid (∀ (a : Act) (w : World), Code.wp Tryz.prog (pieceQ 17) (bodyPost Tryz.prog Tryz.f4 fun r w' => r = .returned (.bool true) ∧ Below w0.heap.size w0 w') a w → K16 a w) := hK16
 clear hK16
 have cc16 := (cells_of bp_V2).1
 go_wp2_with fail
 refine Calls.mono (h1_V2.read0 nm_V2) ?_
 rintro _ V3 ⟨ld, rfl, ldi, lda, lds, cV3⟩
 obtain ⟨ld0, eld0⟩ : ∃ x, x = ld := ⟨_, rfl⟩
 rw [← eld0] at ldi lda lds
 obtain ⟨⟨k2, t2, n2, f2, s2, x2, y2, z2, u2, pp2, path2, pc2⟩, ip2, ic2, items2⟩ := ld
 simp only [MD.val, D]
 clear cc16
 have dB_V3 := BoxD.below dB_V2 cV3
 have oB_V3 := BoxD.below oB_V2 cV3
 have h1_V3 := Held.below h1_V2 cV3
 have h2_V3 := Held.below h2_V2 cV3
 have bp_V3 := (cV3.block _ (hblk bp_V2)).trans bp_V2
 have bt_V3 := (cV3.block _ (hblk bt_V2)).trans bt_V2
 have bq_V3 := (cV3.block _ (hblk bq_V2)).trans bq_V2
 have pO_V3 := OnesAt.below pO_V2 cV3
 have u_V3 := u_V2.trans (cV3.mono u_V2.size)
 have nm_V3 := NamesAt.kept nm_V2 cV3
 have ndB_V3 := BoxD.below ndB_V2 cV3
 clear dB_V2 oB_V2 h1_V2 h2_V2 bp_V2 bt_V2 bq_V2 pO_V2 u_V2 nm_V2 ndB_V2
 have zV3 := cV3.size
 clear cV3
 go_wp2_with fail
 obtain ⟨V4, eV4, cV4, yV4, nV4⟩ := an V3 (.cells #[.int .i64 k2, .string t2, .int .i64 n2, .int .u64 f2, .string s2, .int .i64 x2, .int .i64 y2, .int .i64 z2, .int .i64 u2, .slice pp2 path2.length pc2, .slice ip2 items2.length ic2] 32)
 rw [← eV4]
 clear eV4
 have lb := V3.heap.size
 have wS := u_V3.size
 have aD := MD.In.avoid (S := (· = V3.heap.size)) (fun i hi e => by omega) _ _ dB_V3.inn
 have aO := MD.In.avoid (S := (· = V3.heap.size)) (fun i hi e => by omega) _ _ oB_V3.inn
 have aN := MD.In.avoid (S := (· = V3.heap.size)) (fun i hi e => by omega) _ _ ndB_V3.inn
 have aH := And.intro (hblk dB_V3.box) (And.intro (hblk oB_V3.box) (hblk ndB_V3.box))
 have lI_V4 : MD.In V3.heap.size V4 (5 + k) ld0 := MD.In.below cV4 _ _ ldi
 clear lb
 have ldB_V4 : BoxD V4 (5 + k) V3.heap.size (tow (base2 m) k) ld0 := ⟨by rw [eld0]; exact nV4, MD.In.mono cV4.size _ _ (MD.In.below cV4 _ _ ldi), lds⟩
 clear nV4
 have dB_V4 := BoxD.below dB_V3 cV4
 have oB_V4 := BoxD.below oB_V3 cV4
 have h1_V4 := Held.below h1_V3 cV4
 have h2_V4 := Held.below h2_V3 cV4
 have bp_V4 := (cV4.block _ (hblk bp_V3)).trans bp_V3
 have bt_V4 := (cV4.block _ (hblk bt_V3)).trans bt_V3
 have bq_V4 := (cV4.block _ (hblk bq_V3)).trans bq_V3
 have pO_V4 := OnesAt.below pO_V3 cV4
 have u_V4 := u_V3.trans (cV4.mono u_V3.size)
 have nm_V4 := NamesAt.kept nm_V3 cV4
 have ndB_V4 := BoxD.below ndB_V3 cV4
 clear dB_V3 oB_V3 h1_V3 h2_V3 bp_V3 bt_V3 bq_V3 pO_V3 u_V3 nm_V3 ndB_V3
 clear cV4
 refine HK16.out _ _ ?_
 clear HK16
 try unfold GP
 conv => arg 2; whnf
 refine wp_seq_k ?_
 intro K17 hK17
 have HK17 : Hid (∀ (a : Act) (w : World), Code.wp Tryz.prog (pieceQ 18) (bodyPost Tryz.prog Tryz.f4 fun r w' => r = .returned (.bool true) ∧ Below w0.heap.size w0 w') a w → K17 a w) := hK17
 clear hK17
 have cc17 := (cells_of bt_V4).1
 go_wp2_with fail
 refine Calls.mono (h2_V4.read0 nm_V4) ?_
 rintro _ V5 ⟨sd, rfl, sdi, sda, sds, cV5⟩
 obtain ⟨sd0, esd0⟩ : ∃ x, x = sd := ⟨_, rfl⟩
 rw [← esd0] at sdi sda sds
 obtain ⟨⟨k3, t3, n3, f3, s3, x3, y3, z3, u3, pp3, path3, pc3⟩, ip3, ic3, items3⟩ := sd
 simp only [MD.val, D]
 clear cc17
 have dB_V5 := BoxD.below dB_V4 cV5
 have oB_V5 := BoxD.below oB_V4 cV5
 have h1_V5 := Held.below h1_V4 cV5
 have h2_V5 := Held.below h2_V4 cV5
 have bp_V5 := (cV5.block _ (hblk bp_V4)).trans bp_V4
 have bt_V5 := (cV5.block _ (hblk bt_V4)).trans bt_V4
 have bq_V5 := (cV5.block _ (hblk bq_V4)).trans bq_V4
 have pO_V5 := OnesAt.below pO_V4 cV5
 have u_V5 := u_V4.trans (cV5.mono u_V4.size)
 have nm_V5 := NamesAt.kept nm_V4 cV5
 have ndB_V5 := BoxD.below ndB_V4 cV5
 have ldB_V5 := BoxD.below ldB_V4 cV5
 have lI_V5 := MD.In.below (cV5.mono (Nat.le_of_lt (hblk ldB_V4.box))) _ _ lI_V4
 clear dB_V4 oB_V4 h1_V4 h2_V4 bp_V4 bt_V4 bq_V4 pO_V4 u_V4 nm_V4 ndB_V4 ldB_V4 lI_V4
 have zV5 := cV5.size
 clear cV5
 go_wp2_with fail
 obtain ⟨V6, eV6, cV6, yV6, nV6⟩ := an V5 (.cells #[.int .i64 k3, .string t3, .int .i64 n3, .int .u64 f3, .string s3, .int .i64 x3, .int .i64 y3, .int .i64 z3, .int .i64 u3, .slice pp3 path3.length pc3, .slice ip3 items3.length ic3] 32)
 rw [← eV6]
 clear eV6
 have sdB_V6 : BoxD V6 (5 + k) V5.heap.size (tow (base1 n) k) sd0 := ⟨by rw [esd0]; exact nV6, MD.In.mono cV6.size _ _ (MD.In.below cV6 _ _ sdi), sds⟩
 clear nV6
 have dB_V6 := BoxD.below dB_V5 cV6
 have oB_V6 := BoxD.below oB_V5 cV6
 have h1_V6 := Held.below h1_V5 cV6
 have h2_V6 := Held.below h2_V5 cV6
 have bp_V6 := (cV6.block _ (hblk bp_V5)).trans bp_V5
 have bt_V6 := (cV6.block _ (hblk bt_V5)).trans bt_V5
 have bq_V6 := (cV6.block _ (hblk bq_V5)).trans bq_V5
 have pO_V6 := OnesAt.below pO_V5 cV6
 have u_V6 := u_V5.trans (cV6.mono u_V5.size)
 have nm_V6 := NamesAt.kept nm_V5 cV6
 have ndB_V6 := BoxD.below ndB_V5 cV6
 have ldB_V6 := BoxD.below ldB_V5 cV6
 have lI_V6 := MD.In.below (cV6.mono (Nat.le_of_lt (hblk ldB_V5.box))) _ _ lI_V5
 clear dB_V5 oB_V5 h1_V5 h2_V5 bp_V5 bt_V5 bq_V5 pO_V5 u_V5 nm_V5 ndB_V5 ldB_V5 lI_V5
 clear cV6
 refine HK17.out _ _ ?_
 clear HK17
 have aS := MD.Above.avoid (S := (· = V3.heap.size)) (fun i hi e => by omega) _ _ sda
 have q1 := hblk dB_V6.box
 exact tail18q k m n bd bo V1.heap.size V3.heap.size V5.heap.size dd od nd0 ld0 sd0 w0 V6 u_V6 hk6 dB_V6 oB_V6 ndB_V6 ldB_V6.box lI_V6 ldB_V6.same sdB_V6 hx ⟨aD, aO, aN, aS⟩ ⟨by omega, by omega, by omega, by omega⟩ (by omega) _ rfl
theorem tail13p (k : Nat) (m n : Int) (hb M ab1 ab2 bd bp bt bq : Nat) (pp : Option Addr) (pc : Nat) (dd d1 d2 : MD) (u : Nat → Value) (w0 w : World) (hk6 : k ≤ 6) (hc : k ≤ pc) (hpc : pc ≤ maxLen) (hx : FlatR (wholeD m)) (u_w : Below w0.heap.size w0 w) (nm_w : NamesAt w) (dB_w : BoxD w (5 + k) bd (tow (base1 n) k) dd) (h1_w : Held w hb M [.iface 84 (.pointer (some ⟨ab1, 0, none⟩)), .iface 84 (.pointer (some ⟨ab2, 0, none⟩))] 0 ab1 k (base1 n) d1) (h2_w : Held w hb M [.iface 84 (.pointer (some ⟨ab1, 0, none⟩)), .iface 84 (.pointer (some ⟨ab2, 0, none⟩))] 1 ab2 k (base1 n) d2)
  (bp_w : w.heap[bp]? = some (.cells #[.int .i64 9, .string ⟨#[83]⟩, .int .i64 0, .int .u64 0, .string ⟨#[]⟩, .int .i64 1, .int .i64 0, .int .i64 0, .int .i64 0, .slice none 0 0, .slice none 0 0] 32)) (bt_w : w.heap[bt]? = some (.cells #[.int .i64 9, .string ⟨#[83]⟩, .int .i64 0, .int .u64 0, .string ⟨#[]⟩, .int .i64 2, .int .i64 0, .int .i64 0, .int .i64 0, .slice none 0 0, .slice none 0 0] 32)) (bq_w : w.heap[bq]? = some (.cells #[.int .i64 9, .string ⟨#[83]⟩, .int .i64 0, .int .u64 0, .string ⟨#[]⟩, .int .i64 1, .int .i64 0, .int .i64 0, .int .i64 0, .slice pp k pc, .slice none 0 0] 32)) (pO_w : OnesAt w pp k)
  (hA : MD.Avoid (· = ab1) (5 + k) dd ∧ MD.Avoid (· = ab1) (5 + k) d2) (hne : bd ≠ ab1 ∧ bp ≠ ab1 ∧ bt ≠ ab1 ∧ bq ≠ ab1 ∧ ab2 ≠ ab1) (hhb : hb ≠ ab1 ∧ M ≠ ab1) (hpa : ∀ b o, pp = some ⟨b, o, none⟩ → b ≠ ab1) (hab : w0.heap.size ≤ ab1) (hN0 : ∀ W, Below w0.heap.size w0 W → NamesAt W) :
  Code.wp Tryz.prog (pieceQ 13) (bodyPost Tryz.prog Tryz.f4 fun r w' => r = .returned (.bool true) ∧ Below w0.heap.size w0 w') (GP (u 0) (u 1) (.int .i64 m) (.pointer (some ⟨hb, 0, none⟩)) (.pointer (some ⟨bd, 0, none⟩)) (.int .i64 (k : Int)) (u 11) (.pointer (some ⟨bp, 0, none⟩)) (u 13) (.pointer (some ⟨bt, 0, none⟩)) (u 15) (.pointer (some ⟨bq, 0, none⟩)) (u 17) (u 18) (u 23) (u 24) (u 25) (u 26) (u 27) (u 28) (u 29) (u 30) (u 31) (u 32) (u 33) (u 34) (u 35) (u 36) u) w := by
 have ha1 := hblk h1_w.cells
 have HNN : Hid _ := hN0
 clear hN0
 try unfold GP
 conv => arg 2; whnf
 refine wp_seq_k ?_
 intro K13 hK13
 have HK13 : Hid (∀ (a : Act) (w : World), Code.wp Tryz.prog (pieceQ 14) (bodyPost Tryz.prog Tryz.f4 fun r w' => r = .returned (.bool true) ∧ Below w0.heap.size w0 w') a w → K13 a w) := hK13
 clear hK13
 have cc13 := (cells_of bp_w).1
 go_wp2_with fail
 refine Calls.mono (h1_w.read0 nm_w) ?_
 rintro _ V1 ⟨od, rfl, odi, oda, ods, cV1⟩
 obtain ⟨od0, eod0⟩ : ∃ x, x = od := ⟨_, rfl⟩
 rw [← eod0] at odi oda ods
 obtain ⟨⟨k1, t1, n1, f1, s1, x1, y1, z1, u1, pp1, path1, pc1⟩, ip1, ic1, items1⟩ := od
 simp only [MD.val, D]
 clear cc13
 have dB_V1 := BoxD.below dB_w cV1
 have h1_V1 := Held.below h1_w cV1
 have h2_V1 := Held.below h2_w cV1
 have bp_V1 := (cV1.block _ (hblk bp_w)).trans bp_w
 have bt_V1 := (cV1.block _ (hblk bt_w)).trans bt_w
 have bq_V1 := (cV1.block _ (hblk bq_w)).trans bq_w
 have pO_V1 := OnesAt.below pO_w cV1
 have u_V1 := u_w.trans (cV1.mono u_w.size)
 have nm_V1 := NamesAt.kept nm_w cV1
 clear dB_w h1_w h2_w bp_w bt_w bq_w pO_w u_w nm_w
 have zV1 := cV1.size
 clear cV1
 go_wp2_with fail
 obtain ⟨V2, eV2, cV2, yV2, nV2⟩ := an V1 (.cells #[.int .i64 k1, .string t1, .int .i64 n1, .int .u64 f1, .string s1, .int .i64 x1, .int .i64 y1, .int .i64 z1, .int .i64 u1, .slice pp1 path1.length pc1, .slice ip1 items1.length ic1] 32)
 rw [← eV2]
 clear eV2
 have odB_V2 : BoxD V2 (5 + k) V1.heap.size (tow (base1 n) k) od0 := ⟨by rw [eod0]; exact nV2, MD.In.mono cV2.size _ _ (MD.In.below cV2 _ _ odi), ods⟩
 clear nV2
 have dB_V2 := BoxD.below dB_V1 cV2
 have h1_V2 := Held.below h1_V1 cV2
 have h2_V2 := Held.below h2_V1 cV2
 have bp_V2 := (cV2.block _ (hblk bp_V1)).trans bp_V1
 have bt_V2 := (cV2.block _ (hblk bt_V1)).trans bt_V1
 have bq_V2 := (cV2.block _ (hblk bq_V1)).trans bq_V1
 have pO_V2 := OnesAt.below pO_V1 cV2
 have u_V2 := u_V1.trans (cV2.mono u_V1.size)
 have nm_V2 := NamesAt.kept nm_V1 cV2
 clear dB_V1 h1_V1 h2_V1 bp_V1 bt_V1 bq_V1 pO_V1 u_V1 nm_V1
 clear cV2
 refine HK13.out _ _ ?_
 clear HK13
 have aO := MD.Above.avoid (S := (· = ab1)) (fun i hi e => by omega) _ _ oda
 have TAIL : ∀ (W : World) (d' : MD), Held W hb M [.iface 84 (.pointer (some ⟨ab1, 0, none⟩)), .iface 84 (.pointer (some ⟨ab2, 0, none⟩))] 0 ab1 k (base2 m) d' → Kp (· = ab1) V2 W → ∀ a : Act, a = (GP (a.tmps.getD 0 undef) (a.tmps.getD 1 undef) (.int .i64 m) (.pointer (some ⟨hb, 0, none⟩)) (.pointer (some ⟨bd, 0, none⟩)) (.int .i64 (k : Int)) (a.tmps.getD 11 undef) (.pointer (some ⟨bp, 0, none⟩)) (a.tmps.getD 13 undef) (.pointer (some ⟨bt, 0, none⟩)) (a.tmps.getD 15 undef) (.pointer (some ⟨bq, 0, none⟩)) (a.tmps.getD 17 undef) (a.tmps.getD 18 undef) (.pointer (some ⟨V1.heap.size, 0, none⟩)) (.nilIface) (.nilIface) (a.tmps.getD 26 undef) (a.tmps.getD 27 undef) (a.tmps.getD 28 undef) (a.tmps.getD 29 undef) (a.tmps.getD 30 undef) (a.tmps.getD 31 undef) (a.tmps.getD 32 undef) (a.tmps.getD 33 undef) (a.tmps.getD 34 undef) (a.tmps.getD 35 undef) (a.tmps.getD 36 undef) (fun k => a.tmps.getD k undef)) → Code.wp Tryz.prog (pieceQ 15) (bodyPost Tryz.prog Tryz.f4 fun r w' => r = .returned (.bool true) ∧ Below w0.heap.size w0 w') a W := fun W d' q1 hK a ha => by
  rw [ha]
  have q2 := hblk odB_V2.box
  refine tail15 k m n hb M ab1 ab2 bd V1.heap.size bp bt bq pp pc dd od0 d' d2 (fun k => a.tmps.getD k undef) w0 W hk6 hc hpc hx (u_V2.trans (hK.below u_V2.size fun i hi e => by omega)) (HNN.out _ (u_V2.trans (hK.below u_V2.size fun i hi e => by omega))) (dB_V2.apart hK hne.1 hA.1) (odB_V2.apart hK (by omega) aO) q1 (h2_V2.apart hK hhb.1 hhb.2 hne.2.2.2.2 hA.2) ((hK.block _ (hblk bp_V2) hne.2.1).trans bp_V2) ((hK.block _ (hblk bt_V2) hne.2.2.1).trans bt_V2) ((hK.block _ (hblk bq_V2) hne.2.2.2.1).trans bq_V2) ?_
  rcases pO_V2 with e | ⟨g, o, e1, e2, e3⟩
  ·exact .inl e
  ·exact .inr ⟨g, o, e1, Nat.lt_of_lt_of_le e2 hK.size, fun i hi => (World.cell?_of_block (a := ⟨g, o + i, none⟩) (hK.block _ e2 (hpa g o e1))).trans (e3 i hi)⟩
 have TL : Hid _ := TAIL
 have HWR : Hid (∀ (g : Nat) (W : World), Below V2.heap.size V2 W → W.heap[g]? = some (.cells (rowOf [wholeD m, wholeD m]).toArray 32) → Calls Tryz.prog 20 #[.pointer (some ⟨hb, 0, none⟩), .agg #[.int .i64 9, .string ⟨#[83]⟩, .int .i64 0, .int .u64 0, .string ⟨#[]⟩, .int .i64 1, .int .i64 0, .int .i64 0, .int .i64 0, .slice pp k pc, .slice none 0 0], (pairE g (wholeD m) (wholeD m)).val] W fun r w' => r = .returned .nilIface ∧ ∃ d', Held w' hb M [.iface 84 (.pointer (some ⟨ab1, 0, none⟩)), .iface 84 (.pointer (some ⟨ab2, 0, none⟩))] 0 ab1 k (base2 m) d' ∧ Kp (· = ab1) W w') := fun g W hW hg => 
  (h1_V2.below hW).writeAt (nm_V2.kept hW) pp pc (pO_V2.below hW) hc hpc (pairE g (wholeD m) (wholeD m)) 0 m m hx hx (pairE_same (same_self _ _) (same_self _ _)) (pairE_in (hx.inn _ _) (hx.inn _ _) (hblk hg) hg) hhb.1 hhb.2
 have xb := bq_V2
 have hq1 : bq ≠ ab1 := hne.2.2.2.1
 clear TAIL hA hhb hpa hne dB_V2 odB_V2 h1_V2 h2_V2 bp_V2 bt_V2 bq_V2 pO_V2 nm_V2 aO
 try unfold GP
 conv => arg 2; whnf
 refine wp_seq_k ?_
 intro K14 hK14
 have HK14 : Hid (∀ (a : Act) (w : World), Code.wp Tryz.prog (pieceQ 15) (bodyPost Tryz.prog Tryz.f4 fun r w' => r = .returned (.bool true) ∧ Below w0.heap.size w0 w') a w → K14 a w) := hK14
 clear hK14
 go_wp2_with fail
 refine rg (S := fun W => (∀ j, W.cell? ⟨bq, j, none⟩ = (#[.int .i64 9, .string ⟨#[83]⟩, .int .i64 0, .int .u64 0, .string ⟨#[]⟩, .int .i64 1, .int .i64 0, .int .i64 0, .int .i64 0, .slice pp k pc, .slice none 0 0] : Array Value)[j]?)) (fun Y0 hB4 HY0 => ?_)
 have hS := (cells_of ((hB4.block _ (hblk xb)).trans xb)).1
 have xY0 := (hB4.block _ (hblk xb)).trans xb
 have vY0 : Below V2.heap.size V2 Y0 := hB4
 clear HY0 hB4
 refine tq 0 (.pointer (some ⟨hb, 0, none⟩)) rfl hS ?_
 simp only [sa, sb, Act.put, sd, se, sf]
 refine tk 1 (.agg #[.int .i64 9, .string ⟨#[83]⟩, .int .i64 0, .int .u64 0, .string ⟨#[]⟩, .int .i64 1, .int .i64 0, .int .i64 0, .int .i64 0, .slice pp k pc, .slice none 0 0]) rfl (.inl ⟨by rfl, ?r⟩) hS ?_
 case r => intro W hW; simp [go_sem, execOp, Act.eval, hW]
 simp only [sa, sb, sc, Act.put, sd, se, sf]
 refine tq 2 (.int .i64 m) rfl hS ?_
 simp only [sa, sb, sc, Act.put, sd, se, sf]
 refine tq 4 (.int .i64 m) rfl hS ?_
 simp only [sa, sb, sc, Act.put, sd, se, sf]
 refine one 3 rfl (fun K hK => ?_)
 simp only [sa, sb, sc]
 go_simp
 refine (whole_any m Y0).mono ?_
 rintro _ Y1 ⟨rfl, cY1⟩
 have xY1 := (cY1.block _ (hblk xY0)).trans xY0
 have vY1 : Below V2.heap.size V2 Y1 := vY0.trans (cY1.mono vY0.size)
 clear cY1 xY0 vY0
 go_simp
 have hSY1 := (cells_of xY1).1
 refine hK _ _ ⟨hSY1, ?_⟩
 clear hK K hS
 have hS := hSY1
 clear hSY1
 try simp only [Act.put, sd, se, sf]
 refine one 5 rfl (fun K hK => ?_)
 simp only [sa, sb, sc]
 go_simp
 refine (whole_any m Y1).mono ?_
 rintro _ Y2 ⟨rfl, cY2⟩
 have xY2 := (cY2.block _ (hblk xY1)).trans xY1
 have vY2 : Below V2.heap.size V2 Y2 := vY1.trans (cY2.mono vY1.size)
 clear cY2 xY1 vY1
 go_simp
 have hSY2 := (cells_of xY2).1
 refine hK _ _ ⟨hSY2, ?_⟩
 clear hK K hS
 have hS := hSY2
 clear hSY2
 try simp only [Act.put, sd, se, sf]
 refine one 6 rfl (fun K hK => ?_)
 simp only [sa, sb, sc]
 go_simp
 refine (pair_any2 (wholeD m) (wholeD m) Y2).mono ?_
 rintro _ Y3 ⟨g, rfl, cY3, hgY3, _⟩
 have xY3 := (cY3.block _ (hblk xY2)).trans xY2
 have vY3 : Below V2.heap.size V2 Y3 := vY2.trans (cY3.mono vY2.size)
 clear cY3 xY2 vY2
 go_simp
 have hSY3 := (cells_of xY3).1
 refine hK _ _ ⟨hSY3, ?_⟩
 clear hK K hS
 have hS := hSY3
 clear hSY3
 try simp only [Act.put, sd, se, sf]
 refine one 7 rfl (fun K hK => ?_)
 simp only [sa, sb, sc]
 go_simp
 refine (HWR.out g Y3 vY3 hgY3).mono ?_
 rintro _ Y4 ⟨rfl, d', hd', kY4⟩
 have xY4 := (kY4.block _ (hblk xY3) hq1).trans xY3
 have kk : Kp (· = ab1) V2 Y4 := (Kp.of vY3).trans kY4 fun _ _ e => e
 clear kY4 xY3 vY3 hgY3
 go_simp
 have hSY4 := (cells_of xY4).1
 refine hK _ _ ⟨hSY4, ?_⟩
 clear hK K hS
 have hS := hSY4
 clear hSY4
 try simp only [Act.put, sd, se, sf]
 refine tq 8 (.nilIface) rfl hS ?_
 simp only [sa, sb, sc, Act.put, sd, se, sf]
 refine dn ?_
 try simp only [Act.put]
 clear hS xY4 HWR
 go_wp2_with fail
 refine HK14.out _ _ ?_
 clear HK14
 exact TL.out Y4 d' hd' kk _ rfl
theorem tail13q (k : Nat) (m n : Int) (hb M ab1 ab2 bd bp bt bq : Nat) (pp : Option Addr) (pc : Nat) (dd d1 d2 : MD) (w0 w : World) (hk6 : k ≤ 6) (hc : k ≤ pc) (hpc : pc ≤ maxLen) (hx : FlatR (wholeD m)) (u_w : Below w0.heap.size w0 w) (nm_w : NamesAt w) (dB_w : BoxD w (5 + k) bd (tow (base1 n) k) dd) (h1_w : Held w hb M [.iface 84 (.pointer (some ⟨ab1, 0, none⟩)), .iface 84 (.pointer (some ⟨ab2, 0, none⟩))] 0 ab1 k (base1 n) d1) (h2_w : Held w hb M [.iface 84 (.pointer (some ⟨ab1, 0, none⟩)), .iface 84 (.pointer (some ⟨ab2, 0, none⟩))] 1 ab2 k (base1 n) d2)
  (bp_w : w.heap[bp]? = some (.cells #[.int .i64 9, .string ⟨#[83]⟩, .int .i64 0, .int .u64 0, .string ⟨#[]⟩, .int .i64 1, .int .i64 0, .int .i64 0, .int .i64 0, .slice none 0 0, .slice none 0 0] 32)) (bt_w : w.heap[bt]? = some (.cells #[.int .i64 9, .string ⟨#[83]⟩, .int .i64 0, .int .u64 0, .string ⟨#[]⟩, .int .i64 2, .int .i64 0, .int .i64 0, .int .i64 0, .slice none 0 0, .slice none 0 0] 32)) (bq_w : w.heap[bq]? = some (.cells #[.int .i64 9, .string ⟨#[83]⟩, .int .i64 0, .int .u64 0, .string ⟨#[]⟩, .int .i64 1, .int .i64 0, .int .i64 0, .int .i64 0, .slice pp k pc, .slice none 0 0] 32)) (pO_w : OnesAt w pp k)
  (hA : MD.Avoid (· = ab1) (5 + k) dd ∧ MD.Avoid (· = ab1) (5 + k) d2) (hne : bd ≠ ab1 ∧ bp ≠ ab1 ∧ bt ≠ ab1 ∧ bq ≠ ab1 ∧ ab2 ≠ ab1) (hhb : hb ≠ ab1 ∧ M ≠ ab1) (hpa : ∀ b o, pp = some ⟨b, o, none⟩ → b ≠ ab1) (hab : w0.heap.size ≤ ab1) (hN0 : ∀ W, Below w0.heap.size w0 W → NamesAt W) (a : Act) (ha : a = (GP (a.tmps.getD 0 undef) (a.tmps.getD 1 undef) (.int .i64 m) (.pointer (some ⟨hb, 0, none⟩)) (.pointer (some ⟨bd, 0, none⟩)) (.int .i64 (k : Int)) (a.tmps.getD 11 undef) (.pointer (some ⟨bp, 0, none⟩)) (a.tmps.getD 13 undef) (.pointer (some ⟨bt, 0, none⟩)) (a.tmps.getD 15 undef) (.pointer (some ⟨bq, 0, none⟩)) (a.tmps.getD 17 undef) (a.tmps.getD 18 undef) (a.tmps.getD 23 undef) (a.tmps.getD 24 undef) (a.tmps.getD 25 undef) (a.tmps.getD 26 undef) (a.tmps.getD 27 undef) (a.tmps.getD 28 undef) (a.tmps.getD 29 undef) (a.tmps.getD 30 undef) (a.tmps.getD 31 undef) (a.tmps.getD 32 undef) (a.tmps.getD 33 undef) (a.tmps.getD 34 undef) (a.tmps.getD 35 undef) (a.tmps.getD 36 undef) (fun k => a.tmps.getD k undef))) : Code.wp Tryz.prog (pieceQ 13) (bodyPost Tryz.prog Tryz.f4 fun r w' => r = .returned (.bool true) ∧ Below w0.heap.size w0 w') a w := by
 rw [ha]
 exact tail13p k m n hb M ab1 ab2 bd bp bt bq pp pc dd d1 d2 (fun k => a.tmps.getD k undef) w0 w hk6 hc hpc hx u_w nm_w dB_w h1_w h2_w bp_w bt_w bq_w pO_w hA hne hhb hpa hab hN0
end Go.Proofs.YtdbijkgnddcneaaGreatDoor
namespace Go.Proofs.YtdbijkgnddcneaaGreatDoor
open Go.RowKit Go.ChangeMaps
set_option maxRecDepth 1000000
set_option maxHeartbeats 16000000
attribute [local go_sem] refold2 cell3_0 cell3_1 b28_0 b28_01
noncomputable def bodyP2 : Code := (((pieceQ 12) |> firstLoop).getD .skip)
def L2Rp (k : Nat) (n : Int) (bq bx : Nat) (w : World) (i : Value) (wr : World) : Prop := ∃ (c : Nat) (x : MD) (pp : Option Addr) (pc : Nat), i = .int .i64 (c : Int) ∧ c ≤ k ∧ wr.heap[bq]? = some (.cells #[.int .i64 9, .string ⟨#[83]⟩, .int .i64 0, .int .u64 0, .string ⟨#[]⟩, .int .i64 1, .int .i64 0, .int .i64 0, .int .i64 0, .slice pp c pc, .slice none 0 0] 32) ∧ wr.heap[bx]? = some (.cells x.cells 32) ∧ MD.In wr.heap.size wr (5 + (k - c)) x ∧ MD.Avoid (fun i => i = bq ∨ i = bx) (5 + (k - c)) x ∧ MD.same (5 + (k - c)) (tow (base1 n) (k - c)) x = true ∧ OnesAt wr pp c ∧ c ≤ pc ∧ pc ≤ maxLen ∧ (c = 0 → pp = none) ∧ (∀ b o, pp = some ⟨b, o, none⟩ → w.heap.size ≤ b) ∧ Kp (fun i => i = bq ∨ i = bx) w wr
def L2P (k : Nat) (m : Int) (hb bd bp bt bq bx : Nat) (n : Int) (w : World) (a : Act) (wr : World) : Prop := ∃ (u : Nat → Value) (i : Value), L2Rp k n bq bx w i wr ∧ a = (GP (u 0) (u 1) (.int .i64 m) (.pointer (some ⟨hb, 0, none⟩)) (.pointer (some ⟨bd, 0, none⟩)) (.int .i64 (k : Int)) (u 11) (.pointer (some ⟨bp, 0, none⟩)) (u 13) (.pointer (some ⟨bt, 0, none⟩)) (u 15) (.pointer (some ⟨bq, 0, none⟩)) (.pointer (some ⟨bx, 0, none⟩)) i (u 23) (u 24) (u 25) (u 26) (u 27) (u 28) (u 29) (u 30) (u 31) (u 32) (u 33) (u 34) (u 35) (u 36) u)
theorem l2p_close (k : Nat) (m : Int) (hb bd bp bt bq bx : Nat) (n : Int) (w : World) (a : Act) (wr : World) (h : L2Rp k n bq bx w (a.tmps.getD 18 undef) wr) (ha : a = (GP (a.tmps.getD 0 undef) (a.tmps.getD 1 undef) (.int .i64 m) (.pointer (some ⟨hb, 0, none⟩)) (.pointer (some ⟨bd, 0, none⟩)) (.int .i64 (k : Int)) (a.tmps.getD 11 undef) (.pointer (some ⟨bp, 0, none⟩)) (a.tmps.getD 13 undef) (.pointer (some ⟨bt, 0, none⟩)) (a.tmps.getD 15 undef) (.pointer (some ⟨bq, 0, none⟩)) (.pointer (some ⟨bx, 0, none⟩)) (a.tmps.getD 18 undef) (a.tmps.getD 23 undef) (a.tmps.getD 24 undef) (a.tmps.getD 25 undef) (a.tmps.getD 26 undef) (a.tmps.getD 27 undef) (a.tmps.getD 28 undef) (a.tmps.getD 29 undef) (a.tmps.getD 30 undef) (a.tmps.getD 31 undef) (a.tmps.getD 32 undef) (a.tmps.getD 33 undef) (a.tmps.getD 34 undef) (a.tmps.getD 35 undef) (a.tmps.getD 36 undef) (fun k => a.tmps.getD k undef))) : L2P k m hb bd bp bt bq bx n w a wr := ⟨fun k => a.tmps.getD k undef, _, h, ha⟩
def L2Q (k : Nat) (m : Int) (hb bd bp bt bq bx : Nat) (w : World) (a : Act) (wr : World) : Prop := ∃ (pp : Option Addr) (pc : Nat), wr.heap[bq]? = some (.cells #[.int .i64 9, .string ⟨#[83]⟩, .int .i64 0, .int .u64 0, .string ⟨#[]⟩, .int .i64 1, .int .i64 0, .int .i64 0, .int .i64 0, .slice pp k pc, .slice none 0 0] 32) ∧ OnesAt wr pp k ∧ k ≤ pc ∧ pc ≤ maxLen ∧ (∀ b o, pp = some ⟨b, o, none⟩ → w.heap.size ≤ b) ∧ Kp (fun i => i = bq ∨ i = bx) w wr ∧ a = (GP (a.tmps.getD 0 undef) (a.tmps.getD 1 undef) (.int .i64 m) (.pointer (some ⟨hb, 0, none⟩)) (.pointer (some ⟨bd, 0, none⟩)) (.int .i64 (k : Int)) (a.tmps.getD 11 undef) (.pointer (some ⟨bp, 0, none⟩)) (a.tmps.getD 13 undef) (.pointer (some ⟨bt, 0, none⟩)) (a.tmps.getD 15 undef) (.pointer (some ⟨bq, 0, none⟩)) (.pointer (some ⟨bx, 0, none⟩)) (.int .i64 (k : Int)) (a.tmps.getD 23 undef) (a.tmps.getD 24 undef) (a.tmps.getD 25 undef) (a.tmps.getD 26 undef) (a.tmps.getD 27 undef) (a.tmps.getD 28 undef) (a.tmps.getD 29 undef) (a.tmps.getD 30 undef) (a.tmps.getD 31 undef) (a.tmps.getD 32 undef) (a.tmps.getD 33 undef) (a.tmps.getD 34 undef) (a.tmps.getD 35 undef) (a.tmps.getD 36 undef) (fun k => a.tmps.getD k undef))
def L2mp (k : Nat) (a : Act) (_ : World) : Nat := k - (intOf (a.tmps.getD 18 undef)).toNat
theorem loopP2 (k : Nat) (m : Int) (hb bd bp bt bq bx : Nat) (n : Int) (M ab1 ab2 : Nat) (d1 : MD) (hk6 : k ≤ 6) (w0 w : World) (u_w : Below w0.heap.size w0 w) (hN : ∀ W, Below w0.heap.size w0 W → NamesAt W) (h1_w : Held w hb M [.iface 84 (.pointer (some ⟨ab1, 0, none⟩)), .iface 84 (.pointer (some ⟨ab2, 0, none⟩))] 0 ab1 k (base1 n) d1) (hA1 : MD.Avoid (fun i => i = bq ∨ i = bx) (5 + k) d1) (hne : hb ≠ bq ∧ hb ≠ bx ∧ M ≠ bq ∧ M ≠ bx ∧ ab1 ≠ bq ∧ ab1 ≠ bx ∧ bp ≠ bq ∧ bp ≠ bx ∧ bq ≠ bx ∧ w0.heap.size ≤ bq ∧ w0.heap.size ≤ bx) (hlq : bq < w.heap.size ∧ bx < w.heap.size)
  (bp_w : w.heap[bp]? = some (.cells #[.int .i64 9, .string ⟨#[83]⟩, .int .i64 0, .int .u64 0, .string ⟨#[]⟩, .int .i64 1, .int .i64 0, .int .i64 0, .int .i64 0, .slice none 0 0, .slice none 0 0] 32)) (K : Act → World → Prop) (QQ : Exit → Act → World → Prop)
  (hK : ∀ (a : Act) (wr : World), L2Q k m hb bd bp bt bq bx w a wr → K a wr) (a1 : Act) (hI : L2P k m hb bd bp bt bq bx n w a1 w) :
  Code.wp Tryz.prog (Code.loop bodyP2) (Exit.inBlock 2 (Exit.then K QQ)) a1 w := by
 have HK : Hid _ := hK
 have HN : Hid _ := hN
 have HNE : Hid _ := hne
 clear hK hN hne
 refine wp_loop (L2P k m hb bd bp bt bq bx n w) (L2mp k) hI (fun a0 wr hGI => ?_)
 clear hI
 obtain ⟨u, i, ⟨c, x, pp, pc, rfl, hc, bqf_wr, bxf_wr, xi_wr, xav, xs, pO_wr, hcp, hcm, h0, hpl, kk_wr⟩, rfl⟩ := hGI
 have hws := kk_wr.size
 by_cases hlt : c < k
 ·have h1_wr := h1_w.apart kk_wr (by have := HNE.out; omega) (by have := HNE.out; omega) (by have := HNE.out; omega) hA1
  have bp_wr := (kk_wr.block _ (hblk bp_w) (by have := HNE.out; omega)).trans bp_w
  have nm_wr := HN.out _ (u_w.trans (kk_wr.below u_w.size fun i hi e => by have := HNE.out; omega))
  have i1 : (c : Int) < k := by omega
  clear h1_w bp_w hA1
  unfold GP
  conv => arg 2; whnf
  have cc := (cells_of bqf_wr).1
  go_wp2_with fail
  refine Calls.mono (h1_wr.read nm_wr c hc pp pc pO_wr hcp hcm) ?_
  rintro _ V1 ⟨was, rfl, wi, wa, ws, cV1⟩
  obtain ⟨was0, ew⟩ : ∃ x, x = was := ⟨_, rfl⟩
  rw [← ew] at wi wa ws
  obtain ⟨⟨k1, t1, n1, f1, s1, x1, y1, z1, u1, pp1, path1, pc1⟩, ip1, ic1, items1⟩ := was
  simp only [MD.val, D]
  clear cc wa
  have h1_V1 := Held.below h1_wr cV1
  have bp_V1 := (cV1.block _ (hblk bp_wr)).trans bp_wr
  have bqf_V1 := (cV1.block _ (hblk bqf_wr)).trans bqf_wr
  have bxf_V1 := (cV1.block _ (hblk bxf_wr)).trans bxf_wr
  have pO_V1 := OnesAt.below pO_wr cV1
  have nm_V1 := NamesAt.kept nm_wr cV1
  have kk_V1 := kk_wr.next cV1
  have xi_V1 := MD.In.mono cV1.size _ _ (MD.In.below cV1 _ _ xi_wr)
  clear h1_wr bp_wr bqf_wr bxf_wr pO_wr nm_wr kk_wr xi_wr
  have zs1 := cV1.size
  clear cV1
  have cc := (cells_of bqf_V1).1
  have lq := hblk bqf_V1
  go_wp2_with fail
  obtain ⟨V2, eV2, cV2, yV2, nV2⟩ := an V1 (.cells #[.int .i64 k1, .string t1, .int .i64 n1, .int .u64 f1, .string s1, .int .i64 x1, .int .i64 y1, .int .i64 z1, .int .i64 u1, .slice pp1 path1.length pc1, .slice ip1 items1.length ic1] 32)
  rw [← eV2]
  clear eV2
  have wi2 := MD.In.mono cV2.size _ _ (MD.In.below cV2 _ _ wi)
  have h1_V2 := Held.below h1_V1 cV2
  have bp_V2 := (cV2.block _ (hblk bp_V1)).trans bp_V1
  have bqf_V2 := (cV2.block _ (hblk bqf_V1)).trans bqf_V1
  have bxf_V2 := (cV2.block _ (hblk bxf_V1)).trans bxf_V1
  have pO_V2 := OnesAt.below pO_V1 cV2
  have nm_V2 := NamesAt.kept nm_V1 cV2
  have kk_V2 := kk_V1.next cV2
  have xi_V2 := MD.In.mono cV2.size _ _ (MD.In.below cV2 _ _ xi_V1)
  clear h1_V1 bp_V1 bqf_V1 bxf_V1 pO_V1 nm_V1 kk_V1 xi_V1
  clear cV2 cc lq wi
  refine Calls.mono (h1_V2.partAt nm_V2 c (by omega) pp pc pO_V2 h0 hcp hcm) ?_
  rintro _ V3 ⟨gp, gc, rfl, og, hgc, hgm, hgl, cV3⟩
  have wi3 := MD.In.mono cV3.size _ _ (MD.In.below cV3 _ _ wi2)
  have nw3 := (cV3.block _ (hblk nV2)).trans nV2
  have h1_V3 := Held.below h1_V2 cV3
  have bp_V3 := (cV3.block _ (hblk bp_V2)).trans bp_V2
  have bqf_V3 := (cV3.block _ (hblk bqf_V2)).trans bqf_V2
  have bxf_V3 := (cV3.block _ (hblk bxf_V2)).trans bxf_V2
  have pO_V3 := OnesAt.below pO_V2 cV3
  have nm_V3 := NamesAt.kept nm_V2 cV3
  have kk_V3 := kk_V2.next cV3
  have xi_V3 := MD.In.mono cV3.size _ _ (MD.In.below cV3 _ _ xi_V2)
  clear h1_V2 bp_V2 bqf_V2 bxf_V2 pO_V2 nm_V2 kk_V2 xi_V2
  have zs3 := cV3.size
  clear cV3 wi2 nV2 pO_V3
  have e1 : ((0 : Nat) : Int) + 1 = 1 := rfl
  simp only [ptrD, MD.val, D, List.length_replicate, List.length_nil, e1]
  clear e1
  obtain ⟨x0, ex⟩ : ∃ y, y = x := ⟨_, rfl⟩
  rw [← ex] at xi_V3 xav xs
  obtain ⟨⟨k3, t3, n3, f3, s3, x3, y3, z3, u3, pp3, path3, pc3⟩, ip3, ic3, items3⟩ := x
  simp only [MD.cells] at bxf_V3
  have HSM : Hid (∀ W, Below V3.heap.size V3 W → Calls Tryz.prog 19 #[.agg #[.int .i64 k1, .string t1, .int .i64 n1, .int .u64 f1, .string s1, .int .i64 x1, .int .i64 y1, .int .i64 z1, .int .i64 u1, .slice pp1 path1.length pc1, .slice ip1 items1.length ic1], .agg #[.int .i64 k3, .string t3, .int .i64 n3, .int .u64 f3, .string s3, .int .i64 x3, .int .i64 y3, .int .i64 z3, .int .i64 u3, .slice pp3 path3.length pc3, .slice ip3 items3.length ic3]] W fun r w' => r = .returned (.bool true) ∧ Below W.heap.size W w') := by
   have := same_call (5 + (k - c)) was0 x0 V3 wi3 xi_V3 (same_trans _ _ _ _ (same_comm _ _ _ ws) xs)
   rw [ew, ex] at this
   exact this
  have cw := (cells_of nw3).1
  have cx := (cells_of bxf_V3).1
  have lw := hblk nw3
  have lx := hblk bxf_V3
  clear wi3 ws ew
  go_wp2_with fail
  obtain ⟨V4, eV4, cV4, yV4, nV4⟩ := an V3 (.cells #[.int .i64 9, .string ⟨#[83]⟩, .int .i64 0, .int .u64 0, .string ⟨#[]⟩, .int .i64 1, .int .i64 0, .int .i64 0, .int .i64 0, .slice gp (c + 1) gc, .slice none 0 0] 32)
  rw [← eV4]
  clear eV4
  have h1_V4 := Held.below h1_V3 cV4
  have bp_V4 := (cV4.block _ (hblk bp_V3)).trans bp_V3
  have bqf_V4 := (cV4.block _ (hblk bqf_V3)).trans bqf_V3
  have bxf_V4 := (cV4.block _ (hblk bxf_V3)).trans bxf_V3
  have pO_V4 := OnesAt.below og cV4
  have nm_V4 := NamesAt.kept nm_V3 cV4
  have kk_V4 := kk_V3.next cV4
  have xi_V4 := MD.In.mono cV4.size _ _ (MD.In.below cV4 _ _ xi_V3)
  clear h1_V3 bp_V3 bqf_V3 bxf_V3 og nm_V3 kk_V3 xi_V3
  refine (HSM.out _ cV4).mono ?_
  clear cw cx lw lx nw3
  rintro _ V5 ⟨rfl, cV5⟩
  have np5 := (cV5.block _ (hblk nV4)).trans nV4
  have zs4 := cV4.size
  have h1_V5 := Held.below h1_V4 cV5
  have bp_V5 := (cV5.block _ (hblk bp_V4)).trans bp_V4
  have bqf_V5 := (cV5.block _ (hblk bqf_V4)).trans bqf_V4
  have bxf_V5 := (cV5.block _ (hblk bxf_V4)).trans bxf_V4
  have pO_V5 := OnesAt.below pO_V4 cV5
  have nm_V5 := NamesAt.kept nm_V4 cV5
  have kk_V5 := kk_V4.next cV5
  have xi_V5 := MD.In.mono cV5.size _ _ (MD.In.below cV5 _ _ xi_V4)
  clear h1_V4 bp_V4 bqf_V4 bxf_V4 pO_V4 nm_V4 kk_V4 xi_V4
  have zs5 := cV5.size
  clear cV5 cV4 nV4 HSM
  have cp := (cells_of np5).1
  have cb := (cells_of bp_V5).1
  obtain ⟨cq, fq⟩ := cells_of bqf_V5
  obtain ⟨cx, fx⟩ := cells_of bxf_V5
  subst ex
  obtain ⟨r, hr⟩ : ∃ r, k - c = r + 1 := ⟨k - c - 1, by omega⟩
  rw [hr] at xi_V5 xs xav
  obtain ⟨xa, xb, hit, _, hsb, _, _⟩ := tow_parts xs
  obtain rfl : items3 = [xa, xb] := hit
  obtain ⟨_, _, _, _, h5⟩ := (show MD.In V5.heap.size V5 (5 + r + 1) _ from xi_V5)
  obtain ⟨_, av2, av3⟩ := (show MD.Avoid (fun i => i = bq ∨ i = bx) (5 + r + 1) _ from xav)
  rcases h5 with h5 | ⟨gi, oi, e1, e2, e3⟩
  ·cases h5
  obtain rfl : ip3 = some ⟨gi, oi, none⟩ := e1
  have hgi : ¬ (gi = bq ∨ gi = bx) := by
   rcases av2 with e | e
   ·cases e
   ·exact e gi oi rfl
  have hCb : MD.CellsAt V5 gi (oi + 1 * 11) xb ∧ MD.In V5.heap.size V5 (5 + r) xb := e3 1 (by simp)
  have hAb : MD.Avoid (fun i => i = bq ∨ i = bx) (5 + r) xb := av3 xb (by simp)
  have H : Hid (MD.In V5.heap.size V5 (5 + r) xb ∧ MD.Avoid (fun i => i = bq ∨ i = bx) (5 + r) xb ∧ MD.same (5 + r) (tow (base1 n) r) xb = true) := ⟨hCb.2, hAb, hsb⟩
  have hC := hCb.1
  have HO5 : Hid (OnesAt V5 gp (c + 1)) := pO_V5
  clear e3 xi_V5 xs xav av2 av3 hCb hAb hsb pO_V5
  obtain ⟨e4, he4⟩ : ∃ e4, e4 = xb := ⟨_, rfl⟩
  rw [← he4] at H
  have hec : e4.cells = xb.cells := by rw [he4]
  obtain ⟨⟨k4, t4, n4, f4, s4, x4, y4, z4, u4, pp4, path4, pc4⟩, ip4, ic4, items4⟩ := xb
  simp only [MD.cells] at hec
  have r0 : V5.cell? ⟨gi, oi + 1 * 11, none⟩ = some (.int .i64 k4) := hC 0 (by omega)
  have r1 : V5.cell? ⟨gi, oi + 1 * 11 + 1, none⟩ = some (.string t4) := hC 1 (by omega)
  have r2 : V5.cell? ⟨gi, oi + 1 * 11 + 2, none⟩ = some (.int .i64 n4) := hC 2 (by omega)
  have r3 : V5.cell? ⟨gi, oi + 1 * 11 + 3, none⟩ = some (.int .u64 f4) := hC 3 (by omega)
  have r4 : V5.cell? ⟨gi, oi + 1 * 11 + 4, none⟩ = some (.string s4) := hC 4 (by omega)
  have r5 : V5.cell? ⟨gi, oi + 1 * 11 + 5, none⟩ = some (.int .i64 x4) := hC 5 (by omega)
  have r6 : V5.cell? ⟨gi, oi + 1 * 11 + 6, none⟩ = some (.int .i64 y4) := hC 6 (by omega)
  have r7 : V5.cell? ⟨gi, oi + 1 * 11 + 7, none⟩ = some (.int .i64 z4) := hC 7 (by omega)
  have r8 : V5.cell? ⟨gi, oi + 1 * 11 + 8, none⟩ = some (.int .i64 u4) := hC 8 (by omega)
  have r9 : V5.cell? ⟨gi, oi + 1 * 11 + 9, none⟩ = some (.slice pp4 path4.length pc4) := hC 9 (by omega)
  have r10 : V5.cell? ⟨gi, oi + 1 * 11 + 10, none⟩ = some (.slice ip4 items4.length ic4) := hC 10 (by omega)
  have HEC : Hid (e4.cells = _) := hec
  have q1 : gi ≠ bq := fun e => hgi (.inl e)
  have q2 : gi ≠ bx := fun e => hgi (.inr e)
  have q3 : bx ≠ bq := fun e => HNE.out.2.2.2.2.2.2.2.2.1 e.symm
  have q4 : bq ≠ bx := fun e => q3 e.symm
  have HSZ : Hid (w.heap.size ≤ V5.heap.size ∧ bq < V5.heap.size ∧ bx < V5.heap.size) := ⟨kk_V5.size, hblk bqf_V5, hblk bxf_V5⟩
  have HG : Hid (∀ b o, gp = some ⟨b, o, none⟩ → w.heap.size ≤ b) := fun b o e => Nat.le_trans (Nat.le_trans hws (Nat.le_trans zs1 (by omega))) (hgl b o e)
  clear hC he4 hec e2 hgi hgl zs1 zs3 zs4 zs5 hws
  go_wp2_with fail
  have kU8 := kp_eleven V5 (bq) (.int .i64 9) (.string ⟨#[83]⟩) (.int .i64 0) (.int .u64 0) (.string ⟨#[]⟩) (.int .i64 1) (.int .i64 0) (.int .i64 0) (.int .i64 0) (.slice gp (c + 1) gc) (.slice none 0 0)
  have hrU8 := eleven_over bqf_V5 (.int .i64 9) (.string ⟨#[83]⟩) (.int .i64 0) (.int .u64 0) (.string ⟨#[]⟩) (.int .i64 1) (.int .i64 0) (.int .i64 0) (.int .i64 0) (.slice gp (c + 1) gc) (.slice none 0 0)
  obtain ⟨U8, hU8⟩ : ∃ W, W = (((((((((((V5.setCell ⟨bq, 0, none⟩ (.int .i64 9)).setCell ⟨bq, 1, none⟩ (.string ⟨#[83]⟩)).setCell ⟨bq, 2, none⟩ (.int .i64 0)).setCell ⟨bq, 3, none⟩ (.int .u64 0)).setCell ⟨bq, 4, none⟩ (.string ⟨#[]⟩)).setCell ⟨bq, 5, none⟩ (.int .i64 1)).setCell ⟨bq, 6, none⟩ (.int .i64 0)).setCell ⟨bq, 7, none⟩ (.int .i64 0)).setCell ⟨bq, 8, none⟩ (.int .i64 0)).setCell ⟨bq, 9, none⟩ (.slice gp (c + 1) gc)).setCell ⟨bq, 10, none⟩ (.slice none 0 0)) := ⟨_, rfl⟩
  rw [← hU8] at kU8 hrU8 ⊢
  clear hU8
  have rcU8 := (cells_of hrU8).1
  have bx8 := (kU8.block _ HSZ.out.2.2 q3).trans bxf_V5
  have kU9 := kp_eleven U8 (bx) (.int .i64 k4) (.string t4) (.int .i64 n4) (.int .u64 f4) (.string s4) (.int .i64 x4) (.int .i64 y4) (.int .i64 z4) (.int .i64 u4) (.slice pp4 path4.length pc4) (.slice ip4 items4.length ic4)
  have hrU9 := eleven_over bx8 (.int .i64 k4) (.string t4) (.int .i64 n4) (.int .u64 f4) (.string s4) (.int .i64 x4) (.int .i64 y4) (.int .i64 z4) (.int .i64 u4) (.slice pp4 path4.length pc4) (.slice ip4 items4.length ic4)
  obtain ⟨U9, hU9⟩ : ∃ W, W = (((((((((((U8.setCell ⟨bx, 0, none⟩ (.int .i64 k4)).setCell ⟨bx, 1, none⟩ (.string t4)).setCell ⟨bx, 2, none⟩ (.int .i64 n4)).setCell ⟨bx, 3, none⟩ (.int .u64 f4)).setCell ⟨bx, 4, none⟩ (.string s4)).setCell ⟨bx, 5, none⟩ (.int .i64 x4)).setCell ⟨bx, 6, none⟩ (.int .i64 y4)).setCell ⟨bx, 7, none⟩ (.int .i64 z4)).setCell ⟨bx, 8, none⟩ (.int .i64 u4)).setCell ⟨bx, 9, none⟩ (.slice pp4 path4.length pc4)).setCell ⟨bx, 10, none⟩ (.slice ip4 items4.length ic4)) := ⟨_, rfl⟩
  rw [← hU9] at kU9 hrU9 ⊢
  clear hU9
  have rcU9 := (cells_of hrU9).1
  have k9 : Kp (fun i => i = bq ∨ i = bx) V5 U9 := Kp.trans (S := (fun i => i = bq ∨ i = bx)) ⟨kU8.os, kU8.tape, kU8.output, kU8.size, fun i h1 h2 => kU8.block i h1 (fun e => h2 (.inl e))⟩ kU9 fun i _ e => .inr e
  have zz := HSZ.out
  refine ⟨l2p_close _ _ _ _ _ _ _ _ _ _ _ _ ⟨c + 1, e4, gp, gc, by simp, hlt, (kU9.block _ (Nat.lt_of_lt_of_le zz.2.1 kU8.size) q4).trans hrU8, ?_, ?_, ?_, ?_, ?_, hgc, hgm, fun e => by omega, HG.out, kk_V5.trans k9 fun _ _ e => e⟩ rfl, by simp [L2mp, intOf]; omega⟩
  ·rw [HEC.out]; exact hrU9
  ·rw [show k - (c + 1) = r by omega]; exact MD.In.mono k9.size _ _ (MD.In.apart (S := (fun i => i = bq ∨ i = bx)) (fun i h1 h2 => k9.block i h2 h1) _ _ H.out.1 H.out.2.1)
  ·rw [show k - (c + 1) = r by omega]; exact H.out.2.1
  ·rw [show k - (c + 1) = r by omega]; exact H.out.2.2
  ·rcases HO5.out with e | ⟨g, o, e1, e2, e3⟩
   ·exact .inl e
   ·have := HG.out g o e1
    exact .inr ⟨g, o, e1, Nat.lt_of_lt_of_le e2 k9.size, fun i hi => (World.cell?_of_block (a := ⟨g, o + i, none⟩) (k9.block _ e2 (fun e => by have q : g = bq ∨ g = bx := e; omega))).trans (e3 i hi)⟩
 ·have hck : c = k := by omega
  subst hck
  have i1 : ¬ (c : Int) < c := by omega
  unfold GP
  conv => arg 2; whnf
  have HQ : Hid (wr.heap[bq]? = some (.cells #[.int .i64 9, .string ⟨#[83]⟩, .int .i64 0, .int .u64 0, .string ⟨#[]⟩, .int .i64 1, .int .i64 0, .int .i64 0, .int .i64 0, .slice pp c pc, .slice none 0 0] 32) ∧ OnesAt wr pp c ∧ c ≤ pc ∧ pc ≤ maxLen ∧ (∀ b o, pp = some ⟨b, o, none⟩ → w.heap.size ≤ b) ∧ Kp (fun i => i = bq ∨ i = bx) w wr) := ⟨bqf_wr, pO_wr, hcp, hcm, hpl, kk_wr⟩
  clear bqf_wr bxf_wr xi_wr xav xs pO_wr hcp hcm h0 hpl kk_wr h1_w hA1 bp_w
  go_wp2_with fail
  refine HK.out _ _ ?_
  exact ⟨pp, pc, HQ.out.1, HQ.out.2.1, HQ.out.2.2.1, HQ.out.2.2.2.1, HQ.out.2.2.2.2.1, HQ.out.2.2.2.2.2, rfl⟩
end Go.Proofs.YtdbijkgnddcneaaGreatDoor
namespace Go.Proofs.YtdbijkgnddcneaaGreatDoor
open Go.RowKit Go.ChangeMaps
set_option maxRecDepth 1000000
set_option maxHeartbeats 16000000
attribute [local go_sem] refold2 cell3_0 cell3_1 b28_0 b28_01
theorem tail12 (k : Nat) (m n : Int) (hb M ab1 ab2 bd bp bt bq bx : Nat) (dd d1 d2 : MD) (u : Nat → Value) (w0 w : World) (hk6 : k ≤ 6) (hx : FlatR (wholeD m)) (hN : ∀ W, Below w0.heap.size w0 W → NamesAt W) (u_w : Below w0.heap.size w0 w) (hch : w0.heap.size ≤ hb ∧ w0.heap.size ≤ M ∧ hb < bd ∧ M < bd ∧ bd < ab1 ∧ ab1 < bp ∧ bp < ab2 ∧ ab2 < bt ∧ bt < bq ∧ bq < bx ∧ bx < w.heap.size)
  (dB : BoxD w (5 + k) bd (tow (base1 n) k) dd) (h1 : Held w hb M [.iface 84 (.pointer (some ⟨ab1, 0, none⟩)), .iface 84 (.pointer (some ⟨ab2, 0, none⟩))] 0 ab1 k (base1 n) d1) (h2 : Held w hb M [.iface 84 (.pointer (some ⟨ab1, 0, none⟩)), .iface 84 (.pointer (some ⟨ab2, 0, none⟩))] 1 ab2 k (base1 n) d2)
  (bp_w : w.heap[bp]? = some (.cells #[.int .i64 9, .string ⟨#[83]⟩, .int .i64 0, .int .u64 0, .string ⟨#[]⟩, .int .i64 1, .int .i64 0, .int .i64 0, .int .i64 0, .slice none 0 0, .slice none 0 0] 32)) (bt_w : w.heap[bt]? = some (.cells #[.int .i64 9, .string ⟨#[83]⟩, .int .i64 0, .int .u64 0, .string ⟨#[]⟩, .int .i64 2, .int .i64 0, .int .i64 0, .int .i64 0, .slice none 0 0, .slice none 0 0] 32)) (bq_w : w.heap[bq]? = some (.cells #[.int .i64 9, .string ⟨#[83]⟩, .int .i64 0, .int .u64 0, .string ⟨#[]⟩, .int .i64 1, .int .i64 0, .int .i64 0, .int .i64 0, .slice none 0 0, .slice none 0 0] 32)) (bx_w : w.heap[bx]? = some (.cells dd.cells 32))
  (dI : MD.In ab1 w (5 + k) dd) (d1I : MD.In bp w (5 + k) d1) (d2I : MD.In bt w (5 + k) d2) (d2A : MD.Above bp (5 + k) d2) :
  Code.wp Tryz.prog (pieceQ 12) (bodyPost Tryz.prog Tryz.f4 fun r w' => r = .returned (.bool true) ∧ Below w0.heap.size w0 w') (GP (u 0) (u 1) (.int .i64 m) (.pointer (some ⟨hb, 0, none⟩)) (.pointer (some ⟨bd, 0, none⟩)) (.int .i64 (k : Int)) (u 11) (.pointer (some ⟨bp, 0, none⟩)) (u 13) (.pointer (some ⟨bt, 0, none⟩)) (u 15) (.pointer (some ⟨bq, 0, none⟩)) (.pointer (some ⟨bx, 0, none⟩)) (u 18) (u 23) (u 24) (u 25) (u 26) (u 27) (u 28) (u 29) (u 30) (u 31) (u 32) (u 33) (u 34) (u 35) (u 36) u) w := by
 have hA1 : MD.Avoid (fun i => i = bq ∨ i = bx) (5 + k) d1 := MD.In.avoid (fun i hi e => by omega) _ _ d1I
 have hA2 : MD.Avoid (fun i => i = bq ∨ i = bx) (5 + k) d2 := MD.In.avoid (fun i hi e => by omega) _ _ d2I
 have hAd : MD.Avoid (fun i => i = bq ∨ i = bx) (5 + k) dd := MD.In.avoid (fun i hi e => by omega) _ _ dI
 have hB1 : MD.Avoid (· = ab1) (5 + k) d2 := MD.Above.avoid (lo := bp) (fun i hi e => by omega) _ _ d2A
 have hBd : MD.Avoid (· = ab1) (5 + k) dd := MD.In.avoid (fun i hi e => by omega) _ _ dI
 have TAIL : ∀ (a : Act) (wr : World), L2Q k m hb bd bp bt bq bx w a wr → Code.wp Tryz.prog (pieceQ 13) (bodyPost Tryz.prog Tryz.f4 fun r w' => r = .returned (.bool true) ∧ Below w0.heap.size w0 w') a wr := fun a wr hE => by
  obtain ⟨pp, pc, e1, e2, e3, e4, e5, hK, ha⟩ := hE
  have ur : Below w0.heap.size w0 wr := u_w.trans (hK.below u_w.size fun i hi e => by omega)
  refine tail13q k m n hb M ab1 ab2 bd bp bt bq pp pc dd d1 d2 w0 wr hk6 e3 e4 hx ur (hN _ ur) (dB.apart hK (by omega) hAd) (h1.apart hK (by omega) (by omega) (by omega) hA1) (h2.apart hK (by omega) (by omega) (by omega) hA2) ((hK.block _ (hblk bp_w) (by omega)).trans bp_w) ((hK.block _ (hblk bt_w) (by omega)).trans bt_w) e1 e2 ⟨hBd, hB1⟩ ⟨by omega, by omega, by omega, by omega, by omega⟩ ⟨by omega, by omega⟩ (fun b o e => by have := e5 b o e; omega) (by omega) hN a ?_
  rw [ha]
  rfl
 have TL : Hid _ := TAIL
 have HI : Hid (L2Rp k n bq bx w (.int .i64 0) w) := ⟨0, dd, none, 0, rfl, Nat.zero_le _, bq_w, bx_w, dB.inn, hAd, dB.same, .inl rfl, Nat.le_refl _, Nat.zero_le _, fun _ => rfl, (fun b o e => by cases e), Kp.refl _ _⟩
 have HCH : Hid _ := hch
 clear TAIL dB h2 bt_w bq_w bx_w dI d1I d2I d2A hA2 hAd hB1 hBd hx hch
 try unfold GP
 conv => arg 2; whnf
 refine wp_seq_k ?_
 intro K12 hK12
 have HK12 : Hid (∀ (a : Act) (w : World), Code.wp Tryz.prog (pieceQ 13) (bodyPost Tryz.prog Tryz.f4 fun r w' => r = .returned (.bool true) ∧ Below w0.heap.size w0 w') a w → K12 a w) := hK12
 clear hK12
 go_wp2_with fail
 refine loopP2 k m hb bd bp bt bq bx n M ab1 ab2 d1 hk6 w0 w u_w hN h1 hA1 ?_ ?_ bp_w _ _ (fun a wr hE => ?_) _ (l2p_close _ _ _ _ _ _ _ _ _ _ _ _ HI.out rfl)
 ·have := HCH.out; exact ⟨by omega, by omega, by omega, by omega, by omega, by omega, by omega, by omega, by omega, by omega, by omega⟩
 ·have := HCH.out; exact ⟨by omega, by omega⟩
 ·exact HK12.out _ _ (TL.out a wr hE)
theorem tail12q (k : Nat) (m n : Int) (hb M ab1 ab2 bd bp bt bq bx : Nat) (dd d1 d2 : MD) (w0 w : World) (hk6 : k ≤ 6) (hx : FlatR (wholeD m)) (hN : ∀ W, Below w0.heap.size w0 W → NamesAt W) (u_w : Below w0.heap.size w0 w) (hch : w0.heap.size ≤ hb ∧ w0.heap.size ≤ M ∧ hb < bd ∧ M < bd ∧ bd < ab1 ∧ ab1 < bp ∧ bp < ab2 ∧ ab2 < bt ∧ bt < bq ∧ bq < bx ∧ bx < w.heap.size)
  (dB : BoxD w (5 + k) bd (tow (base1 n) k) dd) (h1 : Held w hb M [.iface 84 (.pointer (some ⟨ab1, 0, none⟩)), .iface 84 (.pointer (some ⟨ab2, 0, none⟩))] 0 ab1 k (base1 n) d1) (h2 : Held w hb M [.iface 84 (.pointer (some ⟨ab1, 0, none⟩)), .iface 84 (.pointer (some ⟨ab2, 0, none⟩))] 1 ab2 k (base1 n) d2)
  (bp_w : w.heap[bp]? = some (.cells #[.int .i64 9, .string ⟨#[83]⟩, .int .i64 0, .int .u64 0, .string ⟨#[]⟩, .int .i64 1, .int .i64 0, .int .i64 0, .int .i64 0, .slice none 0 0, .slice none 0 0] 32)) (bt_w : w.heap[bt]? = some (.cells #[.int .i64 9, .string ⟨#[83]⟩, .int .i64 0, .int .u64 0, .string ⟨#[]⟩, .int .i64 2, .int .i64 0, .int .i64 0, .int .i64 0, .slice none 0 0, .slice none 0 0] 32)) (bq_w : w.heap[bq]? = some (.cells #[.int .i64 9, .string ⟨#[83]⟩, .int .i64 0, .int .u64 0, .string ⟨#[]⟩, .int .i64 1, .int .i64 0, .int .i64 0, .int .i64 0, .slice none 0 0, .slice none 0 0] 32)) (bx_w : w.heap[bx]? = some (.cells dd.cells 32))
  (dI : MD.In ab1 w (5 + k) dd) (d1I : MD.In bp w (5 + k) d1) (d2I : MD.In bt w (5 + k) d2) (d2A : MD.Above bp (5 + k) d2) (a : Act) (ha : a = (GP (a.tmps.getD 0 undef) (a.tmps.getD 1 undef) (.int .i64 m) (.pointer (some ⟨hb, 0, none⟩)) (.pointer (some ⟨bd, 0, none⟩)) (.int .i64 (k : Int)) (a.tmps.getD 11 undef) (.pointer (some ⟨bp, 0, none⟩)) (a.tmps.getD 13 undef) (.pointer (some ⟨bt, 0, none⟩)) (a.tmps.getD 15 undef) (.pointer (some ⟨bq, 0, none⟩)) (.pointer (some ⟨bx, 0, none⟩)) (a.tmps.getD 18 undef) (a.tmps.getD 23 undef) (a.tmps.getD 24 undef) (a.tmps.getD 25 undef) (a.tmps.getD 26 undef) (a.tmps.getD 27 undef) (a.tmps.getD 28 undef) (a.tmps.getD 29 undef) (a.tmps.getD 30 undef) (a.tmps.getD 31 undef) (a.tmps.getD 32 undef) (a.tmps.getD 33 undef) (a.tmps.getD 34 undef) (a.tmps.getD 35 undef) (a.tmps.getD 36 undef) (fun k => a.tmps.getD k undef))) :
  Code.wp Tryz.prog (pieceQ 12) (bodyPost Tryz.prog Tryz.f4 fun r w' => r = .returned (.bool true) ∧ Below w0.heap.size w0 w') a w := by
 rw [ha]
 exact tail12 k m n hb M ab1 ab2 bd bp bt bq bx dd d1 d2 (fun k => a.tmps.getD k undef) w0 w hk6 hx hN u_w hch dB h1 h2 bp_w bt_w bq_w bx_w dI d1I d2I d2A
theorem tail7 (k : Nat) (m n : Int) (hb M bd L : Nat) (dd : MD) (u : Nat → Value) (w0 w : World) (hk6 : k ≤ 6) (hx : FlatR (wholeD m)) (hn : FlatR (wholeD n)) (hN : ∀ W, Below w0.heap.size w0 W → NamesAt W) (u_w : Below w0.heap.size w0 w) (hch : w0.heap.size ≤ hb ∧ w0.heap.size ≤ M ∧ hb < L ∧ M < L ∧ L ≤ bd) (h_w : HeapAt w hb M []) (dB_w : BoxD w (5 + k) bd (tow (base1 n) k) dd) (dA : MD.Above L (5 + k) dd) (hz : FlatR zeroD) :
  Code.wp Tryz.prog (pieceQ 7) (bodyPost Tryz.prog Tryz.f4 fun r w' => r = .returned (.bool true) ∧ Below w0.heap.size w0 w') (GP (u 0) (u 1) (.int .i64 m) (.pointer (some ⟨hb, 0, none⟩)) (.pointer (some ⟨bd, 0, none⟩)) (.int .i64 (k : Int)) (u 11) (u 12) (u 13) (u 14) (u 15) (u 16) (u 17) (u 18) (u 23) (u 24) (u 25) (u 26) (u 27) (u 28) (u 29) (u 30) (u 31) (u 32) (u 33) (u 34) (u 35) (u 36) u) w := by
 have HN : Hid _ := hN
 have hfull : MD.full 5 (base1 n) = true := pairE_full (full_of hn.right) (full_of hz.right)
 have hsize : MD.size 5 (base1 n) = 3 := by
  show MD.size (4 + 1) (pairE 0 (wholeD n) zeroD) = 3
  rw [pairE_size, flat_size (whole_k _), flat_size (by decide)]
 have hright : MD.right (5 + k) dd = true := (same_right _ _ _ dB_w.same).symm.trans (tow_right hfull hsize k (by omega))
 have hlb := hblk dB_w.box
 have hav : MD.Avoid (fun i => i = hb ∨ i = M) (5 + k) dd := MD.Above.avoid (lo := L) (fun i hi e => by omega) _ _ dA
 have hdt := tow_head (base := base1 n) ⟨rfl, rfl⟩ k
 obtain ⟨j, hj⟩ : ∃ j, 5 + k = j + 1 := ⟨4 + k, by omega⟩
 have hsp := same_parts (n := j) (show MD.same (j + 1) (tow (base1 n) k) dd = true by rw [← hj]; exact dB_w.same)
 obtain ⟨dd0, ed⟩ : ∃ x, x = dd := ⟨_, rfl⟩
 rw [← ed] at dB_w dA hright hav hsp
 obtain ⟨⟨k1, t1, n1, f1, s1, x1, y1, z1, u1, pp1, path1, pc1⟩, ip1, ic1, items1⟩ := dd
 have HOB : Hid (∀ (vs : List Value) (hl : vs.length < 1000) (W : World), NamesAt W → HeapAt W hb M vs → MD.In W.heap.size W (5 + k) dd0 → Calls Tryz.prog 16 #[.pointer (some ⟨hb, 0, none⟩), .agg #[.int .i64 k1, .string t1, .int .i64 n1, .int .u64 f1, .string s1, .int .i64 x1, .int .i64 y1, .int .i64 z1, .int .i64 u1, .slice pp1 path1.length pc1, .slice ip1 items1.length ic1]] W fun r w' => r = .returned (.tuple #[(leadD 9 ⟨#[83]⟩ ((vs.length : Int) + 1) 0 0 0).val, .nilIface]) ∧
   ∃ (ab : Nat) (d : MD), HeapAt w' hb M (vs ++ [.iface 84 (.pointer (some ⟨ab, 0, none⟩))]) ∧ w'.heap[ab]? = some (.cells d.cells 86) ∧ W.heap.size ≤ ab ∧ MD.In w'.heap.size w' (5 + k) d ∧ MD.Above W.heap.size (5 + k) d ∧ MD.same (5 + k) dd0 d = true ∧ Kp (fun b => b = hb ∨ b = M) W w') := fun vs hl W hNW hW hI => by
  have h8 := hsp.1.trans hdt.1
  have ht := hsp.2.1.trans hdt.2
  have hf := full_of hright
  clear hsp hdt hav dA dB_w
  subst ed
  obtain rfl : k1 = 8 := h8
  obtain rfl : t1 = ⟨#[83]⟩ := ht
  exact Object_any hb M vs hl (5 + k) ⟨#[83]⟩ (by decide) n1 f1 s1 x1 y1 z1 u1 pp1 path1 pc1 ip1 ic1 items1 W hNW hW hI hright hf
 have EC : Hid (dd0.cells = #[.int .i64 k1, .string t1, .int .i64 n1, .int .u64 f1, .string s1, .int .i64 x1, .int .i64 y1, .int .i64 z1, .int .i64 u1, .slice pp1 path1.length pc1, .slice ip1 items1.length ic1]) := by rw [ed]; rfl
 have e1 : (([] : List Value).length : Int) + 1 = 1 := rfl
 have hds := dB_w.same
 have dI_w := dB_w.inn
 clear hsp hdt ed dA hright hsize hj
 have cc : ∀ j, w.cell? ⟨bd, j, none⟩ = (#[.int .i64 k1, .string t1, .int .i64 n1, .int .u64 f1, .string s1, .int .i64 x1, .int .i64 y1, .int .i64 z1, .int .i64 u1, .slice pp1 path1.length pc1, .slice ip1 items1.length ic1] : Array Value)[j]? := by have := (cells_of dB_w.box).1; rwa [EC.out] at this
 try unfold GP
 conv => arg 2; whnf
 refine wp_seq_k ?_
 intro K7 hK7
 have HK7 : Hid (∀ (a : Act) (w : World), Code.wp Tryz.prog (pieceQ 8) (bodyPost Tryz.prog Tryz.f4 fun r w' => r = .returned (.bool true) ∧ Below w0.heap.size w0 w') a w → K7 a w) := hK7
 clear hK7
 go_wp2_with fail
 refine Calls.mono (HOB.out [] (by decide) w (HN.out _ u_w) h_w dB_w.inn) ?_
 rintro _ V1 ⟨rfl, ab1, d1, h_V1, a1_V1, hl1, d1i, d1a, d1s, kV1⟩
 have u_V1 : Below w0.heap.size w0 V1 := u_w.trans (kV1.below u_w.size fun i hi e => by omega)
 have dB_V1 := dB_w.apart kV1 (by omega) hav
 have dI_V1 : MD.In w.heap.size V1 (5 + k) dd0 := MD.In.apart (S := fun i => i = hb ∨ i = M) (fun i h1 h2 => kV1.block i h2 h1) _ _ dI_w hav
 have la1 := hblk a1_V1
 have zs1 := kV1.size
 have av1 : MD.Avoid (fun i => i = hb ∨ i = M) (5 + k) d1 := MD.Above.avoid (lo := w.heap.size) (fun i hi e => by omega) _ _ d1a
 clear kV1 dB_w dI_w h_w u_w cc d1a
 simp only [leadD, MD.val, D, e1]
 go_wp2_with fail
 obtain ⟨V2, eV2, cV2, yV2, nV2⟩ := an V1 (.cells #[.int .i64 9, .string ⟨#[83]⟩, .int .i64 0, .int .u64 0, .string ⟨#[]⟩, .int .i64 1, .int .i64 0, .int .i64 0, .int .i64 0, .slice none 0 0, .slice none 0 0] 32)
 rw [← eV2]
 clear eV2
 have u_V2 := u_V1.trans (cV2.mono u_V1.size)
 have dB_V2 := dB_V1.below cV2
 have h_V2 := h_V1.below cV2
 have a1_V2 := (cV2.block _ la1).trans a1_V1
 have dI_V2 := MD.In.below (cV2.mono zs1) _ _ dI_V1
 have d1I_V2 : MD.In V1.heap.size V2 (5 + k) d1 := MD.In.below cV2 _ _ d1i
 have l2 : hb < V2.heap.size ∧ M < V2.heap.size := ⟨hblk h_V2.box, hblk h_V2.map⟩
 clear cV2 u_V1 dB_V1 h_V1 a1_V1 dI_V1 d1i
 refine HK7.out _ _ ?_
 clear HK7
 have e2 : (([.iface 84 (.pointer (some ⟨ab1, 0, none⟩))] : List Value).length : Int) + 1 = 2 := rfl
 have cc : ∀ j, V2.cell? ⟨bd, j, none⟩ = (#[.int .i64 k1, .string t1, .int .i64 n1, .int .u64 f1, .string s1, .int .i64 x1, .int .i64 y1, .int .i64 z1, .int .i64 u1, .slice pp1 path1.length pc1, .slice ip1 items1.length ic1] : Array Value)[j]? := by have := (cells_of dB_V2.box).1; rwa [EC.out] at this
 try unfold GP
 conv => arg 2; whnf
 refine wp_seq_k ?_
 intro K8 hK8
 have HK8 : Hid (∀ (a : Act) (w : World), Code.wp Tryz.prog (pieceQ 9) (bodyPost Tryz.prog Tryz.f4 fun r w' => r = .returned (.bool true) ∧ Below w0.heap.size w0 w') a w → K8 a w) := hK8
 clear hK8
 go_wp2_with fail
 refine Calls.mono (HOB.out [.iface 84 (.pointer (some ⟨ab1, 0, none⟩))] (by simp) V2 (HN.out _ u_V2) h_V2 dB_V2.inn) ?_
 rintro _ V3 ⟨rfl, ab2, d2, h_V3, a2_V3, hl2, d2i, d2a, d2s, kV3⟩
 have u_V3 : Below w0.heap.size w0 V3 := u_V2.trans (kV3.below u_V2.size fun i hi e => by omega)
 have dB_V3 := dB_V2.apart kV3 (by omega) hav
 have dI_V3 : MD.In w.heap.size V3 (5 + k) dd0 := MD.In.apart (S := fun i => i = hb ∨ i = M) (fun i h1 h2 => kV3.block i (by omega) h1) _ _ dI_V2 hav
 have d1I_V3 : MD.In V1.heap.size V3 (5 + k) d1 := MD.In.apart (S := fun i => i = hb ∨ i = M) (fun i h1 h2 => kV3.block i (by omega) h1) _ _ d1I_V2 av1
 have a1_V3 := (kV3.block _ (hblk a1_V2) (by omega)).trans a1_V2
 have bp_V3 := (kV3.block _ (hblk nV2) (by omega)).trans nV2
 have la2 := hblk a2_V3
 have zs3 := kV3.size
 clear kV3 dB_V2 dI_V2 h_V2 u_V2 cc hav av1 d1I_V2 a1_V2 nV2
 simp only [leadD, MD.val, D, e2]
 go_wp2_with fail
 obtain ⟨V4, eV4, cV4, yV4, nV4⟩ := an V3 (.cells #[.int .i64 9, .string ⟨#[83]⟩, .int .i64 0, .int .u64 0, .string ⟨#[]⟩, .int .i64 2, .int .i64 0, .int .i64 0, .int .i64 0, .slice none 0 0, .slice none 0 0] 32)
 rw [← eV4]
 clear eV4
 have u_V4 := u_V3.trans (cV4.mono u_V3.size)
 have dB_V4 := dB_V3.below cV4
 have h_V4 := h_V3.below cV4
 have a1_V4 := (cV4.block _ (hblk a1_V3)).trans a1_V3
 have a2_V4 := (cV4.block _ la2).trans a2_V3
 have bp_V4 := (cV4.block _ (hblk bp_V3)).trans bp_V3
 have dI_V4 := MD.In.below (cV4.mono (by omega)) _ _ dI_V3
 have d1I_V4 := MD.In.below (cV4.mono (by omega)) _ _ d1I_V3
 have d2I_V4 : MD.In V3.heap.size V4 (5 + k) d2 := MD.In.below cV4 _ _ d2i
 clear cV4 u_V3 dB_V3 h_V3 a1_V3 a2_V3 bp_V3 dI_V3 d1I_V3 d2i
 refine HK8.out _ _ ?_
 clear HK8
 try unfold GP
 conv => arg 2; whnf
 refine wp_seq_k ?_
 intro K9 hK9
 have HK9 : Hid (∀ (a : Act) (w : World), Code.wp Tryz.prog (pieceQ 10) (bodyPost Tryz.prog Tryz.f4 fun r w' => r = .returned (.bool true) ∧ Below w0.heap.size w0 w') a w → K9 a w) := hK9
 clear hK9
 go_wp2_with fail
 refine HK9.out _ _ ?_
 clear HK9
 have cc := (cells_of bp_V4).1
 try unfold GP
 conv => arg 2; whnf
 refine wp_seq_k ?_
 intro K10 hK10
 have HK10 : Hid (∀ (a : Act) (w : World), Code.wp Tryz.prog (pieceQ 11) (bodyPost Tryz.prog Tryz.f4 fun r w' => r = .returned (.bool true) ∧ Below w0.heap.size w0 w') a w → K10 a w) := hK10
 clear hK10
 go_wp2_with fail
 obtain ⟨V5, eV5, cV5, yV5, nV5⟩ := an V4 (.cells #[.int .i64 9, .string ⟨#[83]⟩, .int .i64 0, .int .u64 0, .string ⟨#[]⟩, .int .i64 1, .int .i64 0, .int .i64 0, .int .i64 0, .slice none 0 0, .slice none 0 0] 32)
 rw [← eV5]
 clear eV5
 have cV5' := cV5
 have u_V5 := u_V4.trans (cV5.mono u_V4.size)
 have dB_V5 := dB_V4.below cV5
 have h_V5 := h_V4.below cV5
 have a1_V5 := (cV5.block _ (hblk a1_V4)).trans a1_V4
 have a2_V5 := (cV5.block _ (hblk a2_V4)).trans a2_V4
 have bp_V5 := (cV5.block _ (hblk bp_V4)).trans bp_V4
 have bt_V5 := (cV5.block _ (hblk nV4)).trans nV4
 have dI_V5 := MD.In.below (cV5.mono (by omega)) _ _ dI_V4
 have d1I_V5 := MD.In.below (cV5.mono (by omega)) _ _ d1I_V4
 have d2I_V5 := MD.In.below (cV5.mono (by omega)) _ _ d2I_V4
 clear cV5' cV5 cc u_V4 dB_V4 h_V4 a1_V4 a2_V4 bp_V4 nV4 dI_V4 d1I_V4 d2I_V4
 refine HK10.out _ _ ?_
 clear HK10
 have cc : ∀ j, V5.cell? ⟨bd, j, none⟩ = (#[.int .i64 k1, .string t1, .int .i64 n1, .int .u64 f1, .string s1, .int .i64 x1, .int .i64 y1, .int .i64 z1, .int .i64 u1, .slice pp1 path1.length pc1, .slice ip1 items1.length ic1] : Array Value)[j]? := by have := (cells_of dB_V5.box).1; rwa [EC.out] at this
 try unfold GP
 conv => arg 2; whnf
 refine wp_seq_k ?_
 intro K11 hK11
 have HK11 : Hid (∀ (a : Act) (w : World), Code.wp Tryz.prog (pieceQ 12) (bodyPost Tryz.prog Tryz.f4 fun r w' => r = .returned (.bool true) ∧ Below w0.heap.size w0 w') a w → K11 a w) := hK11
 clear hK11
 go_wp2_with fail
 obtain ⟨V6, eV6, cV6, yV6, nV6⟩ := an V5 (.cells #[.int .i64 k1, .string t1, .int .i64 n1, .int .u64 f1, .string s1, .int .i64 x1, .int .i64 y1, .int .i64 z1, .int .i64 u1, .slice pp1 path1.length pc1, .slice ip1 items1.length ic1] 32)
 rw [← eV6]
 clear eV6
 have u_V6 := u_V5.trans (cV6.mono u_V5.size)
 have dB_V6 := dB_V5.below cV6
 have h_V6 := h_V5.below cV6
 have a1_V6 := (cV6.block _ (hblk a1_V5)).trans a1_V5
 have a2_V6 := (cV6.block _ (hblk a2_V5)).trans a2_V5
 have bp_V6 := (cV6.block _ (hblk bp_V5)).trans bp_V5
 have bt_V6 := (cV6.block _ (hblk bt_V5)).trans bt_V5
 have bq_V6 := (cV6.block _ (hblk nV5)).trans nV5
 have dI_V6 := MD.In.below (cV6.mono (by omega)) _ _ dI_V5
 have d1I_V6 := MD.In.below (cV6.mono (by omega)) _ _ d1I_V5
 have d2I_V6 := MD.In.below (cV6.mono (by omega)) _ _ d2I_V5
 rw [← EC.out] at nV6
 clear cV6 cc u_V5 dB_V5 h_V5 a1_V5 a2_V5 bp_V5 bt_V5 nV5 dI_V5 d1I_V5 d2I_V5
 refine HK11.out _ _ ?_
 clear HK11
 have hs1 := same_trans _ _ _ _ hds d1s
 have hs2 := same_trans _ _ _ _ hds d2s
 refine tail12q k m n hb M ab1 ab2 bd V1.heap.size V3.heap.size V4.heap.size V5.heap.size dd0 d1 d2 w0 V6 hk6 hx HN.out u_V6 ⟨by omega, by omega, by omega, by omega, by omega, by omega, by omega, by omega, by omega, by omega, by omega⟩ dB_V6 ⟨h_V6, rfl, a1_V6, MD.In.mono (by omega) _ _ d1I_V6, hs1, hfull, ⟨rfl, rfl⟩, ⟨by omega, hk6⟩⟩ ⟨h_V6, rfl, a2_V6, MD.In.mono (by omega) _ _ d2I_V6, hs2, hfull, ⟨rfl, rfl⟩, ⟨by omega, hk6⟩⟩ bp_V6 bt_V6 bq_V6 nV6 (MD.In.mono hl1 _ _ dI_V6) d1I_V6 d2I_V6 (MD.Above.mono (by omega) _ _ d2a) _ rfl
end Go.Proofs.YtdbijkgnddcneaaGreatDoor
