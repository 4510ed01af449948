/-
  The law HeapParts is proved: at any three ints the call returns true, and all of them read afterwards as they read before; the six package-level variables that the row lists start as the program's text lays them.
-/
import Derived.Test.YtdbijkgnddcneaaGreatDoorPqJ
import Derived.Test.YtdbijkgnddcneaaGreatDoorZeJ
import Derived.Test.YtdbijkgnddcneaaGreatDoorCards
import Derived.Test.YtdbijkgnddcneaaGreatDoorTie
import Derived.Test.YtdbijkgnddcneaaGreatDoorCl
import Derived.Stop.LaidErr
import Derived.SizedLaws
namespace Go.Proofs.YtdbijkgnddcneaaGreatDoor
open Go.RowKit Go.ChangeMaps
set_option maxRecDepth 1000000
set_option maxHeartbeats 16000000
attribute [local go_sem] refold2 cell3_0 cell3_1 b28_0 b28_01
theorem zero_flat : FlatR zeroD := ⟨⟨0, ⟨#[]⟩, 0, 0, 0, 0, 0, rfl, by decide⟩, ⟨by show (-9223372036854775808 : Int) ≤ 0; decide, by show (0 : Int) ≤ 9223372036854775807; decide, by show (-9223372036854775808 : Int) ≤ 0; decide, by show (0 : Int) ≤ 9223372036854775807; decide, by show (0 : Int) ≤ 0; decide, by show (0 : Int) ≤ 18446744073709551615; decide, by show (-9223372036854775808 : Int) ≤ 0; decide, by show (0 : Int) ≤ 9223372036854775807; decide, by show (-9223372036854775808 : Int) ≤ 0; decide, by show (0 : Int) ≤ 9223372036854775807; decide, by show (-9223372036854775808 : Int) ≤ 0; decide, by show (0 : Int) ≤ 9223372036854775807; decide, by show (-9223372036854775808 : Int) ≤ 0; decide, by show (0 : Int) ≤ 9223372036854775807; decide, by decide, by decide, Nat.le_refl _, Nat.zero_le _⟩, by decide +kernel⟩
theorem parts_any {gw ow gs os : Nat} (deep n m : Int) (w : World) (hN : NamesAt w) (ht : Lx.TabsAt gw ow gs os w) (hdp : -9223372036854775808 ≤ deep ∧ deep ≤ 9223372036854775807) (hnn : -9223372036854775808 ≤ n ∧ n ≤ 9223372036854775807) (hmm : -9223372036854775808 ≤ m ∧ m ≤ 9223372036854775807) :
  Calls Tryz.prog 4 #[.int .i64 deep, .int .i64 n, .int .i64 m] w fun r w' => r = .returned (.bool true) ∧ Below w.heap.size w w' := by
 have HN : Hid (∀ W, Below w.heap.size w W → NamesAt W) := fun W hW => hN.kept hW
 obtain ⟨k, hk, hk6, hk1⟩ : ∃ k : Nat, 1 + pickN deep 6 = (k : Int) ∧ k ≤ 6 ∧ 1 ≤ k := ⟨(1 + pickN deep 6).toNat, by have := pickN_lt deep 6 (by decide); omega, by have := pickN_lt deep 6 (by decide); omega, by have := pickN_lt deep 6 (by decide); omega⟩
 obtain ⟨q, hq, hq6⟩ : ∃ q : Nat, pickN deep 6 = (q : Int) ∧ q < 6 := ⟨(pickN deep 6).toNat, by have := pickN_lt deep 6 (by decide); omega, by have := pickN_lt deep 6 (by decide); omega⟩
 have HPK : Hid (∀ W, Calls Tryz.prog 7 #[.int .i64 deep, .int .i64 6] W fun r w' => r = .returned (.int .i64 (q : Int)) ∧ w' = W) := fun W => by rw [← hq]; exact pick_any deep 6 hdp.1 hdp.2 (by decide) (by decide) W
 have hqk : 1 + (q : Int) = (k : Int) := by omega
 have HX := FlatR.whole m hmm.1 hmm.2
 have HF := FlatR.whole n hnn.1 hnn.2
 have HH : Hid (∀ (hb M bd L : Nat) (U4 : World), Below w.heap.size w U4 → HeapAt U4 hb M [] → (w.heap.size ≤ hb ∧ w.heap.size ≤ M ∧ hb < L ∧ M < L ∧ L ≤ bd) → ∀ (a : Act) (wr : World), L1Q k m hb bd n L U4 a wr → Code.wp Tryz.prog (pieceQ 7) (bodyPost Tryz.prog Tryz.f4 fun r w' => r = .returned (.bool true) ∧ Below w.heap.size w w') a wr) := fun hb M bd L U4 u4 h4 hch a wr hE => by
  obtain ⟨x, hB, hA, hK, ha⟩ := hE
  have hz := u4.size
  rw [ha]
  exact tail7 k m n hb M bd L x (fun k => a.tmps.getD k undef) w wr hk6 HX HF HN.out (u4.trans (hK.below u4.size fun i hi e => by omega)) hch (h4.kp hK (by omega) (by omega)) hB hA zero_flat
 clear hdp hnn hmm HX hk hq
 go_enter Tryz.func4, Tryz.ntmps4
 go_wp2_with fail
 refine (known_any w (HN.out _ (Below.refl _ _)) ht).mono ?_
 rintro _ U1 ⟨rfl, u1⟩
 clear ht
 go_wp2_with fail
 refine (heapNew_any _).mono ?_
 rintro _ U2 ⟨hb, M, rfl, h2, c2, g1, g2⟩
 have u2 : Below w.heap.size w U2 := u1.trans (c2.mono u1.size)
 have zw := u1.size
 have l2 := hblk h2.box
 have l3 := hblk h2.map
 clear c2 u1
 go_wp2_with fail
 refine (whole_any n _).mono ?_
 rintro _ U3 ⟨rfl, c3⟩
 have u3 : Below w.heap.size w U3 := u2.trans (c3.mono u2.size)
 have h3 := h2.below c3
 have zs3 := c3.size
 clear c3 u2 h2
 go_wp2_with fail
 refine Calls.mono (pair_any2 (wholeD n) zeroD U3) ?_
 rintro _ U4 ⟨g, rfl, c4, hg, hgl⟩
 have u4 : Below w.heap.size w U4 := u3.trans (c4.mono u3.size)
 have h4 := h3.below c4
 have lg := hblk hg
 have zs4 := c4.size
 clear c4 u3 h3
 simp only [pairE, MD.val, D, List.length_cons, List.length_nil, Nat.zero_add, Nat.reduceAdd]
 go_wp2_with fail
 obtain ⟨U5, eU5, cU5, yU5, nU5⟩ := an U4 (.cells #[.int .i64 8, .string ⟨#[83]⟩, .int .i64 0, .int .u64 0, .string ⟨#[]⟩, .int .i64 0, .int .i64 0, .int .i64 0, .int .i64 0, .slice none 0 0, .slice (some ⟨g, 0, none⟩) 2 2] 32)
 rw [← eU5]
 clear eU5
 have u5 := u4.trans (cU5.mono u4.size)
 have h5 := h4.below cU5
 have hg5 := (cU5.block _ lg).trans hg
 have HI : Hid (L1Rp k n U4.heap.size U2.heap.size U5 (.int .i64 0) U5) := by
  refine ⟨0, pairE g (wholeD n) zeroD, rfl, Nat.zero_le _, ⟨nU5, pairE_in (HF.inn _ _) (zero_flat.inn _ _) (hblk hg5) hg5, pairE_same (same_self _ _) (same_self _ _)⟩, ⟨(fun b o e => by cases e), (fun b o e => by cases e; omega), fun y hy => ?_⟩, ⟨.inl rfl, .inr (fun b o e => by cases e; omega), fun y hy => ?_⟩, Kp.refl _ _⟩
  ·have hy2 : y = wholeD n ∨ y = zeroD := by simpa [pairE] using hy
   rcases hy2 with rfl | rfl <;> exact ⟨(fun b o e => by cases e), (fun b o e => by cases e), fun z hz => by cases hz⟩
  ·have hy2 : y = wholeD n ∨ y = zeroD := by simpa [pairE] using hy
   rcases hy2 with rfl | rfl <;> exact ⟨.inl rfl, .inl rfl, fun z hz => by cases hz⟩
 have HH2 : Hid _ := HH.out hb M U4.heap.size U2.heap.size U5 u5 h5 ⟨by omega, by omega, l2, l3, by omega⟩
 have hL5 : U2.heap.size ≤ U5.heap.size := by omega
 clear cU5 u4 h4 u5 h5 hg5 nU5 HH hg
 refine (HPK.out _).mono ?_
 rintro _ W ⟨rfl, hW⟩
 obtain rfl := hW.symm
 clear HPK
 go_wp2_with fail
 rename_i K0 hK0
 have HK0 : Hid (∀ (a : Act) (w_1 : World), Code.wp Tryz.prog (pieceQ 7) (bodyPost Tryz.prog Tryz.f4 fun r w' => r = .returned (.bool true) ∧ Below w.heap.size w w') a w_1 → K0 a w_1) := hK0
 clear hK0
 exact loopP1 k m hb U4.heap.size n U2.heap.size hk6 U5 hL5 K0 _ (fun a wr hE => HK0.out _ _ (HH2.out a wr hE)) _ (l1p_close _ _ _ _ _ _ _ _ _ HI.out rfl)
end Go.Proofs.YtdbijkgnddcneaaGreatDoor
namespace Go.Proofs.YtdbijkgnddcneaaGreatDoor
open Go.ChangeShapes Go.WideShapes Go.ChangeAt Go.WideMaps Go.WideElems Go.RowKit
set_option maxRecDepth 100000
section
variable {H : Type} {enc : TypeId × Value → H} {P : Program} {w : World} {base : Nat} {spare : Nat → Bool} {held : Bool}
theorem trodAll_three {t0 t1 t2 : TypeId} {args : Array Value} {ds : List (DataW H)} {ps : List MemPlace} (h : DataW.TrodAll enc P w base spare held [t0, t1, t2] args.toList ds ps) :
  ∃ v0 v1 v2 d0 d1 d2 p0 p1 p2, args = #[v0, v1, v2] ∧ ds = [d0, d1, d2] ∧ ps = p0 ++ p1 ++ p2 ∧ DataW.Trod enc P w base spare held t0 v0 d0 p0 ∧ DataW.Trod enc P w base spare held t1 v1 d1 p1 ∧ DataW.Trod enc P w base spare held t2 v2 d2 p2 := by
 obtain ⟨v0, vs0, d0, ds0, p0, q0, hargs, rfl, rfl, e0, r0⟩ := trodAll_cons h
 obtain ⟨v1, vs1, d1, ds1, p1, q1, rfl, rfl, rfl, e1, r1⟩ := trodAll_cons r0
 obtain ⟨v2, vs2, d2, ds2, p2, q2, rfl, rfl, rfl, e2, r2⟩ := trodAll_cons r1
 obtain ⟨rfl, rfl, rfl⟩ := trodAll_nil r2
 exact ⟨v0, v1, v2, d0, d1, d2, p0, p1, p2, by cases args; simp_all, rfl, by simp, e0, e1, e2⟩
end
theorem heapParts_lifted (os : Os) (started : os.Started) (H : Type) (enc : TypeId × Value → H) :
  ReturnsInHanded {} Tryz.checked os 4 .any (fun w args => (Rows.heapPartsSpec.pre enc Tryz.prog Tryz.f4 [] false w args ∧ laidMetH Tryz.prog laidList w) ∧ sizedMet enc Tryz.prog Tryz.f4 (OpenSpec.ofChange Rows.heapPartsSpec) false w args)
   (Rows.heapPartsSpec.post enc Tryz.prog Tryz.f4 false true false false) := by
 refine returnsInHanded_of_change_and (C := Tryz.checked) (X := fun w _ => laidMetH Tryz.prog laidList w) (fun _ _ _ hh h => h.of_heap hh) Tryz.own started (by kernel_rfl) Tryz.func4
  (ChangeSpec.witness_shaped (enc := enc) (C := Tryz.checked) (os := os) (X := fun w _ => laidMetH Tryz.prog laidList w) false (World.doorLaid Tryz.prog 400 os) #[.int .i64 0, .int .i64 0, .int .i64 0] 8 rfl (World.shaped_of_RefB (by kernel_rfl) (by kernel_rfl)) (by kernel_rfl) (by kernel_rfl) (by kernel_rfl) (door_met os _)) ?_
 intro W base args ds gs before hval0 hW _ hwt hL _
 have hval : ∀ (j : Nat) t v, Tryz.f4.params[j]? = some t → args[j]? = some v → Value.okWide Tryz.prog W .any base t v := hval0
 have hW' := hW
 obtain ⟨p, q, hA0, hV, rfl, hfz, hnd⟩ := hW
 have hA : DataW.TrodAll enc Tryz.prog W 0 (fun _ => true) true Tryz.f4.params.toList args.toList ds p := hA0
 rw [Tryz.params4] at hA hval
 obtain ⟨v0, v1, v2, d0, d1, d2, p0, p1, p2, rfl, rfl, rfl, h0, h1, h2⟩ := trodAll_three hA
 obtain ⟨rfl, rfl⟩ := trodVars_none hV
 obtain ⟨n0, rfl, rfl, rfl, hn0⟩ := open_int Tryz.underlying3 (hval 0 3 v0 rfl rfl) h0
 obtain ⟨n1, rfl, rfl, rfl, hn1⟩ := open_int Tryz.underlying3 (hval 1 3 v1 rfl rfl) h1
 obtain ⟨n2, rfl, rfl, rfl, hn2⟩ := open_int Tryz.underlying3 (hval 2 3 v2 rfl rfl) h2
 obtain ⟨gw, ow, gs', os', htab⟩ := tabs_of_laid hL
 clear hA0 hval0
 simp only [List.append_nil] at hW'
 refine (parts_any n0 n1 n2 W (names_of_laid hL) htab (int_bounds hn0) (int_bounds hn1) (int_bounds hn2)).mono fun e W' ⟨he, hb⟩ => ?_
 subst he
 exact ⟨_, rfl, _, _, _, [], [], [], hW', trodAll_mk1 (shut_bool Tryz.underlying4 _), trodAll_mk3 (shut_int Tryz.underlying3 hn0) (shut_int Tryz.underlying3 hn1) (shut_int Tryz.underlying3 hn2), rfl, hb.frame _, fun h => by cases h⟩
theorem heapParts_said : Rows.HeapPartsSaid :=
 OpenClaim.holds_of_wide 4 Tryz.f4 rfl rfl rfl rfl rfl rfl rfl ⟨rfl, rfl, rfl, rfl, rfl⟩ rfl rfl rfl rfl rfl (by kernel_rfl) Tryz.func4 (by kernel_rfl)
  (of_decide_eq_true (by kernel_rfl)) (by unfold Func.isWrapper; first | (rw [if_pos (by decide +kernel)]; kernel_rfl) | (rw [if_neg (by decide +kernel)]; exact ⟨rfl, rfl⟩))
  (fun os started H enc _ => heapParts_lifted os started H enc)
theorem heapParts_plain (f : FuncId) (fn : Func) (hf : Tryz.pinned.checked.prog.funcNamed "guise/guiselaw10.HeapParts" = some f) (hfn : Tryz.pinned.checked.prog.funcs[f]? = some fn) :
  true = Tryz.pinned.checked.prog.looks [] ∧ ∀ (j : Nat) t, fn.params[j]? = some t → Tryz.pinned.checked.prog.wantsStandIn t = false := by
 obtain rfl : f = 4 := Option.some.inj ((show Tryz.prog.funcNamed "guise/guiselaw10.HeapParts" = some 4 by kernel_rfl).symm.trans hf) |>.symm
 obtain rfl : fn = Tryz.f4 := (Option.some.inj (Tryz.func4.symm.trans hfn)).symm
 refine ⟨by kernel_rfl, fun j t ht => ?_⟩
 rw [Tryz.params4] at ht
 have hall : ([3, 3, 3] : List TypeId).all (fun t => !Tryz.prog.wantsStandIn t) = true := by kernel_rfl
 have hm : t ∈ ([3, 3, 3] : List TypeId) := by simpa using Array.mem_of_getElem? ht
 have he : Tryz.prog.wantsStandIn t = false := by simpa using List.all_eq_true.1 hall t hm
 exact he
/-- The card of HeapParts. -/
theorem heapParts_card : Rows.HeapPartsCardSaid :=
 Claim7.holds_tied_plain_at .later [] _ _ _ _ heapParts_said (fun _ h => by cases h) (by kernel_rfl) (fun _ h => by cases h) heapParts_row_tie rfl ⟨rfl, rfl⟩ (by kernel_rfl) rfl heapParts_plain (by kernel_rfl)
#print axioms heapParts_card
end Go.Proofs.YtdbijkgnddcneaaGreatDoor
