/-
  The law of parts at all inputs.
-/
import Derived.Test.YtdbijkgnddcneaaGreatDoorPoJ
import Derived.Test.YtdbijkgnddcneaaGreatDoorPqJ
import Derived.Test.YtdbijkgnddcneaaGreatDoorZe
namespace Go.Proofs.YtdbijkgnddcneaaGreatDoor
open Go.RowKit Go.ChangeMaps
attribute [local go_sem] refold2 cell3_0 cell3_1 b28_0 b28_01

theorem zero_flat : FlatR zeroD := ⟨⟨0, ⟨#[]⟩, 0, 0, 0, 0, 0, rfl, by decide⟩, ⟨by show (-9223372036854775808 : Int) ≤ 0; decide, by show (0 : Int) ≤ 9223372036854775807; decide, by show (-9223372036854775808 : Int) ≤ 0; decide, by show (0 : Int) ≤ 9223372036854775807; decide, by show (0 : Int) ≤ 0; decide, by show (0 : Int) ≤ 18446744073709551615; decide, by show (-9223372036854775808 : Int) ≤ 0; decide, by show (0 : Int) ≤ 9223372036854775807; decide, by show (-9223372036854775808 : Int) ≤ 0; decide, by show (0 : Int) ≤ 9223372036854775807; decide, by show (-9223372036854775808 : Int) ≤ 0; decide, by show (0 : Int) ≤ 9223372036854775807; decide, by show (-9223372036854775808 : Int) ≤ 0; decide, by show (0 : Int) ≤ 9223372036854775807; decide, by decide, by decide, Nat.le_refl _, Nat.zero_le _⟩, by decide +kernel⟩
set_option maxRecDepth 1000000 in
set_option maxHeartbeats 16000000 in
theorem parts_any {gw ow gs os : Nat} (deep n m : Int) (w : World) (hN : NamesAt w) (ht : Lx.TabsAt gw ow gs os w) (hdp : -9223372036854775808 ≤ deep ∧ deep ≤ 9223372036854775807) (hnn : -9223372036854775808 ≤ n ∧ n ≤ 9223372036854775807) (hmm : -9223372036854775808 ≤ m ∧ m ≤ 9223372036854775807) :
    Calls Tryz.prog 4 #[.int .i64 deep, .int .i64 n, .int .i64 m] w fun r w' => r = .returned (.bool true) ∧ Below w.heap.size w w' := by
  have HN : Hid (∀ W, Below w.heap.size w W → NamesAt W) := fun W hW => hN.kept hW
  obtain ⟨k, hk, hk6, hk1⟩ : ∃ k : Nat, 1 + pickN deep 6 = (k : Int) ∧ k ≤ 6 ∧ 1 ≤ k := ⟨(1 + pickN deep 6).toNat, by have := pickN_lt deep 6 (by decide); omega, by have := pickN_lt deep 6 (by decide); omega, by have := pickN_lt deep 6 (by decide); omega⟩
  obtain ⟨q, hq, hq6⟩ : ∃ q : Nat, pickN deep 6 = (q : Int) ∧ q < 6 := ⟨(pickN deep 6).toNat, by have := pickN_lt deep 6 (by decide); omega, by have := pickN_lt deep 6 (by decide); omega⟩
  have HPK : Hid (∀ W, Calls Tryz.prog 7 #[.int .i64 deep, .int .i64 6] W fun r w' => r = .returned (.int .i64 (q : Int)) ∧ w' = W) := fun W => by rw [← hq]; exact pick_any deep 6 hdp.1 hdp.2 (by decide) (by decide) W
  have hqk : 1 + (q : Int) = (k : Int) := by omega
  have HX := FlatR.whole m hmm.1 hmm.2
  have HF := FlatR.whole n hnn.1 hnn.2
  have HH : Hid (∀ (hb M bd L : Nat) (U4 : World), Below w.heap.size w U4 → HeapAt U4 hb M [] → (w.heap.size ≤ hb ∧ w.heap.size ≤ M ∧ hb < L ∧ M < L ∧ L ≤ bd) → ∀ (a : Act) (wr : World), L1Q k m hb bd n L U4 a wr → Code.wp Tryz.prog (pieceQ 7) (bodyPost Tryz.prog Tryz.f4 fun r w' => r = .returned (.bool true) ∧ Below w.heap.size w w') a wr) := fun hb M bd L U4 u4 h4 hch a wr hE => by
    obtain ⟨x, hB, hA, hK, ha⟩ := hE
    have hz := u4.size
    rw [ha]
    exact tail7 k m n hb M bd L x (fun k => a.tmps.getD k undef) w wr hk6 HX HF HN.out (u4.trans (hK.below u4.size fun i hi e => by omega)) hch (h4.kp hK (by omega) (by omega)) hB hA zero_flat
  clear hdp hnn hmm HX hk hq
  go_enter Tryz.func4, Tryz.ntmps4
  go_wp2_with fail
  refine (known_any w (HN.out _ (Below.refl _ _)) ht).mono ?_
  rintro _ U1 ⟨rfl, u1⟩
  clear ht
  go_wp2_with fail
  refine (heapNew_any _).mono ?_
  rintro _ U2 ⟨hb, M, rfl, h2, c2, g1, g2⟩
  have u2 : Below w.heap.size w U2 := u1.trans (c2.mono u1.size)
  have zw := u1.size
  have l2 := hblk h2.box
  have l3 := hblk h2.map
  clear c2 u1
  go_wp2_with fail
  refine (whole_any n _).mono ?_
  rintro _ U3 ⟨rfl, c3⟩
  have u3 : Below w.heap.size w U3 := u2.trans (c3.mono u2.size)
  have h3 := h2.below c3
  have zs3 := c3.size
  clear c3 u2 h2
  go_wp2_with fail
  refine Calls.mono (pair_any2 (wholeD n) zeroD U3) ?_
  rintro _ U4 ⟨g, rfl, c4, hg, hgl⟩
  have u4 : Below w.heap.size w U4 := u3.trans (c4.mono u3.size)
  have h4 := h3.below c4
  have lg := hblk hg
  have zs4 := c4.size
  clear c4 u3 h3
  simp only [pairE, MD.val, D, List.length_cons, List.length_nil, Nat.zero_add, Nat.reduceAdd]
  go_wp2_with fail
  obtain ⟨U5, eU5⟩ : ∃ W, W = U4.alloc (.cells #[.int .i64 8, .string ⟨#[83]⟩, .int .i64 0, .int .u64 0, .string ⟨#[]⟩, .int .i64 0, .int .i64 0, .int .i64 0, .int .i64 0, .slice none 0 0, .slice (some ⟨g, 0, none⟩) 2 2] 32) := ⟨_, rfl⟩
  rw [← eU5]
  have cU5 : Below U4.heap.size U4 U5 := by rw [eU5]; exact below1 _ _
  have yU5 : U4.heap.size < U5.heap.size := by rw [eU5]; simp
  have nU5 : U5.heap[U4.heap.size]? = some (.cells #[.int .i64 8, .string ⟨#[83]⟩, .int .i64 0, .int .u64 0, .string ⟨#[]⟩, .int .i64 0, .int .i64 0, .int .i64 0, .int .i64 0, .slice none 0 0, .slice (some ⟨g, 0, none⟩) 2 2] 32) := by rw [eU5]; exact heap_alloc_new _ _
  clear eU5
  have u5 := u4.trans (cU5.mono u4.size)
  have h5 := h4.below cU5
  have hg5 := (cU5.block _ lg).trans hg
  have HI : Hid (L1Rp k n U4.heap.size U2.heap.size U5 (.int .i64 0) U5) := by
    refine ⟨0, pairE g (wholeD n) zeroD, rfl, Nat.zero_le _, ⟨nU5, pairE_in (HF.inn _ _) (zero_flat.inn _ _) (hblk hg5) hg5, pairE_same (same_self _ _) (same_self _ _)⟩, ⟨(fun b o e => by cases e), (fun b o e => by cases e; omega), fun y hy => ?_⟩, ⟨.inl rfl, .inr (fun b o e => by cases e; omega), fun y hy => ?_⟩, Kp.refl _ _⟩
    · have hy2 : y = wholeD n ∨ y = zeroD := by simpa [pairE] using hy
      rcases hy2 with rfl | rfl <;> exact ⟨(fun b o e => by cases e), (fun b o e => by cases e), fun z hz => by cases hz⟩
    · have hy2 : y = wholeD n ∨ y = zeroD := by simpa [pairE] using hy
      rcases hy2 with rfl | rfl <;> exact ⟨.inl rfl, .inl rfl, fun z hz => by cases hz⟩
  have HH2 : Hid _ := HH.out hb M U4.heap.size U2.heap.size U5 u5 h5 ⟨by omega, by omega, l2, l3, by omega⟩
  have hL5 : U2.heap.size ≤ U5.heap.size := by omega
  clear cU5 u4 h4 u5 h5 hg5 nU5 HH hg
  refine (HPK.out _).mono ?_
  rintro _ W ⟨rfl, hW⟩
  obtain rfl := hW.symm
  clear HPK
  go_wp2_with fail
  rename_i K0 hK0
  have HK0 : Hid (∀ (a : Act) (w_1 : World), Code.wp Tryz.prog (pieceQ 7) (bodyPost Tryz.prog Tryz.f4 fun r w' => r = .returned (.bool true) ∧ Below w.heap.size w w') a w_1 → K0 a w_1) := hK0
  clear hK0
  exact loopP1 k m hb U4.heap.size n U2.heap.size hk6 U5 hL5 K0 _ (fun a wr hE => HK0.out _ _ (HH2.out a wr hE)) _ (l1p_close _ _ _ _ _ _ _ _ _ HI.out rfl)
end Go.Proofs.YtdbijkgnddcneaaGreatDoor
