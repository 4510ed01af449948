/-
  .
  .
-/
import Derived.Test.YtdbijkgnddcneaaGreatDoorPeJ
import Derived.Test.YtdbijkgnddcneaaGreatDoorSq
import Derived.Test.YtdbijkgnddcneaaGreatDoorLxTJ
import Derived.Test.YtdbijkgnddcneaaGreatDoorXqJ
import Derived.Test.YtdbijkgnddcneaaGreatDoorXs
import Derived.Test.YtdbijkgnddcneaaGreatDoorZaJ
import Derived.Test.YtdbijkgnddcneaaGreatDoorSc
namespace Go.Proofs.YtdbijkgnddcneaaGreatDoor
open Go.RowKit Go.ChangeMaps
theorem lead_fine (k : Int) (t : ByteArray) (o f l c : Int) (hk : 0 ≤ k ∧ k ≤ 9) (ht : t.size ≤ 60000) (ho : 0 ≤ o ∧ o ≤ 1000000) (hf : 0 ≤ f ∧ f ≤ 1000000) (hl : 0 ≤ l ∧ l ≤ 1000000) (hc : 0 ≤ c ∧ c ≤ 1000000) : MD.Fine (leadD k t o f l c).h := by
 refine ⟨?_, ?_, ?_, ?_, ?_, ?_, ?_, ?_, ?_, ?_, ?_, ?_, ?_, ?_, ?_, ?_, ?_, ?_⟩ <;> simp only [leadD, maxLen, List.length_nil] <;> first | omega | (show (0 : Nat) ≤ _; omega)
theorem lead_S (m : Nat) (hm : m = 0) : FlatR (leadD 9 ⟨#[83]⟩ ((m : Int) + 1) 0 0 0) := by
 subst hm
 exact ⟨⟨9, ⟨#[83]⟩, 0, _, 0, 0, 0, rfl, by decide⟩, lead_fine _ _ _ _ _ _ (by decide) (by decide) (by decide) (by decide) (by decide) (by decide), by decide +kernel⟩
theorem lead_list1 (m : Nat) (hm : m = 1) : FlatR (leadD 5 ⟨#[108, 105, 115, 116]⟩ ((m : Int) + 1) 0 1 1) := by
 subst hm
 exact ⟨⟨5, ⟨#[108, 105, 115, 116]⟩, 0, _, 0, 1, 1, rfl, by decide⟩, lead_fine _ _ _ _ _ _ (by decide) (by decide) (by decide) (by decide) (by decide) (by decide), by decide +kernel⟩
theorem lead_map (m : Nat) (hm : m = 2) : FlatR (leadD 6 ⟨#[109, 97, 112]⟩ ((m : Int) + 1) 0 0 0) := by
 subst hm
 exact ⟨⟨6, ⟨#[109, 97, 112]⟩, 0, _, 0, 0, 0, rfl, by decide⟩, lead_fine _ _ _ _ _ _ (by decide) (by decide) (by decide) (by decide) (by decide) (by decide), by decide +kernel⟩
theorem lead_func (m : Nat) (hm : m = 4) : FlatR (leadD 7 ⟨#[102, 117, 110, 99]⟩ ((m : Int) + 1) 0 0 0) := by
 subst hm
 exact ⟨⟨7, ⟨#[102, 117, 110, 99]⟩, 0, _, 0, 0, 0, rfl, by decide⟩, lead_fine _ _ _ _ _ _ (by decide) (by decide) (by decide) (by decide) (by decide) (by decide), by decide +kernel⟩
theorem whole_small (z : Int) (h : -1000000 ≤ z ∧ z ≤ 1000000) : FlatR (wholeD z) := FlatR.whole z (by omega) (by omega)
theorem show5 : (ByteArray.mk ([91] ++ Lib.decDigits 5 ++ [93] : List UInt8).toArray) = ByteArray.mk #[91, 53, 93] := by
 have h : ([91] ++ Lib.decDigits 5 ++ [93] : List UInt8) = [91, 53, 93] := by decide +kernel
 rw [h]
end Go.Proofs.YtdbijkgnddcneaaGreatDoor
namespace Go.Proofs.YtdbijkgnddcneaaGreatDoor
open Go.RowKit Go.ChangeMaps
set_option maxRecDepth 100000
set_option maxHeartbeats 4000000
theorem known_any {gw ow gs os : Nat} (w : World) (hN : NamesAt w) (ht : Lx.TabsAt gw ow gs os w) :
  Calls Tryz.prog 5 #[] w fun r w' => r = .returned (.bool true) ∧ Below w.heap.size w w' := by
 have HN : Hid (∀ W, Below w.heap.size w W → NamesAt W) := fun W hW => hN.kept hW
 clear hN
 go_enter Tryz.func5, Tryz.ntmps5
 go_wp2_with fail
 refine (heapNew_any _).mono ?_
 rintro _ U1 ⟨hb, M, rfl, hU1, uU1, ghb, gM⟩
 go_wp2_with fail
 refine (Lx.table_any _ (ht.below (Nat.le_refl _) uU1)).mono ?_
 rintro _ U2 ⟨tb, rfl, cU2⟩
 clear ht
 have zU2 := cU2.size
 have uU2 : Below w.heap.size w U2 := uU1.trans (cU2.mono uU1.size)
 have hU2 := hU1.below cU2
 clear cU2 hU1 uU1
 have zhb := hblk hU2.box
 have zM := hblk hU2.map
 go_wp2_with fail
 refine (whole_any 1 _).mono ?_
 rintro _ U3 ⟨rfl, cU3⟩
 have zU3 := cU3.size
 have uU3 : Below w.heap.size w U3 := uU2.trans (cU3.mono uU2.size)
 have hU3 := hU2.below cU3
 clear cU3 hU2 uU2
 simp only [wholeD, MD.val, D, List.length_nil]
 go_wp2_with fail
 refine (whole_any 2 _).mono ?_
 rintro _ U4 ⟨rfl, cU4⟩
 have zU4 := cU4.size
 have uU4 : Below w.heap.size w U4 := uU3.trans (cU4.mono uU3.size)
 have hU4 := hU3.below cU4
 clear cU4 hU3 uU3
 simp only [wholeD, MD.val, D, List.length_nil]
 go_wp2_with fail
 refine (pair_any 1 2 _).mono ?_
 rintro _ U5 ⟨rfl, cU5, g5⟩
 have zU5 := cU5.size
 have uU5 : Below w.heap.size w U5 := uU4.trans (cU5.mono uU4.size)
 have hU5 := hU4.below cU5
 clear cU5 hU4 uU4
 have in5 := pairD_in (whole_small 1 (by decide)) (whole_small 2 (by decide)) g5
 clear g5
 go_wp2_with fail
 refine (Object_any hb M [] (by decide) 5 ⟨#[83]⟩ (by decide) 0 0 ⟨#[]⟩ 0 0 0 0 none [] 0 _ 2 [wholeD 1, wholeD 2] U5 (HN.out _ uU5) hU5 in5 (pairD_right (whole_small 1 (by decide)) (whole_small 2 (by decide))) (pairD_full (whole_small 1 (by decide)) (whole_small 2 (by decide)))).mono ?_
 rintro _ U6 ⟨rfl, ab1, d1, hU6, a1_U6, ga1, in6, ab6, sm6, kU6⟩
 have SM : Hid (MD.same 5 (pairD (U4.heap.size + 3) 1 2) d1 = true) := sm6
 clear sm6 ab6 in5 hU5
 have zU6 := kU6.size
 have uU6 : Below w.heap.size w U6 := uU5.trans (kU6.below uU5.size fun i hi e => by omega)
 clear uU5
 clear kU6
 simp only [leadD, MD.val, D, List.length_nil]
 go_wp2_with fail
 obtain ⟨U7, eU7⟩ : ∃ W, W = U6.alloc (.cells #[.int .i64 9, .string ⟨#[83]⟩, .int .i64 0, .int .u64 0, .string ⟨#[]⟩, .int .i64 1, .int .i64 0, .int .i64 0, .int .i64 0, .slice none 0 0, .slice none 0 0] 32) := ⟨_, rfl⟩
 rw [← eU7]
 have cU7 : Below U6.heap.size U6 U7 := by rw [eU7]; exact below1 _ _
 have yU7 : U6.heap.size < U7.heap.size := by rw [eU7]; simp
 have p_U7 : U7.heap[U6.heap.size]? = some (.cells #[.int .i64 9, .string ⟨#[83]⟩, .int .i64 0, .int .u64 0, .string ⟨#[]⟩, .int .i64 1, .int .i64 0, .int .i64 0, .int .i64 0, .slice none 0 0, .slice none 0 0] 32) := by rw [eU7]; exact heap_alloc_new _ _
 clear eU7
 have zU7 := cU7.size
 have uU7 : Below w.heap.size w U7 := uU6.trans (cU7.mono uU6.size)
 have hU7 := hU6.below cU7
 have a1_U7 := (cU7.block _ (hblk a1_U6)).trans a1_U6
 clear a1_U6
 have cU7x := cU7
 clear cU7 hU6 uU6
 refine (Read_whole hb M _ 0 ab1 rfl (lead_S 0 rfl) _ 1 2 (whole_small 1 (by decide)) (whole_small 2 (by decide)) d1 SM.out U7 (HN.out _ uU7) hU7 a1_U7 (MD.In.later in6 (Nat.le_refl _) cU7x)).mono ?_
 rintro _ U8 ⟨⟨⟨k1, t1, a1, f1, s1, x0, x1, x2, x3, pp1, path1, pc1⟩, ip1, ic1, items1⟩, rfl, in8, ab8, sm8, cU8⟩
 clear SM in6
 clear a1_U7 p_U7 cU7x
 have zU8 := cU8.size
 have uU8 : Below w.heap.size w U8 := uU7.trans (cU8.mono uU7.size)
 have hU8 := hU7.below cU8
 clear cU8 hU7 uU7
 have IN : Hid _ := in8
 have AB : Hid _ := ab8
 have SM : Hid (MD.same 5 (pairD (U4.heap.size + 3) 1 2) ⟨⟨k1, t1, a1, f1, s1, x0, x1, x2, x3, pp1, path1, pc1⟩, ip1, ic1, items1⟩ = true) := sm8
 clear in8 ab8 sm8
 simp only [MD.val, D]
 go_wp2_with fail
 obtain ⟨U9, eU9⟩ : ∃ W, W = U8.alloc (.cells #[.int .i64 k1, .string t1, .int .i64 a1, .int .u64 f1, .string s1, .int .i64 x0, .int .i64 x1, .int .i64 x2, .int .i64 x3, .slice pp1 path1.length pc1, .slice ip1 items1.length ic1] 32) := ⟨_, rfl⟩
 rw [← eU9]
 have cU9 : Below U8.heap.size U8 U9 := by rw [eU9]; exact below1 _ _
 have yU9 : U8.heap.size < U9.heap.size := by rw [eU9]; simp
 have x_U9 : U9.heap[U8.heap.size]? = some (.cells #[.int .i64 k1, .string t1, .int .i64 a1, .int .u64 f1, .string s1, .int .i64 x0, .int .i64 x1, .int .i64 x2, .int .i64 x3, .slice pp1 path1.length pc1, .slice ip1 items1.length ic1] 32) := by rw [eU9]; exact heap_alloc_new _ _
 clear eU9
 have zU9 := cU9.size
 have uU9 : Below w.heap.size w U9 := uU8.trans (cU9.mono uU8.size)
 have hU9 := hU8.below cU9
 have xk_U9 : ∀ b, U7.heap.size ≤ b → b < U8.heap.size → U9.heap[b]? = U8.heap[b]? := fun b p q => cU9.block b q
 clear cU9 hU8 uU8
 refine (whole_any 5 _).mono ?_
 rintro _ U10 ⟨rfl, cU10⟩
 have zU10 := cU10.size
 have uU10 : Below w.heap.size w U10 := uU9.trans (cU10.mono uU9.size)
 have hU10 := hU9.below cU10
 have x_U10 := (cU10.block _ (hblk x_U9)).trans x_U9
 have xk_U10 : ∀ b, U7.heap.size ≤ b → b < U8.heap.size → U10.heap[b]? = U8.heap[b]? := fun b p q => (cU10.block b (by omega)).trans (xk_U9 b p q)
 clear x_U9 xk_U9
 clear cU10 hU9 uU9
 simp only [wholeD, MD.val, D, List.length_nil]
 go_wp2_with fail
 obtain ⟨U11, eU11⟩ : ∃ W, W = U10.alloc (.cells #[.int .i64 2, .string ⟨#[105, 110, 116]⟩, .int .i64 5, .int .u64 0, .string ⟨#[]⟩, .int .i64 0, .int .i64 0, .int .i64 0, .int .i64 0, .slice none 0 0, .slice none 0 0] 32) := ⟨_, rfl⟩
 rw [← eU11]
 have cU11 : Below U10.heap.size U10 U11 := by rw [eU11]; exact below1 _ _
 have yU11 : U10.heap.size < U11.heap.size := by rw [eU11]; simp
 have row_U11 : U11.heap[U10.heap.size]? = some (.cells #[.int .i64 2, .string ⟨#[105, 110, 116]⟩, .int .i64 5, .int .u64 0, .string ⟨#[]⟩, .int .i64 0, .int .i64 0, .int .i64 0, .int .i64 0, .slice none 0 0, .slice none 0 0] 32) := by rw [eU11]; exact heap_alloc_new _ _
 clear eU11
 have zU11 := cU11.size
 have uU11 : Below w.heap.size w U11 := uU10.trans (cU11.mono uU10.size)
 have hU11 := hU10.below cU11
 have x_U11 := (cU11.block _ (hblk x_U10)).trans x_U10
 have xk_U11 : ∀ b, U7.heap.size ≤ b → b < U8.heap.size → U11.heap[b]? = U8.heap[b]? := fun b p q => (cU11.block b (by omega)).trans (xk_U10 b p q)
 clear x_U10 xk_U10
 clear cU11 hU10 uU10
 refine (List_flat hb M _ (by simp) _ _ [wholeD 5] (fun d hd => by cases List.mem_singleton.1 hd; exact (whole_small 5 (by decide))) (by decide) (by decide) U11 (HN.out _ uU11) (hblk row_U11) (fun i hi => by
  obtain rfl : i = 0 := by have : i < 1 := hi; omega
  intro j hj
  rw [(cells_of row_U11).1]
  have : j = 0 ∨ j = 1 ∨ j = 2 ∨ j = 3 ∨ j = 4 ∨ j = 5 ∨ j = 6 ∨ j = 7 ∨ j = 8 ∨ j = 9 ∨ j = 10 := by omega
  rcases this with rfl | rfl | rfl | rfl | rfl | rfl | rfl | rfl | rfl | rfl | rfl <;> rfl) hU11).mono ?_
 rintro _ U12 ⟨rfl, ab2, g2, hU12, a2_U12, g2_U12, kU12, ga2, gg2, _⟩
 clear row_U11
 have zU12 := kU12.size
 have uU12 : Below w.heap.size w U12 := uU11.trans (kU12.below uU11.size fun i hi e => by omega)
 have x_U12 := (kU12.block _ (hblk x_U11) (fun e => by omega)).trans x_U11
 have xk_U12 : ∀ b, U7.heap.size ≤ b → b < U8.heap.size → U12.heap[b]? = U8.heap[b]? := fun b p q => (kU12.block b (by omega) (fun e => by omega)).trans (xk_U11 b p q)
 clear x_U11 xk_U11
 clear uU11
 have la2 := hblk a2_U12
 have lg2 := hblk g2_U12
 clear kU12 hU11
 simp only [leadD, MD.val, D, List.length_nil]
 go_wp2_with fail
 obtain ⟨U13, eU13⟩ : ∃ W, W = U12.alloc (.cells #[.int .i64 5, .string ⟨#[108, 105, 115, 116]⟩, .int .i64 0, .int .u64 0, .string ⟨#[]⟩, .int .i64 2, .int .i64 0, .int .i64 1, .int .i64 1, .slice none 0 0, .slice none 0 0] 32) := ⟨_, rfl⟩
 rw [← eU13]
 have cU13 : Below U12.heap.size U12 U13 := by rw [eU13]; exact below1 _ _
 have yU13 : U12.heap.size < U13.heap.size := by rw [eU13]; simp
 have l_U13 : U13.heap[U12.heap.size]? = some (.cells #[.int .i64 5, .string ⟨#[108, 105, 115, 116]⟩, .int .i64 0, .int .u64 0, .string ⟨#[]⟩, .int .i64 2, .int .i64 0, .int .i64 1, .int .i64 1, .slice none 0 0, .slice none 0 0] 32) := by rw [eU13]; exact heap_alloc_new _ _
 clear eU13
 have zU13 := cU13.size
 have uU13 : Below w.heap.size w U13 := uU12.trans (cU13.mono uU12.size)
 have hU13 := hU12.below cU13
 have x_U13 := (cU13.block _ (hblk x_U12)).trans x_U12
 have a2_U13 := (cU13.block _ (hblk a2_U12)).trans a2_U12
 have g2_U13 := (cU13.block _ (hblk g2_U12)).trans g2_U12
 have xk_U13 : ∀ b, U7.heap.size ≤ b → b < U8.heap.size → U13.heap[b]? = U8.heap[b]? := fun b p q => (cU13.block b (by omega)).trans (xk_U12 b p q)
 clear x_U12 a2_U12 g2_U12 xk_U12
 clear cU13 hU12 uU12
 refine (At_any hb M _ 1 ab2 rfl g2 1 0 1 1 (by decide) (by decide) ⟨#[108, 105, 115, 116]⟩ (lead_list1 1 rfl) [wholeD 5] rfl (fun d hd => by cases List.mem_singleton.1 hd; exact (whole_small 5 (by decide)).flat) 0 (by decide) U13 (HN.out _ uU13) hU13 a2_U13 g2_U13 (wholeD 5) rfl).mono ?_
 rintro _ U14 ⟨rfl, cU14⟩
 have zU14 := cU14.size
 have uU14 : Below w.heap.size w U14 := uU13.trans (cU14.mono uU13.size)
 have hU14 := hU13.below cU14
 have x_U14 := (cU14.block _ (hblk x_U13)).trans x_U13
 have a2_U14 := (cU14.block _ (hblk a2_U13)).trans a2_U13
 have g2_U14 := (cU14.block _ (hblk g2_U13)).trans g2_U13
 have l_U14 := (cU14.block _ (hblk l_U13)).trans l_U13
 have xk_U14 : ∀ b, U7.heap.size ≤ b → b < U8.heap.size → U14.heap[b]? = U8.heap[b]? := fun b p q => (cU14.block b (by omega)).trans (xk_U13 b p q)
 clear x_U13 a2_U13 g2_U13 l_U13 xk_U13
 clear cU14 hU13 uU13
 simp only [wholeD, MD.val, D, List.length_nil]
 go_wp2_with fail
 obtain ⟨U15, eU15⟩ : ∃ W, W = U14.alloc (.cells #[.int .i64 2, .string ⟨#[105, 110, 116]⟩, .int .i64 5, .int .u64 0, .string ⟨#[]⟩, .int .i64 0, .int .i64 0, .int .i64 0, .int .i64 0, .slice none 0 0, .slice none 0 0] 32) := ⟨_, rfl⟩
 rw [← eU15]
 have cU15 : Below U14.heap.size U14 U15 := by rw [eU15]; exact below1 _ _
 have yU15 : U14.heap.size < U15.heap.size := by rw [eU15]; simp
 have y_U15 : U15.heap[U14.heap.size]? = some (.cells #[.int .i64 2, .string ⟨#[105, 110, 116]⟩, .int .i64 5, .int .u64 0, .string ⟨#[]⟩, .int .i64 0, .int .i64 0, .int .i64 0, .int .i64 0, .slice none 0 0, .slice none 0 0] 32) := by rw [eU15]; exact heap_alloc_new _ _
 clear eU15
 have zU15 := cU15.size
 have uU15 : Below w.heap.size w U15 := uU14.trans (cU15.mono uU14.size)
 have hU15 := hU14.below cU15
 have x_U15 := (cU15.block _ (hblk x_U14)).trans x_U14
 have a2_U15 := (cU15.block _ (hblk a2_U14)).trans a2_U14
 have g2_U15 := (cU15.block _ (hblk g2_U14)).trans g2_U14
 have l_U15 := (cU15.block _ (hblk l_U14)).trans l_U14
 have xk_U15 : ∀ b, U7.heap.size ≤ b → b < U8.heap.size → U15.heap[b]? = U8.heap[b]? := fun b p q => (cU15.block b (by omega)).trans (xk_U14 b p q)
 clear x_U14 a2_U14 g2_U14 l_U14 xk_U14
 clear cU15 hU14 uU14
 refine (Map_any hb M _ (by simp) U15 hU15).mono ?_
 rintro _ U16 ⟨rfl, ab3, km, G, hU16, a3_U16, kU16, ga3, km0, hown⟩
 have zU16 := kU16.size
 have uU16 : Below w.heap.size w U16 := uU15.trans (kU16.below uU15.size fun i hi e => by omega)
 have x_U16 := (kU16.block _ (hblk x_U15) (fun e => by omega)).trans x_U15
 have a2_U16 := (kU16.block _ (hblk a2_U15) (fun e => by omega)).trans a2_U15
 have g2_U16 := (kU16.block _ (hblk g2_U15) (fun e => by omega)).trans g2_U15
 have l_U16 := (kU16.block _ (hblk l_U15) (fun e => by omega)).trans l_U15
 have y_U16 := (kU16.block _ (hblk y_U15) (fun e => by omega)).trans y_U15
 have xk_U16 : ∀ b, U7.heap.size ≤ b → b < U8.heap.size → U16.heap[b]? = U8.heap[b]? := fun b p q => (kU16.block b (by omega) (fun e => by omega)).trans (xk_U15 b p q)
 clear x_U15 a2_U15 g2_U15 l_U15 y_U15 xk_U15
 clear uU15
 have hown2 : ∀ b, KM.own km [] G b → b < U16.heap.size := fun b hb => by obtain ⟨c', t', e, _⟩ := km0.tag hb; exact hblk e
 have la3 := hblk a3_U16
 clear kU16 hU15
 simp only [leadD, MD.val, D, List.length_nil]
 go_wp2_with fail
 obtain ⟨U17, eU17⟩ : ∃ W, W = U16.alloc (.cells #[.int .i64 6, .string ⟨#[109, 97, 112]⟩, .int .i64 0, .int .u64 0, .string ⟨#[]⟩, .int .i64 3, .int .i64 0, .int .i64 0, .int .i64 0, .slice none 0 0, .slice none 0 0] 32) := ⟨_, rfl⟩
 rw [← eU17]
 have cU17 : Below U16.heap.size U16 U17 := by rw [eU17]; exact below1 _ _
 have yU17 : U16.heap.size < U17.heap.size := by rw [eU17]; simp
 have m_U17 : U17.heap[U16.heap.size]? = some (.cells #[.int .i64 6, .string ⟨#[109, 97, 112]⟩, .int .i64 0, .int .u64 0, .string ⟨#[]⟩, .int .i64 3, .int .i64 0, .int .i64 0, .int .i64 0, .slice none 0 0, .slice none 0 0] 32) := by rw [eU17]; exact heap_alloc_new _ _
 clear eU17
 have zU17 := cU17.size
 have uU17 : Below w.heap.size w U17 := uU16.trans (cU17.mono uU16.size)
 have hU17 := hU16.below cU17
 have x_U17 := (cU17.block _ (hblk x_U16)).trans x_U16
 have a2_U17 := (cU17.block _ (hblk a2_U16)).trans a2_U16
 have g2_U17 := (cU17.block _ (hblk g2_U16)).trans g2_U16
 have l_U17 := (cU17.block _ (hblk l_U16)).trans l_U16
 have y_U17 := (cU17.block _ (hblk y_U16)).trans y_U16
 have a3_U17 := (cU17.block _ (hblk a3_U16)).trans a3_U16
 have xk_U17 : ∀ b, U7.heap.size ≤ b → b < U8.heap.size → U17.heap[b]? = U8.heap[b]? := fun b p q => (cU17.block b (by omega)).trans (xk_U16 b p q)
 clear x_U16 a2_U16 g2_U16 l_U16 y_U16 a3_U16 xk_U16
 have cU17x := cU17
 clear cU17 hU16 uU16
 have km17 := km0.keep cU17x
 clear km0 cU17x
 refine rg (S := fun W => (∀ j, W.cell? ⟨U16.heap.size, j, none⟩ = (#[.int .i64 6, .string ⟨#[109, 97, 112]⟩, .int .i64 0, .int .u64 0, .string ⟨#[]⟩, .int .i64 3, .int .i64 0, .int .i64 0, .int .i64 0, .slice none 0 0, .slice none 0 0] : Array Value)[j]?)) (fun U17d hB4 HU17d => ?_)
 have hS := (cells_of ((hB4.block _ (hblk m_U17)).trans m_U17)).1
 have cU17d := hB4
 clear HU17d hB4
 have zU17d := cU17d.size
 have uU17d : Below w.heap.size w U17d := uU17.trans (cU17d.mono uU17.size)
 have hU17d := hU17.below cU17d
 have x_U17d := (cU17d.block _ (hblk x_U17)).trans x_U17
 have a2_U17d := (cU17d.block _ (hblk a2_U17)).trans a2_U17
 have g2_U17d := (cU17d.block _ (hblk g2_U17)).trans g2_U17
 have l_U17d := (cU17d.block _ (hblk l_U17)).trans l_U17
 have y_U17d := (cU17d.block _ (hblk y_U17)).trans y_U17
 have a3_U17d := (cU17d.block _ (hblk a3_U17)).trans a3_U17
 have m_U17d := (cU17d.block _ (hblk m_U17)).trans m_U17
 have xk_U17d : ∀ b, U7.heap.size ≤ b → b < U8.heap.size → U17d.heap[b]? = U8.heap[b]? := fun b p q => (cU17d.block b (by omega)).trans (xk_U17 b p q)
 clear x_U17 a2_U17 g2_U17 l_U17 y_U17 a3_U17 m_U17 xk_U17
 have cU17dx := cU17d
 clear cU17d hU17 uU17
 have km17d := km17.keep cU17dx
 clear km17 cU17dx
 refine tq 0 (.pointer (some ⟨hb, 0, none⟩)) rfl hS ?_
 simp only [sa, sb, Act.put, sd, se, sf]
 refine tk 1 (.agg #[.int .i64 6, .string ⟨#[109, 97, 112]⟩, .int .i64 0, .int .u64 0, .string ⟨#[]⟩, .int .i64 3, .int .i64 0, .int .i64 0, .int .i64 0, .slice none 0 0, .slice none 0 0]) rfl (.inl ⟨by rfl, ?r⟩) hS ?_
 case r => intro W hW; simp [go_sem, execOp, Act.eval, hW]
 simp only [sa, sb, sc, Act.put, sd, se, sf]
 refine one 2 rfl (fun K hK => ?_)
 simp only [sa, sb, sc]
 go_simp
 refine (whole_any 1 _).mono ?_
 rintro _ U18 ⟨rfl, cU18⟩
 have zU18 := cU18.size
 have uU18 : Below w.heap.size w U18 := uU17d.trans (cU18.mono uU17d.size)
 have hU18 := hU17d.below cU18
 have x_U18 := (cU18.block _ (hblk x_U17d)).trans x_U17d
 have a2_U18 := (cU18.block _ (hblk a2_U17d)).trans a2_U17d
 have g2_U18 := (cU18.block _ (hblk g2_U17d)).trans g2_U17d
 have l_U18 := (cU18.block _ (hblk l_U17d)).trans l_U17d
 have y_U18 := (cU18.block _ (hblk y_U17d)).trans y_U17d
 have a3_U18 := (cU18.block _ (hblk a3_U17d)).trans a3_U17d
 have m_U18 := (cU18.block _ (hblk m_U17d)).trans m_U17d
 have xk_U18 : ∀ b, U7.heap.size ≤ b → b < U8.heap.size → U18.heap[b]? = U8.heap[b]? := fun b p q => (cU18.block b (by omega)).trans (xk_U17d b p q)
 clear x_U17d a2_U17d g2_U17d l_U17d y_U17d a3_U17d m_U17d xk_U17d
 have cU18x := cU18
 clear cU18 hU17d uU17d
 simp only [wholeD, MD.val, D, List.length_nil]
 have km18 := km17d.keep cU18x
 clear km17d cU18x
 go_simp
 have hSU18 := (cells_of m_U18).1
 refine hK _ _ ⟨hSU18, ?_⟩
 clear hK K hS
 have hS := hSU18
 clear hSU18
 try simp only [Act.put, sd, se, sf]
 refine one 3 rfl (fun K hK => ?_)
 simp only [sa, sb, sc]
 go_simp
 refine (whole_any 7 _).mono ?_
 rintro _ U19 ⟨rfl, cU19⟩
 have zU19 := cU19.size
 have uU19 : Below w.heap.size w U19 := uU18.trans (cU19.mono uU18.size)
 have hU19 := hU18.below cU19
 have x_U19 := (cU19.block _ (hblk x_U18)).trans x_U18
 have a2_U19 := (cU19.block _ (hblk a2_U18)).trans a2_U18
 have g2_U19 := (cU19.block _ (hblk g2_U18)).trans g2_U18
 have l_U19 := (cU19.block _ (hblk l_U18)).trans l_U18
 have y_U19 := (cU19.block _ (hblk y_U18)).trans y_U18
 have a3_U19 := (cU19.block _ (hblk a3_U18)).trans a3_U18
 have m_U19 := (cU19.block _ (hblk m_U18)).trans m_U18
 have xk_U19 : ∀ b, U7.heap.size ≤ b → b < U8.heap.size → U19.heap[b]? = U8.heap[b]? := fun b p q => (cU19.block b (by omega)).trans (xk_U18 b p q)
 clear x_U18 a2_U18 g2_U18 l_U18 y_U18 a3_U18 m_U18 xk_U18
 have cU19x := cU19
 clear cU19 hU18 uU18
 simp only [wholeD, MD.val, D, List.length_nil]
 have km19 := km18.keep cU19x
 clear km18 cU19x
 go_simp
 have hSU19 := (cells_of m_U19).1
 refine hK _ _ ⟨hSU19, ?_⟩
 clear hK K hS
 have hS := hSU19
 clear hSU19
 try simp only [Act.put, sd, se, sf]
 refine one 4 rfl (fun K hK => ?_)
 simp only [sa, sb, sc]
 go_simp
 refine (Lay_whole hb M _ 2 ab3 km G rfl (lead_map 2 rfl) 1 7 (whole_small 1 (by decide)) (whole_small 7 (by decide)) U19 (HN.out _ uU19) hU19 a3_U19 km19).mono ?_
 rintro _ U20 ⟨rfl, en, G', km20, sk, sv, kU20⟩
 have zU20 := kU20.size
 have uU20 : Below w.heap.size w U20 := uU19.trans (kU20.out uU19.size fun b hb e => by have q := hown _ e; omega)
 have hU20 : HeapAt U20 hb M _ := ⟨(kU20.block _ (hblk hU19.box) (fun e => by have q := hown _ e; omega)).trans hU19.box, (kU20.block _ (hblk hU19.map) (fun e => by have q := hown _ e; omega)).trans hU19.map, hU19.ne⟩
 have x_U20 := (kU20.block _ (hblk x_U19) (fun e => by have q := hown _ e; have q2 := hown2 _ e; omega)).trans x_U19
 have a2_U20 := (kU20.block _ (hblk a2_U19) (fun e => by have q := hown _ e; have q2 := hown2 _ e; omega)).trans a2_U19
 have g2_U20 := (kU20.block _ (hblk g2_U19) (fun e => by have q := hown _ e; have q2 := hown2 _ e; omega)).trans g2_U19
 have l_U20 := (kU20.block _ (hblk l_U19) (fun e => by have q := hown _ e; have q2 := hown2 _ e; omega)).trans l_U19
 have y_U20 := (kU20.block _ (hblk y_U19) (fun e => by have q := hown _ e; have q2 := hown2 _ e; omega)).trans y_U19
 have a3_U20 := (kU20.block _ (hblk a3_U19) (fun e => by have q := hown _ e; have q2 := hown2 _ e; omega)).trans a3_U19
 have m_U20 := (kU20.block _ (hblk m_U19) (fun e => by have q := hown _ e; have q2 := hown2 _ e; omega)).trans m_U19
 have xk_U20 : ∀ b, U7.heap.size ≤ b → b < U8.heap.size → U20.heap[b]? = U8.heap[b]? := fun b p q => (kU20.block b (by omega) (fun e => by have q := hown _ e; omega)).trans (xk_U19 b p q)
 clear x_U19 a2_U19 g2_U19 l_U19 y_U19 a3_U19 m_U19 xk_U19
 clear kU20 hU19 uU19 km19
 go_simp
 have hSU20 := (cells_of m_U20).1
 refine hK _ _ ⟨hSU20, ?_⟩
 clear hK K hS
 have hS := hSU20
 clear hSU20
 try simp only [Act.put, sd, se, sf]
 refine one 5 rfl (fun K hK => ?_)
 simp only [sa, sb, sc]
 go_simp
 have hSU20 := (cells_of m_U20).1
 refine hK _ _ ⟨hSU20, ?_⟩
 clear hK K hS
 have hS := hSU20
 clear hSU20
 try simp only [Act.put, sd, se, sf]
 clear hS
 refine dn ?_
 try simp only [Act.put]
 go_wp2_with fail
 refine rg (S := fun W => (∀ j, W.cell? ⟨U16.heap.size, j, none⟩ = (#[.int .i64 6, .string ⟨#[109, 97, 112]⟩, .int .i64 0, .int .u64 0, .string ⟨#[]⟩, .int .i64 3, .int .i64 0, .int .i64 0, .int .i64 0, .slice none 0 0, .slice none 0 0] : Array Value)[j]?)) (fun U20d hB4 HU20d => ?_)
 have hS := (cells_of ((hB4.block _ (hblk m_U20)).trans m_U20)).1
 have cU20d := hB4
 clear HU20d hB4
 have zU20d := cU20d.size
 have uU20d : Below w.heap.size w U20d := uU20.trans (cU20d.mono uU20.size)
 have hU20d := hU20.below cU20d
 have x_U20d := (cU20d.block _ (hblk x_U20)).trans x_U20
 have a2_U20d := (cU20d.block _ (hblk a2_U20)).trans a2_U20
 have g2_U20d := (cU20d.block _ (hblk g2_U20)).trans g2_U20
 have l_U20d := (cU20d.block _ (hblk l_U20)).trans l_U20
 have y_U20d := (cU20d.block _ (hblk y_U20)).trans y_U20
 have a3_U20d := (cU20d.block _ (hblk a3_U20)).trans a3_U20
 have m_U20d := (cU20d.block _ (hblk m_U20)).trans m_U20
 have xk_U20d : ∀ b, U7.heap.size ≤ b → b < U8.heap.size → U20d.heap[b]? = U8.heap[b]? := fun b p q => (cU20d.block b (by omega)).trans (xk_U20 b p q)
 clear x_U20 a2_U20 g2_U20 l_U20 y_U20 a3_U20 m_U20 xk_U20
 have cU20dx := cU20d
 clear cU20d hU20 uU20
 have km20d := km20.keep cU20dx
 clear km20 cU20dx
 refine tq 0 (.pointer (some ⟨hb, 0, none⟩)) rfl hS ?_
 simp only [sa, sb, Act.put, sd, se, sf]
 refine tk 1 (.agg #[.int .i64 6, .string ⟨#[109, 97, 112]⟩, .int .i64 0, .int .u64 0, .string ⟨#[]⟩, .int .i64 3, .int .i64 0, .int .i64 0, .int .i64 0, .slice none 0 0, .slice none 0 0]) rfl (.inl ⟨by rfl, ?r⟩) hS ?_
 case r => intro W hW; simp [go_sem, execOp, Act.eval, hW]
 simp only [sa, sb, sc, Act.put, sd, se, sf]
 refine wpAnyH_all (rs := [2, 8]) (by kernel_rfl) (by simp) (fun i2 hi2 => ?_)
 have hi3 : i2 = 2 ∨ i2 = 8 := by simpa using hi2
 clear hi2
 rcases hi3 with rfl | rfl
 ·refine wpOp_step rfl (fun K hK => ite_yes rfl ?_)
  simp only [sa, sb, sc]
  go_simp
  refine (whole_any 1 _).mono ?_
  rintro _ U21 ⟨rfl, cU21⟩
  have zU21 := cU21.size
  have uU21 : Below w.heap.size w U21 := uU20d.trans (cU21.mono uU20d.size)
  have hU21 := hU20d.below cU21
  have x_U21 := (cU21.block _ (hblk x_U20d)).trans x_U20d
  have a2_U21 := (cU21.block _ (hblk a2_U20d)).trans a2_U20d
  have g2_U21 := (cU21.block _ (hblk g2_U20d)).trans g2_U20d
  have l_U21 := (cU21.block _ (hblk l_U20d)).trans l_U20d
  have y_U21 := (cU21.block _ (hblk y_U20d)).trans y_U20d
  have a3_U21 := (cU21.block _ (hblk a3_U20d)).trans a3_U20d
  have m_U21 := (cU21.block _ (hblk m_U20d)).trans m_U20d
  have xk_U21 : ∀ b, U7.heap.size ≤ b → b < U8.heap.size → U21.heap[b]? = U8.heap[b]? := fun b p q => (cU21.block b (by omega)).trans (xk_U20d b p q)
  clear x_U20d a2_U20d g2_U20d l_U20d y_U20d a3_U20d m_U20d xk_U20d
  have cU21x := cU21
  clear cU21 hU20d uU20d
  simp only [wholeD, MD.val, D, List.length_nil]
  have km21 := km20d.keep cU21x
  clear km20d cU21x
  go_simp
  have hSU21 := (cells_of m_U21).1
  refine hK _ _ ⟨hSU21, ?_⟩
  clear hK K hS
  have hS := hSU21
  clear hSU21
  try simp only [Act.put, sd, se, sf]
  refine wpAnyH_all (rs := [3, 8]) (by kernel_rfl) (by simp) (fun i2 hi2 => ?_)
  have hi3 : i2 = 3 ∨ i2 = 8 := by simpa using hi2
  clear hi2
  rcases hi3 with rfl | rfl
  ·refine wpOp_step rfl (fun K hK => ite_yes rfl ?_)
   simp only [sa, sb, sc]
   go_simp
   refine (Get_whole hb M _ 2 ab3 km G' en rfl (lead_map 2 rfl) 1 7 (whole_small 1 (by decide)) sk sv U21 (HN.out _ uU21) hU21 a3_U21 km21).mono ?_
   rintro _ U22 ⟨⟨⟨k4, t4, a4, f4, s4, y0, y1, y2, y3, pp4, path4, pc4⟩, ip4, ic4, items4⟩, rfl, sz, cU22⟩
   have ez : a4 = 7 := (same_parts sz).2.2.1
   subst ez
   clear sz km21
   have zU22 := cU22.size
   have uU22 : Below w.heap.size w U22 := uU21.trans (cU22.mono uU21.size)
   have hU22 := hU21.below cU22
   have x_U22 := (cU22.block _ (hblk x_U21)).trans x_U21
   have a2_U22 := (cU22.block _ (hblk a2_U21)).trans a2_U21
   have g2_U22 := (cU22.block _ (hblk g2_U21)).trans g2_U21
   have l_U22 := (cU22.block _ (hblk l_U21)).trans l_U21
   have y_U22 := (cU22.block _ (hblk y_U21)).trans y_U21
   have a3_U22 := (cU22.block _ (hblk a3_U21)).trans a3_U21
   have m_U22 := (cU22.block _ (hblk m_U21)).trans m_U21
   have xk_U22 : ∀ b, U7.heap.size ≤ b → b < U8.heap.size → U22.heap[b]? = U8.heap[b]? := fun b p q => (cU22.block b (by omega)).trans (xk_U21 b p q)
   clear x_U21 a2_U21 g2_U21 l_U21 y_U21 a3_U21 m_U21 xk_U21
   clear cU22 hU21 uU21
   simp only [MD.val, D]
   go_simp
   have hSU22 := (cells_of m_U22).1
   refine hK _ _ ⟨hSU22, ?_⟩
   clear hK K hS
   have hS := hSU22
   clear hSU22
   try simp only [Act.put, sd, se, sf]
   refine tq 4 (.tuple #[.agg #[.int .i64 k4, .string t4, .int .i64 7, .int .u64 f4, .string s4, .int .i64 y0, .int .i64 y1, .int .i64 y2, .int .i64 y3, .slice pp4 path4.length pc4, .slice ip4 items4.length ic4], .bool true, .nilIface]) rfl hS ?_
   simp only [sa, sb, sc, Act.put, sd, se, sf]
   refine tq 5 (.agg #[.int .i64 k4, .string t4, .int .i64 7, .int .u64 f4, .string s4, .int .i64 y0, .int .i64 y1, .int .i64 y2, .int .i64 y3, .slice pp4 path4.length pc4, .slice ip4 items4.length ic4]) rfl hS ?_
   simp only [sa, sb, sc, Act.put, sd, se, sf]
   refine tq 6 (.bool true) rfl hS ?_
   simp only [sa, sb, sc, Act.put, sd, se, sf]
   refine tq 7 (.nilIface) rfl hS ?_
   simp only [sa, sb, sc, Act.put, sd, se, sf]
   refine one 8 rfl (fun K hK => ?_)
   simp only [sa, sb, sc]
   go_simp
   obtain ⟨U22a, eU22a⟩ : ∃ W, W = U22.alloc (.cells #[.int .i64 0, .string ⟨#[]⟩, .int .i64 0, .int .u64 0, .string ⟨#[]⟩, .int .i64 0, .int .i64 0, .int .i64 0, .int .i64 0, .slice none 0 0, .slice none 0 0] 32) := ⟨_, rfl⟩
   rw [← eU22a]
   have cU22a : Below U22.heap.size U22 U22a := by rw [eU22a]; exact below1 _ _
   have yU22a : U22.heap.size < U22a.heap.size := by rw [eU22a]; simp
   have zb_U22a : U22a.heap[U22.heap.size]? = some (.cells #[.int .i64 0, .string ⟨#[]⟩, .int .i64 0, .int .u64 0, .string ⟨#[]⟩, .int .i64 0, .int .i64 0, .int .i64 0, .int .i64 0, .slice none 0 0, .slice none 0 0] 32) := by rw [eU22a]; exact heap_alloc_new _ _
   clear eU22a
   have zU22a := cU22a.size
   have uU22a : Below w.heap.size w U22a := uU22.trans (cU22a.mono uU22.size)
   have hU22a := hU22.below cU22a
   have x_U22a := (cU22a.block _ (hblk x_U22)).trans x_U22
   have a2_U22a := (cU22a.block _ (hblk a2_U22)).trans a2_U22
   have g2_U22a := (cU22a.block _ (hblk g2_U22)).trans g2_U22
   have l_U22a := (cU22a.block _ (hblk l_U22)).trans l_U22
   have y_U22a := (cU22a.block _ (hblk y_U22)).trans y_U22
   have a3_U22a := (cU22a.block _ (hblk a3_U22)).trans a3_U22
   have m_U22a := (cU22a.block _ (hblk m_U22)).trans m_U22
   have xk_U22a : ∀ b, U7.heap.size ≤ b → b < U8.heap.size → U22a.heap[b]? = U8.heap[b]? := fun b p q => (cU22a.block b (by omega)).trans (xk_U22 b p q)
   clear x_U22 a2_U22 g2_U22 l_U22 y_U22 a3_U22 m_U22 xk_U22
   clear cU22a hU22 uU22
   go_simp
   have hSU22a := (cells_of m_U22a).1
   refine hK _ _ ⟨hSU22a, ?_⟩
   clear hK K hS
   have hS := hSU22a
   clear hSU22a
   try simp only [Act.put, sd, se, sf]
   obtain ⟨nc, nf⟩ := cells_of zb_U22a
   refine one 9 rfl (fun K hK => ?_)
   simp only [sa, sb, sc]
   go_simp
   have kU23 := kp_eleven U22a (U22.heap.size) (.int .i64 k4) (.string t4) (.int .i64 7) (.int .u64 f4) (.string s4) (.int .i64 y0) (.int .i64 y1) (.int .i64 y2) (.int .i64 y3) (.slice pp4 path4.length pc4) (.slice ip4 items4.length ic4)
   have hrU23 := eleven_set zb_U22a (.int .i64 k4) (.string t4) (.int .i64 7) (.int .u64 f4) (.string s4) (.int .i64 y0) (.int .i64 y1) (.int .i64 y2) (.int .i64 y3) (.slice pp4 path4.length pc4) (.slice ip4 items4.length ic4)
   obtain ⟨U23, hU23⟩ : ∃ W, W = (((((((((((U22a.setCell ⟨U22.heap.size, 0, none⟩ (.int .i64 k4)).setCell ⟨U22.heap.size, 1, none⟩ (.string t4)).setCell ⟨U22.heap.size, 2, none⟩ (.int .i64 7)).setCell ⟨U22.heap.size, 3, none⟩ (.int .u64 f4)).setCell ⟨U22.heap.size, 4, none⟩ (.string s4)).setCell ⟨U22.heap.size, 5, none⟩ (.int .i64 y0)).setCell ⟨U22.heap.size, 6, none⟩ (.int .i64 y1)).setCell ⟨U22.heap.size, 7, none⟩ (.int .i64 y2)).setCell ⟨U22.heap.size, 8, none⟩ (.int .i64 y3)).setCell ⟨U22.heap.size, 9, none⟩ (.slice pp4 path4.length pc4)).setCell ⟨U22.heap.size, 10, none⟩ (.slice ip4 items4.length ic4)) := ⟨_, rfl⟩
   rw [← hU23] at kU23 hrU23 ⊢
   clear hU23
   have rcU23 := (cells_of hrU23).1
   clear nc nf rcU23
   have zU23 := kU23.size
   have uU23 : Below w.heap.size w U23 := uU22a.trans (kU23.below uU22a.size fun i hi e => by omega)
   have hU23 := hU22a.kp kU23 (by omega) (by omega)
   have x_U23 := (kU23.block _ (hblk x_U22a) (fun e => by omega)).trans x_U22a
   have a2_U23 := (kU23.block _ (hblk a2_U22a) (fun e => by omega)).trans a2_U22a
   have g2_U23 := (kU23.block _ (hblk g2_U22a) (fun e => by omega)).trans g2_U22a
   have l_U23 := (kU23.block _ (hblk l_U22a) (fun e => by omega)).trans l_U22a
   have y_U23 := (kU23.block _ (hblk y_U22a) (fun e => by omega)).trans y_U22a
   have a3_U23 := (kU23.block _ (hblk a3_U22a) (fun e => by omega)).trans a3_U22a
   have m_U23 := (kU23.block _ (hblk m_U22a) (fun e => by omega)).trans m_U22a
   have xk_U23 : ∀ b, U7.heap.size ≤ b → b < U8.heap.size → U23.heap[b]? = U8.heap[b]? := fun b p q => (kU23.block b (by omega) (fun e => by omega)).trans (xk_U22a b p q)
   clear x_U22a a2_U22a g2_U22a l_U22a y_U22a a3_U22a m_U22a xk_U22a
   have zb_U23 := hrU23
   clear hrU23 kU23 uU22a hU22a zb_U22a
   go_simp
   have hSU23 := (cells_of m_U23).1
   refine hK _ _ ⟨hSU23, ?_⟩
   clear hK K hS
   have hS := hSU23
   clear hSU23
   try simp only [Act.put, sd, se, sf]
   refine one 10 rfl (fun K hK => ?_)
   simp only [sa, sb, sc]
   go_simp
   have hSU23 := (cells_of m_U23).1
   refine hK _ _ ⟨hSU23, ?_⟩
   clear hK K hS
   have hS := hSU23
   clear hSU23
   try simp only [Act.put, sd, se, sf]
   refine one 11 rfl (fun K hK => ?_)
   simp only [sa, sb, sc]
   go_simp
   have hSU23 := (cells_of m_U23).1
   refine hK _ _ ⟨hSU23, ?_⟩
   clear hK K hS
   have hS := hSU23
   clear hSU23
   try simp only [Act.put, sd, se, sf]
   clear hS sk sv
   refine dn ?_
   try simp only [Act.put]
   clear a3_U23 m_U23
   go_wp2_with fail
   refine (whole_any 3 _).mono ?_
   rintro _ U24 ⟨rfl, cU24⟩
   have zU24 := cU24.size
   have uU24 : Below w.heap.size w U24 := uU23.trans (cU24.mono uU23.size)
   have hU24 := hU23.below cU24
   have x_U24 := (cU24.block _ (hblk x_U23)).trans x_U23
   have a2_U24 := (cU24.block _ (hblk a2_U23)).trans a2_U23
   have g2_U24 := (cU24.block _ (hblk g2_U23)).trans g2_U23
   have l_U24 := (cU24.block _ (hblk l_U23)).trans l_U23
   have y_U24 := (cU24.block _ (hblk y_U23)).trans y_U23
   have zb_U24 := (cU24.block _ (hblk zb_U23)).trans zb_U23
   have xk_U24 : ∀ b, U7.heap.size ≤ b → b < U8.heap.size → U24.heap[b]? = U8.heap[b]? := fun b p q => (cU24.block b (by omega)).trans (xk_U23 b p q)
   clear x_U23 a2_U23 g2_U23 l_U23 y_U23 zb_U23 xk_U23
   clear cU24 hU23 uU23
   simp only [wholeD, MD.val, D, List.length_nil]
   go_wp2_with fail
   refine (Box_whole hb M _ (by simp) 3 (whole_small 3 (by decide)) U24 (HN.out _ uU24) hU24).mono ?_
   rintro _ U25 ⟨rfl, ab4, hU25, a4_U25, kU25, ga4⟩
   have zU25 := kU25.size
   have uU25 : Below w.heap.size w U25 := uU24.trans (kU25.below uU24.size fun i hi e => by omega)
   have x_U25 := (kU25.block _ (hblk x_U24) (fun e => by omega)).trans x_U24
   have a2_U25 := (kU25.block _ (hblk a2_U24) (fun e => by omega)).trans a2_U24
   have g2_U25 := (kU25.block _ (hblk g2_U24) (fun e => by omega)).trans g2_U24
   have l_U25 := (kU25.block _ (hblk l_U24) (fun e => by omega)).trans l_U24
   have y_U25 := (kU25.block _ (hblk y_U24) (fun e => by omega)).trans y_U24
   have zb_U25 := (kU25.block _ (hblk zb_U24) (fun e => by omega)).trans zb_U24
   have xk_U25 : ∀ b, U7.heap.size ≤ b → b < U8.heap.size → U25.heap[b]? = U8.heap[b]? := fun b p q => (kU25.block b (by omega) (fun e => by omega)).trans (xk_U24 b p q)
   clear x_U24 a2_U24 g2_U24 l_U24 y_U24 zb_U24 xk_U24
   clear uU24
   clear kU25 hU24
   go_wp2_with fail
   refine (Open_whole hb M _ 3 ab4 rfl 3 U25 hU25 a4_U25).mono ?_
   rintro _ U26 ⟨rfl, cU26⟩
   have zU26 := cU26.size
   have uU26 : Below w.heap.size w U26 := uU25.trans (cU26.mono uU25.size)
   have hU26 := hU25.below cU26
   have x_U26 := (cU26.block _ (hblk x_U25)).trans x_U25
   have a2_U26 := (cU26.block _ (hblk a2_U25)).trans a2_U25
   have g2_U26 := (cU26.block _ (hblk g2_U25)).trans g2_U25
   have l_U26 := (cU26.block _ (hblk l_U25)).trans l_U25
   have y_U26 := (cU26.block _ (hblk y_U25)).trans y_U25
   have zb_U26 := (cU26.block _ (hblk zb_U25)).trans zb_U25
   have a4_U26 := (cU26.block _ (hblk a4_U25)).trans a4_U25
   have xk_U26 : ∀ b, U7.heap.size ≤ b → b < U8.heap.size → U26.heap[b]? = U8.heap[b]? := fun b p q => (cU26.block b (by omega)).trans (xk_U25 b p q)
   clear x_U25 a2_U25 g2_U25 l_U25 y_U25 zb_U25 a4_U25 xk_U25
   clear cU26 hU25 uU25
   clear a4_U26
   simp only [wholeD, MD.val, D, List.length_nil]
   go_wp2_with fail
   obtain ⟨U27, eU27⟩ : ∃ W, W = U26.alloc (.cells #[.int .i64 2, .string ⟨#[105, 110, 116]⟩, .int .i64 3, .int .u64 0, .string ⟨#[]⟩, .int .i64 0, .int .i64 0, .int .i64 0, .int .i64 0, .slice none 0 0, .slice none 0 0] 32) := ⟨_, rfl⟩
   rw [← eU27]
   have cU27 : Below U26.heap.size U26 U27 := by rw [eU27]; exact below1 _ _
   have yU27 : U26.heap.size < U27.heap.size := by rw [eU27]; simp
   have c_U27 : U27.heap[U26.heap.size]? = some (.cells #[.int .i64 2, .string ⟨#[105, 110, 116]⟩, .int .i64 3, .int .u64 0, .string ⟨#[]⟩, .int .i64 0, .int .i64 0, .int .i64 0, .int .i64 0, .slice none 0 0, .slice none 0 0] 32) := by rw [eU27]; exact heap_alloc_new _ _
   clear eU27
   have zU27 := cU27.size
   have uU27 : Below w.heap.size w U27 := uU26.trans (cU27.mono uU26.size)
   have hU27 := hU26.below cU27
   have x_U27 := (cU27.block _ (hblk x_U26)).trans x_U26
   have a2_U27 := (cU27.block _ (hblk a2_U26)).trans a2_U26
   have g2_U27 := (cU27.block _ (hblk g2_U26)).trans g2_U26
   have l_U27 := (cU27.block _ (hblk l_U26)).trans l_U26
   have y_U27 := (cU27.block _ (hblk y_U26)).trans y_U26
   have zb_U27 := (cU27.block _ (hblk zb_U26)).trans zb_U26
   have xk_U27 : ∀ b, U7.heap.size ≤ b → b < U8.heap.size → U27.heap[b]? = U8.heap[b]? := fun b p q => (cU27.block b (by omega)).trans (xk_U26 b p q)
   clear x_U26 a2_U26 g2_U26 l_U26 y_U26 zb_U26 xk_U26
   clear cU27 hU26 uU26
   refine (Func_0 hb M _ (by simp) U27 hU27).mono ?_
   rintro _ U28 ⟨rfl, ab5, hU28, a5_U28, kU28, ga5⟩
   have zU28 := kU28.size
   have uU28 : Below w.heap.size w U28 := uU27.trans (kU28.below uU27.size fun i hi e => by omega)
   have x_U28 := (kU28.block _ (hblk x_U27) (fun e => by omega)).trans x_U27
   have a2_U28 := (kU28.block _ (hblk a2_U27) (fun e => by omega)).trans a2_U27
   have g2_U28 := (kU28.block _ (hblk g2_U27) (fun e => by omega)).trans g2_U27
   have l_U28 := (kU28.block _ (hblk l_U27) (fun e => by omega)).trans l_U27
   have y_U28 := (kU28.block _ (hblk y_U27) (fun e => by omega)).trans y_U27
   have zb_U28 := (kU28.block _ (hblk zb_U27) (fun e => by omega)).trans zb_U27
   have c_U28 := (kU28.block _ (hblk c_U27) (fun e => by omega)).trans c_U27
   have xk_U28 : ∀ b, U7.heap.size ≤ b → b < U8.heap.size → U28.heap[b]? = U8.heap[b]? := fun b p q => (kU28.block b (by omega) (fun e => by omega)).trans (xk_U27 b p q)
   clear x_U27 a2_U27 g2_U27 l_U27 y_U27 zb_U27 c_U27 xk_U27
   clear uU27
   clear kU28 hU27
   simp only [leadD, MD.val, D, List.length_nil]
   go_wp2_with fail
   obtain ⟨U29, eU29⟩ : ∃ W, W = U28.alloc (.cells #[.int .i64 7, .string ⟨#[102, 117, 110, 99]⟩, .int .i64 0, .int .u64 0, .string ⟨#[]⟩, .int .i64 5, .int .i64 0, .int .i64 0, .int .i64 0, .slice none 0 0, .slice none 0 0] 32) := ⟨_, rfl⟩
   rw [← eU29]
   have cU29 : Below U28.heap.size U28 U29 := by rw [eU29]; exact below1 _ _
   have yU29 : U28.heap.size < U29.heap.size := by rw [eU29]; simp
   have r_U29 : U29.heap[U28.heap.size]? = some (.cells #[.int .i64 7, .string ⟨#[102, 117, 110, 99]⟩, .int .i64 0, .int .u64 0, .string ⟨#[]⟩, .int .i64 5, .int .i64 0, .int .i64 0, .int .i64 0, .slice none 0 0, .slice none 0 0] 32) := by rw [eU29]; exact heap_alloc_new _ _
   clear eU29
   have zU29 := cU29.size
   have uU29 : Below w.heap.size w U29 := uU28.trans (cU29.mono uU28.size)
   have hU29 := hU28.below cU29
   have x_U29 := (cU29.block _ (hblk x_U28)).trans x_U28
   have a2_U29 := (cU29.block _ (hblk a2_U28)).trans a2_U28
   have g2_U29 := (cU29.block _ (hblk g2_U28)).trans g2_U28
   have l_U29 := (cU29.block _ (hblk l_U28)).trans l_U28
   have y_U29 := (cU29.block _ (hblk y_U28)).trans y_U28
   have zb_U29 := (cU29.block _ (hblk zb_U28)).trans zb_U28
   have c_U29 := (cU29.block _ (hblk c_U28)).trans c_U28
   have a5_U29 := (cU29.block _ (hblk a5_U28)).trans a5_U28
   have xk_U29 : ∀ b, U7.heap.size ≤ b → b < U8.heap.size → U29.heap[b]? = U8.heap[b]? := fun b p q => (cU29.block b (by omega)).trans (xk_U28 b p q)
   clear x_U28 a2_U28 g2_U28 l_U28 y_U28 zb_U28 c_U28 a5_U28 xk_U28
   clear cU29 hU28 uU28
   refine (Called_0 hb M _ 4 ab5 rfl (lead_func 4 rfl) U29 (HN.out _ uU29) hU29 a5_U29).mono ?_
   rintro _ U30 ⟨rfl, cU30⟩
   have zU30 := cU30.size
   have uU30 : Below w.heap.size w U30 := uU29.trans (cU30.mono uU29.size)
   have hU30 := hU29.below cU30
   have x_U30 := (cU30.block _ (hblk x_U29)).trans x_U29
   have a2_U30 := (cU30.block _ (hblk a2_U29)).trans a2_U29
   have g2_U30 := (cU30.block _ (hblk g2_U29)).trans g2_U29
   have l_U30 := (cU30.block _ (hblk l_U29)).trans l_U29
   have y_U30 := (cU30.block _ (hblk y_U29)).trans y_U29
   have zb_U30 := (cU30.block _ (hblk zb_U29)).trans zb_U29
   have c_U30 := (cU30.block _ (hblk c_U29)).trans c_U29
   have a5_U30 := (cU30.block _ (hblk a5_U29)).trans a5_U29
   have r_U30 := (cU30.block _ (hblk r_U29)).trans r_U29
   have xk_U30 : ∀ b, U7.heap.size ≤ b → b < U8.heap.size → U30.heap[b]? = U8.heap[b]? := fun b p q => (cU30.block b (by omega)).trans (xk_U29 b p q)
   clear x_U29 a2_U29 g2_U29 l_U29 y_U29 zb_U29 c_U29 a5_U29 r_U29 xk_U29
   clear cU30 hU29 uU29
   clear a5_U30 r_U30
   have xc := (cells_of x_U30).1
   have xl := hblk x_U30
   go_wp2_with fail
   clear xc
   clear xl
   refine rg (S := fun W => (∀ j, W.cell? ⟨U8.heap.size, j, none⟩ = (#[.int .i64 k1, .string t1, .int .i64 a1, .int .u64 f1, .string s1, .int .i64 x0, .int .i64 x1, .int .i64 x2, .int .i64 x3, .slice pp1 path1.length pc1, .slice ip1 items1.length ic1] : Array Value)[j]?)) (fun U30d hB4 HU30d => ?_)
   have hS := (cells_of ((hB4.block _ (hblk x_U30)).trans x_U30)).1
   have cU30d := hB4
   clear HU30d hB4
   have zU30d := cU30d.size
   have uU30d : Below w.heap.size w U30d := uU30.trans (cU30d.mono uU30.size)
   have hU30d := hU30.below cU30d
   have x_U30d := (cU30d.block _ (hblk x_U30)).trans x_U30
   have a2_U30d := (cU30d.block _ (hblk a2_U30)).trans a2_U30
   have g2_U30d := (cU30d.block _ (hblk g2_U30)).trans g2_U30
   have l_U30d := (cU30d.block _ (hblk l_U30)).trans l_U30
   have y_U30d := (cU30d.block _ (hblk y_U30)).trans y_U30
   have zb_U30d := (cU30d.block _ (hblk zb_U30)).trans zb_U30
   have c_U30d := (cU30d.block _ (hblk c_U30)).trans c_U30
   have xk_U30d : ∀ b, U7.heap.size ≤ b → b < U8.heap.size → U30d.heap[b]? = U8.heap[b]? := fun b p q => (cU30d.block b (by omega)).trans (xk_U30 b p q)
   clear x_U30 a2_U30 g2_U30 l_U30 y_U30 zb_U30 c_U30 xk_U30
   clear cU30d hU30 uU30
   refine tk 0 (.agg #[.int .i64 k1, .string t1, .int .i64 a1, .int .u64 f1, .string s1, .int .i64 x0, .int .i64 x1, .int .i64 x2, .int .i64 x3, .slice pp1 path1.length pc1, .slice ip1 items1.length ic1]) rfl (.inl ⟨by rfl, ?r⟩) hS ?_
   case r => intro W hW; simp [go_sem, execOp, Act.eval, hW]
   simp only [sa, sb, Act.put, sd, se, sf]
   refine one 1 rfl (fun K hK => ?_)
   simp only [sa, sb, sc]
   go_simp
   refine (whole_any 1 _).mono ?_
   rintro _ U31 ⟨rfl, cU31⟩
   have zU31 := cU31.size
   have uU31 : Below w.heap.size w U31 := uU30d.trans (cU31.mono uU30d.size)
   have hU31 := hU30d.below cU31
   have x_U31 := (cU31.block _ (hblk x_U30d)).trans x_U30d
   have a2_U31 := (cU31.block _ (hblk a2_U30d)).trans a2_U30d
   have g2_U31 := (cU31.block _ (hblk g2_U30d)).trans g2_U30d
   have l_U31 := (cU31.block _ (hblk l_U30d)).trans l_U30d
   have y_U31 := (cU31.block _ (hblk y_U30d)).trans y_U30d
   have zb_U31 := (cU31.block _ (hblk zb_U30d)).trans zb_U30d
   have c_U31 := (cU31.block _ (hblk c_U30d)).trans c_U30d
   have xk_U31 : ∀ b, U7.heap.size ≤ b → b < U8.heap.size → U31.heap[b]? = U8.heap[b]? := fun b p q => (cU31.block b (by omega)).trans (xk_U30d b p q)
   clear x_U30d a2_U30d g2_U30d l_U30d y_U30d zb_U30d c_U30d xk_U30d
   clear cU31 hU30d uU30d
   simp only [wholeD, MD.val, D, List.length_nil]
   go_simp
   have hSU31 := (cells_of x_U31).1
   refine hK _ _ ⟨hSU31, ?_⟩
   clear hK K hS
   have hS := hSU31
   clear hSU31
   try simp only [Act.put, sd, se, sf]
   refine one 2 rfl (fun K hK => ?_)
   simp only [sa, sb, sc]
   go_simp
   refine (whole_any 2 _).mono ?_
   rintro _ U32 ⟨rfl, cU32⟩
   have zU32 := cU32.size
   have uU32 : Below w.heap.size w U32 := uU31.trans (cU32.mono uU31.size)
   have hU32 := hU31.below cU32
   have x_U32 := (cU32.block _ (hblk x_U31)).trans x_U31
   have a2_U32 := (cU32.block _ (hblk a2_U31)).trans a2_U31
   have g2_U32 := (cU32.block _ (hblk g2_U31)).trans g2_U31
   have l_U32 := (cU32.block _ (hblk l_U31)).trans l_U31
   have y_U32 := (cU32.block _ (hblk y_U31)).trans y_U31
   have zb_U32 := (cU32.block _ (hblk zb_U31)).trans zb_U31
   have c_U32 := (cU32.block _ (hblk c_U31)).trans c_U31
   have xk_U32 : ∀ b, U7.heap.size ≤ b → b < U8.heap.size → U32.heap[b]? = U8.heap[b]? := fun b p q => (cU32.block b (by omega)).trans (xk_U31 b p q)
   clear x_U31 a2_U31 g2_U31 l_U31 y_U31 zb_U31 c_U31 xk_U31
   clear cU32 hU31 uU31
   simp only [wholeD, MD.val, D, List.length_nil]
   go_simp
   have hSU32 := (cells_of x_U32).1
   refine hK _ _ ⟨hSU32, ?_⟩
   clear hK K hS
   have hS := hSU32
   clear hSU32
   try simp only [Act.put, sd, se, sf]
   refine one 3 rfl (fun K hK => ?_)
   simp only [sa, sb, sc]
   go_simp
   refine (pair_any 1 2 _).mono ?_
   rintro _ U33 ⟨rfl, cU33, g33⟩
   have zU33 := cU33.size
   have uU33 : Below w.heap.size w U33 := uU32.trans (cU33.mono uU32.size)
   have hU33 := hU32.below cU33
   have x_U33 := (cU33.block _ (hblk x_U32)).trans x_U32
   have a2_U33 := (cU33.block _ (hblk a2_U32)).trans a2_U32
   have g2_U33 := (cU33.block _ (hblk g2_U32)).trans g2_U32
   have l_U33 := (cU33.block _ (hblk l_U32)).trans l_U32
   have y_U33 := (cU33.block _ (hblk y_U32)).trans y_U32
   have zb_U33 := (cU33.block _ (hblk zb_U32)).trans zb_U32
   have c_U33 := (cU33.block _ (hblk c_U32)).trans c_U32
   have xk_U33 : ∀ b, U7.heap.size ≤ b → b < U8.heap.size → U33.heap[b]? = U8.heap[b]? := fun b p q => (cU33.block b (by omega)).trans (xk_U32 b p q)
   clear x_U32 a2_U32 g2_U32 l_U32 y_U32 zb_U32 c_U32 xk_U32
   clear cU33 hU32 uU32
   go_simp
   have hSU33 := (cells_of x_U33).1
   refine hK _ _ ⟨hSU33, ?_⟩
   clear hK K hS
   have hS := hSU33
   clear hSU33
   try simp only [Act.put, sd, se, sf]
   refine one 4 rfl (fun K hK => ?_)
   simp only [sa, sb, sc]
   go_simp
   have in33 := pairD_in (whole_small 1 (by decide)) (whole_small 2 (by decide)) g33
   have ix33 : MD.In U33.heap.size U33 5 ⟨⟨k1, t1, a1, f1, s1, x0, x1, x2, x3, pp1, path1, pc1⟩, ip1, ic1, items1⟩ := MD.In.mono (by omega) 5 _ (MD.In.aloft (fun b p q => xk_U33 b p q) 5 _ IN.out AB.out)
   have es33 : MD.same 5 ⟨⟨k1, t1, a1, f1, s1, x0, x1, x2, x3, pp1, path1, pc1⟩, ip1, ic1, items1⟩ (pairD (U32.heap.size + 3) 1 2) = true := same_trans 5 _ _ _ (same_comm 5 _ _ SM.out) (pair_same _ _ 1 2)
   refine (refSame_any 5 ⟨⟨k1, t1, a1, f1, s1, x0, x1, x2, x3, pp1, path1, pc1⟩, ip1, ic1, items1⟩ (pairD (U32.heap.size + 3) 1 2) U33 ix33 in33).mono ?_
   rintro _ U34 ⟨rfl, cU34⟩
   rw [es33]
   clear in33 ix33 es33 g33
   have zU34 := cU34.size
   have uU34 : Below w.heap.size w U34 := uU33.trans (cU34.mono uU33.size)
   have hU34 := hU33.below cU34
   have x_U34 := (cU34.block _ (hblk x_U33)).trans x_U33
   have a2_U34 := (cU34.block _ (hblk a2_U33)).trans a2_U33
   have g2_U34 := (cU34.block _ (hblk g2_U33)).trans g2_U33
   have l_U34 := (cU34.block _ (hblk l_U33)).trans l_U33
   have y_U34 := (cU34.block _ (hblk y_U33)).trans y_U33
   have zb_U34 := (cU34.block _ (hblk zb_U33)).trans zb_U33
   have c_U34 := (cU34.block _ (hblk c_U33)).trans c_U33
   have xk_U34 : ∀ b, U7.heap.size ≤ b → b < U8.heap.size → U34.heap[b]? = U8.heap[b]? := fun b p q => (cU34.block b (by omega)).trans (xk_U33 b p q)
   clear x_U33 a2_U33 g2_U33 l_U33 y_U33 zb_U33 c_U33 xk_U33
   clear cU34 hU33 uU33
   go_simp
   have hSU34 := (cells_of x_U34).1
   refine hK _ _ ⟨hSU34, ?_⟩
   clear hK K hS
   have hS := hSU34
   clear hSU34
   try simp only [Act.put, sd, se, sf]
   refine one 5 rfl (fun K hK => ?_)
   simp only [sa, sb, sc]
   go_simp
   have hSU34 := (cells_of x_U34).1
   refine hK _ _ ⟨hSU34, ?_⟩
   clear hK K hS
   have hS := hSU34
   clear hSU34
   try simp only [Act.put, sd, se, sf]
   clear hS x_U34 xk_U34 IN AB SM
   refine dn ?_
   try simp only [Act.put]
   have yc := (cells_of y_U34).1
   have zbc := (cells_of zb_U34).1
   have cc := (cells_of c_U34).1
   have lc := (cells_of l_U34).1
   go_wp2_with fail
   clear yc zbc cc lc
   refine (Show_list hb M (some ⟨tb, 0, none⟩) _ 1 ab2 g2 rfl (lead_list1 1 rfl) 5 (by decide) (whole_small 5 (by decide)) U34 (HN.out _ uU34) hU34 a2_U34 g2_U34).mono ?_
   rintro _ U35 ⟨rfl, cU35⟩
   rw [show5]
   have zU35 := cU35.size
   have uU35 : Below w.heap.size w U35 := uU34.trans (cU35.mono uU34.size)
   have hU35 := hU34.below cU35
   have a2_U35 := (cU35.block _ (hblk a2_U34)).trans a2_U34
   have g2_U35 := (cU35.block _ (hblk g2_U34)).trans g2_U34
   have l_U35 := (cU35.block _ (hblk l_U34)).trans l_U34
   have y_U35 := (cU35.block _ (hblk y_U34)).trans y_U34
   have zb_U35 := (cU35.block _ (hblk zb_U34)).trans zb_U34
   have c_U35 := (cU35.block _ (hblk c_U34)).trans c_U34
   clear a2_U34 g2_U34 l_U34 y_U34 zb_U34 c_U34
   clear cU35 hU34 uU34
   have yc := (cells_of y_U35).1
   have zbc := (cells_of zb_U35).1
   have cc := (cells_of c_U35).1
   have lc := (cells_of l_U35).1
   go_wp2_with fail
   refine (Things_any hb M _ (by simp) U35 hU35).mono ?_
   rintro _ U36 ⟨⟨tp, tc, rfl⟩, cU36⟩
   have uU36 : Below w.heap.size w U36 := uU35.trans (cU36.mono uU35.size)
   clear yc zbc cc lc
   go_wp2_with fail
   go_ret
   exact ⟨rfl, uU36⟩
  ·refine wpOp_step rfl (fun K hK => ite_yes rfl ?_)
   simp only [sa, sb, sc]
   go_simp
   obtain ⟨U21a, eU21a⟩ : ∃ W, W = U21.alloc (.cells #[.int .i64 0, .string ⟨#[]⟩, .int .i64 0, .int .u64 0, .string ⟨#[]⟩, .int .i64 0, .int .i64 0, .int .i64 0, .int .i64 0, .slice none 0 0, .slice none 0 0] 32) := ⟨_, rfl⟩
   rw [← eU21a]
   have cU21a : Below U21.heap.size U21 U21a := by rw [eU21a]; exact below1 _ _
   have yU21a : U21.heap.size < U21a.heap.size := by rw [eU21a]; simp
   have zb_U21a : U21a.heap[U21.heap.size]? = some (.cells #[.int .i64 0, .string ⟨#[]⟩, .int .i64 0, .int .u64 0, .string ⟨#[]⟩, .int .i64 0, .int .i64 0, .int .i64 0, .int .i64 0, .slice none 0 0, .slice none 0 0] 32) := by rw [eU21a]; exact heap_alloc_new _ _
   clear eU21a
   have zU21a := cU21a.size
   have uU21a : Below w.heap.size w U21a := uU21.trans (cU21a.mono uU21.size)
   have hU21a := hU21.below cU21a
   have x_U21a := (cU21a.block _ (hblk x_U21)).trans x_U21
   have a2_U21a := (cU21a.block _ (hblk a2_U21)).trans a2_U21
   have g2_U21a := (cU21a.block _ (hblk g2_U21)).trans g2_U21
   have l_U21a := (cU21a.block _ (hblk l_U21)).trans l_U21
   have y_U21a := (cU21a.block _ (hblk y_U21)).trans y_U21
   have a3_U21a := (cU21a.block _ (hblk a3_U21)).trans a3_U21
   have m_U21a := (cU21a.block _ (hblk m_U21)).trans m_U21
   have xk_U21a : ∀ b, U7.heap.size ≤ b → b < U8.heap.size → U21a.heap[b]? = U8.heap[b]? := fun b p q => (cU21a.block b (by omega)).trans (xk_U21 b p q)
   clear x_U21 a2_U21 g2_U21 l_U21 y_U21 a3_U21 m_U21 xk_U21
   have cU21ax := cU21a
   clear cU21a hU21 uU21
   have km21a := km21.keep cU21ax
   clear km21 cU21ax
   go_simp
   have hSU21a := (cells_of m_U21a).1
   refine hK _ _ ⟨hSU21a, ?_⟩
   clear hK K hS
   have hS := hSU21a
   clear hSU21a
   try simp only [Act.put, sd, se, sf]
   refine one 3 rfl (fun K hK => ?_)
   simp only [sa, sb, sc]
   go_simp
   refine (Get_whole hb M _ 2 ab3 km G' en rfl (lead_map 2 rfl) 1 7 (whole_small 1 (by decide)) sk sv U21a (HN.out _ uU21a) hU21a a3_U21a km21a).mono ?_
   rintro _ U22 ⟨⟨⟨k4, t4, a4, f4, s4, y0, y1, y2, y3, pp4, path4, pc4⟩, ip4, ic4, items4⟩, rfl, sz, cU22⟩
   have ez : a4 = 7 := (same_parts sz).2.2.1
   subst ez
   clear sz km21a
   have zU22 := cU22.size
   have uU22 : Below w.heap.size w U22 := uU21a.trans (cU22.mono uU21a.size)
   have hU22 := hU21a.below cU22
   have x_U22 := (cU22.block _ (hblk x_U21a)).trans x_U21a
   have a2_U22 := (cU22.block _ (hblk a2_U21a)).trans a2_U21a
   have g2_U22 := (cU22.block _ (hblk g2_U21a)).trans g2_U21a
   have l_U22 := (cU22.block _ (hblk l_U21a)).trans l_U21a
   have y_U22 := (cU22.block _ (hblk y_U21a)).trans y_U21a
   have a3_U22 := (cU22.block _ (hblk a3_U21a)).trans a3_U21a
   have m_U22 := (cU22.block _ (hblk m_U21a)).trans m_U21a
   have zb_U22 := (cU22.block _ (hblk zb_U21a)).trans zb_U21a
   have xk_U22 : ∀ b, U7.heap.size ≤ b → b < U8.heap.size → U22.heap[b]? = U8.heap[b]? := fun b p q => (cU22.block b (by omega)).trans (xk_U21a b p q)
   clear x_U21a a2_U21a g2_U21a l_U21a y_U21a a3_U21a m_U21a zb_U21a xk_U21a
   clear cU22 hU21a uU21a
   simp only [MD.val, D]
   go_simp
   have hSU22 := (cells_of m_U22).1
   refine hK _ _ ⟨hSU22, ?_⟩
   clear hK K hS
   have hS := hSU22
   clear hSU22
   try simp only [Act.put, sd, se, sf]
   refine tq 4 (.tuple #[.agg #[.int .i64 k4, .string t4, .int .i64 7, .int .u64 f4, .string s4, .int .i64 y0, .int .i64 y1, .int .i64 y2, .int .i64 y3, .slice pp4 path4.length pc4, .slice ip4 items4.length ic4], .bool true, .nilIface]) rfl hS ?_
   simp only [sa, sb, sc, Act.put, sd, se, sf]
   refine tq 5 (.agg #[.int .i64 k4, .string t4, .int .i64 7, .int .u64 f4, .string s4, .int .i64 y0, .int .i64 y1, .int .i64 y2, .int .i64 y3, .slice pp4 path4.length pc4, .slice ip4 items4.length ic4]) rfl hS ?_
   simp only [sa, sb, sc, Act.put, sd, se, sf]
   refine tq 6 (.bool true) rfl hS ?_
   simp only [sa, sb, sc, Act.put, sd, se, sf]
   refine tq 7 (.nilIface) rfl hS ?_
   simp only [sa, sb, sc, Act.put, sd, se, sf]
   obtain ⟨nc, nf⟩ := cells_of zb_U22
   refine one 9 rfl (fun K hK => ?_)
   simp only [sa, sb, sc]
   go_simp
   have kU23 := kp_eleven U22 (U21.heap.size) (.int .i64 k4) (.string t4) (.int .i64 7) (.int .u64 f4) (.string s4) (.int .i64 y0) (.int .i64 y1) (.int .i64 y2) (.int .i64 y3) (.slice pp4 path4.length pc4) (.slice ip4 items4.length ic4)
   have hrU23 := eleven_set zb_U22 (.int .i64 k4) (.string t4) (.int .i64 7) (.int .u64 f4) (.string s4) (.int .i64 y0) (.int .i64 y1) (.int .i64 y2) (.int .i64 y3) (.slice pp4 path4.length pc4) (.slice ip4 items4.length ic4)
   obtain ⟨U23, hU23⟩ : ∃ W, W = (((((((((((U22.setCell ⟨U21.heap.size, 0, none⟩ (.int .i64 k4)).setCell ⟨U21.heap.size, 1, none⟩ (.string t4)).setCell ⟨U21.heap.size, 2, none⟩ (.int .i64 7)).setCell ⟨U21.heap.size, 3, none⟩ (.int .u64 f4)).setCell ⟨U21.heap.size, 4, none⟩ (.string s4)).setCell ⟨U21.heap.size, 5, none⟩ (.int .i64 y0)).setCell ⟨U21.heap.size, 6, none⟩ (.int .i64 y1)).setCell ⟨U21.heap.size, 7, none⟩ (.int .i64 y2)).setCell ⟨U21.heap.size, 8, none⟩ (.int .i64 y3)).setCell ⟨U21.heap.size, 9, none⟩ (.slice pp4 path4.length pc4)).setCell ⟨U21.heap.size, 10, none⟩ (.slice ip4 items4.length ic4)) := ⟨_, rfl⟩
   rw [← hU23] at kU23 hrU23 ⊢
   clear hU23
   have rcU23 := (cells_of hrU23).1
   clear nc nf rcU23
   have zU23 := kU23.size
   have uU23 : Below w.heap.size w U23 := uU22.trans (kU23.below uU22.size fun i hi e => by omega)
   have hU23 := hU22.kp kU23 (by omega) (by omega)
   have x_U23 := (kU23.block _ (hblk x_U22) (fun e => by omega)).trans x_U22
   have a2_U23 := (kU23.block _ (hblk a2_U22) (fun e => by omega)).trans a2_U22
   have g2_U23 := (kU23.block _ (hblk g2_U22) (fun e => by omega)).trans g2_U22
   have l_U23 := (kU23.block _ (hblk l_U22) (fun e => by omega)).trans l_U22
   have y_U23 := (kU23.block _ (hblk y_U22) (fun e => by omega)).trans y_U22
   have a3_U23 := (kU23.block _ (hblk a3_U22) (fun e => by omega)).trans a3_U22
   have m_U23 := (kU23.block _ (hblk m_U22) (fun e => by omega)).trans m_U22
   have xk_U23 : ∀ b, U7.heap.size ≤ b → b < U8.heap.size → U23.heap[b]? = U8.heap[b]? := fun b p q => (kU23.block b (by omega) (fun e => by omega)).trans (xk_U22 b p q)
   clear x_U22 a2_U22 g2_U22 l_U22 y_U22 a3_U22 m_U22 xk_U22
   have zb_U23 := hrU23
   clear hrU23 kU23 uU22 hU22 zb_U22
   go_simp
   have hSU23 := (cells_of m_U23).1
   refine hK _ _ ⟨hSU23, ?_⟩
   clear hK K hS
   have hS := hSU23
   clear hSU23
   try simp only [Act.put, sd, se, sf]
   refine one 10 rfl (fun K hK => ?_)
   simp only [sa, sb, sc]
   go_simp
   have hSU23 := (cells_of m_U23).1
   refine hK _ _ ⟨hSU23, ?_⟩
   clear hK K hS
   have hS := hSU23
   clear hSU23
   try simp only [Act.put, sd, se, sf]
   refine one 11 rfl (fun K hK => ?_)
   simp only [sa, sb, sc]
   go_simp
   have hSU23 := (cells_of m_U23).1
   refine hK _ _ ⟨hSU23, ?_⟩
   clear hK K hS
   have hS := hSU23
   clear hSU23
   try simp only [Act.put, sd, se, sf]
   clear hS sk sv
   refine dn ?_
   try simp only [Act.put]
   clear a3_U23 m_U23
   go_wp2_with fail
   refine (whole_any 3 _).mono ?_
   rintro _ U24 ⟨rfl, cU24⟩
   have zU24 := cU24.size
   have uU24 : Below w.heap.size w U24 := uU23.trans (cU24.mono uU23.size)
   have hU24 := hU23.below cU24
   have x_U24 := (cU24.block _ (hblk x_U23)).trans x_U23
   have a2_U24 := (cU24.block _ (hblk a2_U23)).trans a2_U23
   have g2_U24 := (cU24.block _ (hblk g2_U23)).trans g2_U23
   have l_U24 := (cU24.block _ (hblk l_U23)).trans l_U23
   have y_U24 := (cU24.block _ (hblk y_U23)).trans y_U23
   have zb_U24 := (cU24.block _ (hblk zb_U23)).trans zb_U23
   have xk_U24 : ∀ b, U7.heap.size ≤ b → b < U8.heap.size → U24.heap[b]? = U8.heap[b]? := fun b p q => (cU24.block b (by omega)).trans (xk_U23 b p q)
   clear x_U23 a2_U23 g2_U23 l_U23 y_U23 zb_U23 xk_U23
   clear cU24 hU23 uU23
   simp only [wholeD, MD.val, D, List.length_nil]
   go_wp2_with fail
   refine (Box_whole hb M _ (by simp) 3 (whole_small 3 (by decide)) U24 (HN.out _ uU24) hU24).mono ?_
   rintro _ U25 ⟨rfl, ab4, hU25, a4_U25, kU25, ga4⟩
   have zU25 := kU25.size
   have uU25 : Below w.heap.size w U25 := uU24.trans (kU25.below uU24.size fun i hi e => by omega)
   have x_U25 := (kU25.block _ (hblk x_U24) (fun e => by omega)).trans x_U24
   have a2_U25 := (kU25.block _ (hblk a2_U24) (fun e => by omega)).trans a2_U24
   have g2_U25 := (kU25.block _ (hblk g2_U24) (fun e => by omega)).trans g2_U24
   have l_U25 := (kU25.block _ (hblk l_U24) (fun e => by omega)).trans l_U24
   have y_U25 := (kU25.block _ (hblk y_U24) (fun e => by omega)).trans y_U24
   have zb_U25 := (kU25.block _ (hblk zb_U24) (fun e => by omega)).trans zb_U24
   have xk_U25 : ∀ b, U7.heap.size ≤ b → b < U8.heap.size → U25.heap[b]? = U8.heap[b]? := fun b p q => (kU25.block b (by omega) (fun e => by omega)).trans (xk_U24 b p q)
   clear x_U24 a2_U24 g2_U24 l_U24 y_U24 zb_U24 xk_U24
   clear uU24
   clear kU25 hU24
   go_wp2_with fail
   refine (Open_whole hb M _ 3 ab4 rfl 3 U25 hU25 a4_U25).mono ?_
   rintro _ U26 ⟨rfl, cU26⟩
   have zU26 := cU26.size
   have uU26 : Below w.heap.size w U26 := uU25.trans (cU26.mono uU25.size)
   have hU26 := hU25.below cU26
   have x_U26 := (cU26.block _ (hblk x_U25)).trans x_U25
   have a2_U26 := (cU26.block _ (hblk a2_U25)).trans a2_U25
   have g2_U26 := (cU26.block _ (hblk g2_U25)).trans g2_U25
   have l_U26 := (cU26.block _ (hblk l_U25)).trans l_U25
   have y_U26 := (cU26.block _ (hblk y_U25)).trans y_U25
   have zb_U26 := (cU26.block _ (hblk zb_U25)).trans zb_U25
   have a4_U26 := (cU26.block _ (hblk a4_U25)).trans a4_U25
   have xk_U26 : ∀ b, U7.heap.size ≤ b → b < U8.heap.size → U26.heap[b]? = U8.heap[b]? := fun b p q => (cU26.block b (by omega)).trans (xk_U25 b p q)
   clear x_U25 a2_U25 g2_U25 l_U25 y_U25 zb_U25 a4_U25 xk_U25
   clear cU26 hU25 uU25
   clear a4_U26
   simp only [wholeD, MD.val, D, List.length_nil]
   go_wp2_with fail
   obtain ⟨U27, eU27⟩ : ∃ W, W = U26.alloc (.cells #[.int .i64 2, .string ⟨#[105, 110, 116]⟩, .int .i64 3, .int .u64 0, .string ⟨#[]⟩, .int .i64 0, .int .i64 0, .int .i64 0, .int .i64 0, .slice none 0 0, .slice none 0 0] 32) := ⟨_, rfl⟩
   rw [← eU27]
   have cU27 : Below U26.heap.size U26 U27 := by rw [eU27]; exact below1 _ _
   have yU27 : U26.heap.size < U27.heap.size := by rw [eU27]; simp
   have c_U27 : U27.heap[U26.heap.size]? = some (.cells #[.int .i64 2, .string ⟨#[105, 110, 116]⟩, .int .i64 3, .int .u64 0, .string ⟨#[]⟩, .int .i64 0, .int .i64 0, .int .i64 0, .int .i64 0, .slice none 0 0, .slice none 0 0] 32) := by rw [eU27]; exact heap_alloc_new _ _
   clear eU27
   have zU27 := cU27.size
   have uU27 : Below w.heap.size w U27 := uU26.trans (cU27.mono uU26.size)
   have hU27 := hU26.below cU27
   have x_U27 := (cU27.block _ (hblk x_U26)).trans x_U26
   have a2_U27 := (cU27.block _ (hblk a2_U26)).trans a2_U26
   have g2_U27 := (cU27.block _ (hblk g2_U26)).trans g2_U26
   have l_U27 := (cU27.block _ (hblk l_U26)).trans l_U26
   have y_U27 := (cU27.block _ (hblk y_U26)).trans y_U26
   have zb_U27 := (cU27.block _ (hblk zb_U26)).trans zb_U26
   have xk_U27 : ∀ b, U7.heap.size ≤ b → b < U8.heap.size → U27.heap[b]? = U8.heap[b]? := fun b p q => (cU27.block b (by omega)).trans (xk_U26 b p q)
   clear x_U26 a2_U26 g2_U26 l_U26 y_U26 zb_U26 xk_U26
   clear cU27 hU26 uU26
   refine (Func_0 hb M _ (by simp) U27 hU27).mono ?_
   rintro _ U28 ⟨rfl, ab5, hU28, a5_U28, kU28, ga5⟩
   have zU28 := kU28.size
   have uU28 : Below w.heap.size w U28 := uU27.trans (kU28.below uU27.size fun i hi e => by omega)
   have x_U28 := (kU28.block _ (hblk x_U27) (fun e => by omega)).trans x_U27
   have a2_U28 := (kU28.block _ (hblk a2_U27) (fun e => by omega)).trans a2_U27
   have g2_U28 := (kU28.block _ (hblk g2_U27) (fun e => by omega)).trans g2_U27
   have l_U28 := (kU28.block _ (hblk l_U27) (fun e => by omega)).trans l_U27
   have y_U28 := (kU28.block _ (hblk y_U27) (fun e => by omega)).trans y_U27
   have zb_U28 := (kU28.block _ (hblk zb_U27) (fun e => by omega)).trans zb_U27
   have c_U28 := (kU28.block _ (hblk c_U27) (fun e => by omega)).trans c_U27
   have xk_U28 : ∀ b, U7.heap.size ≤ b → b < U8.heap.size → U28.heap[b]? = U8.heap[b]? := fun b p q => (kU28.block b (by omega) (fun e => by omega)).trans (xk_U27 b p q)
   clear x_U27 a2_U27 g2_U27 l_U27 y_U27 zb_U27 c_U27 xk_U27
   clear uU27
   clear kU28 hU27
   simp only [leadD, MD.val, D, List.length_nil]
   go_wp2_with fail
   obtain ⟨U29, eU29⟩ : ∃ W, W = U28.alloc (.cells #[.int .i64 7, .string ⟨#[102, 117, 110, 99]⟩, .int .i64 0, .int .u64 0, .string ⟨#[]⟩, .int .i64 5, .int .i64 0, .int .i64 0, .int .i64 0, .slice none 0 0, .slice none 0 0] 32) := ⟨_, rfl⟩
   rw [← eU29]
   have cU29 : Below U28.heap.size U28 U29 := by rw [eU29]; exact below1 _ _
   have yU29 : U28.heap.size < U29.heap.size := by rw [eU29]; simp
   have r_U29 : U29.heap[U28.heap.size]? = some (.cells #[.int .i64 7, .string ⟨#[102, 117, 110, 99]⟩, .int .i64 0, .int .u64 0, .string ⟨#[]⟩, .int .i64 5, .int .i64 0, .int .i64 0, .int .i64 0, .slice none 0 0, .slice none 0 0] 32) := by rw [eU29]; exact heap_alloc_new _ _
   clear eU29
   have zU29 := cU29.size
   have uU29 : Below w.heap.size w U29 := uU28.trans (cU29.mono uU28.size)
   have hU29 := hU28.below cU29
   have x_U29 := (cU29.block _ (hblk x_U28)).trans x_U28
   have a2_U29 := (cU29.block _ (hblk a2_U28)).trans a2_U28
   have g2_U29 := (cU29.block _ (hblk g2_U28)).trans g2_U28
   have l_U29 := (cU29.block _ (hblk l_U28)).trans l_U28
   have y_U29 := (cU29.block _ (hblk y_U28)).trans y_U28
   have zb_U29 := (cU29.block _ (hblk zb_U28)).trans zb_U28
   have c_U29 := (cU29.block _ (hblk c_U28)).trans c_U28
   have a5_U29 := (cU29.block _ (hblk a5_U28)).trans a5_U28
   have xk_U29 : ∀ b, U7.heap.size ≤ b → b < U8.heap.size → U29.heap[b]? = U8.heap[b]? := fun b p q => (cU29.block b (by omega)).trans (xk_U28 b p q)
   clear x_U28 a2_U28 g2_U28 l_U28 y_U28 zb_U28 c_U28 a5_U28 xk_U28
   clear cU29 hU28 uU28
   refine (Called_0 hb M _ 4 ab5 rfl (lead_func 4 rfl) U29 (HN.out _ uU29) hU29 a5_U29).mono ?_
   rintro _ U30 ⟨rfl, cU30⟩
   have zU30 := cU30.size
   have uU30 : Below w.heap.size w U30 := uU29.trans (cU30.mono uU29.size)
   have hU30 := hU29.below cU30
   have x_U30 := (cU30.block _ (hblk x_U29)).trans x_U29
   have a2_U30 := (cU30.block _ (hblk a2_U29)).trans a2_U29
   have g2_U30 := (cU30.block _ (hblk g2_U29)).trans g2_U29
   have l_U30 := (cU30.block _ (hblk l_U29)).trans l_U29
   have y_U30 := (cU30.block _ (hblk y_U29)).trans y_U29
   have zb_U30 := (cU30.block _ (hblk zb_U29)).trans zb_U29
   have c_U30 := (cU30.block _ (hblk c_U29)).trans c_U29
   have a5_U30 := (cU30.block _ (hblk a5_U29)).trans a5_U29
   have r_U30 := (cU30.block _ (hblk r_U29)).trans r_U29
   have xk_U30 : ∀ b, U7.heap.size ≤ b → b < U8.heap.size → U30.heap[b]? = U8.heap[b]? := fun b p q => (cU30.block b (by omega)).trans (xk_U29 b p q)
   clear x_U29 a2_U29 g2_U29 l_U29 y_U29 zb_U29 c_U29 a5_U29 r_U29 xk_U29
   clear cU30 hU29 uU29
   clear a5_U30 r_U30
   have xc := (cells_of x_U30).1
   have xl := hblk x_U30
   go_wp2_with fail
   clear xc
   clear xl
   refine rg (S := fun W => (∀ j, W.cell? ⟨U8.heap.size, j, none⟩ = (#[.int .i64 k1, .string t1, .int .i64 a1, .int .u64 f1, .string s1, .int .i64 x0, .int .i64 x1, .int .i64 x2, .int .i64 x3, .slice pp1 path1.length pc1, .slice ip1 items1.length ic1] : Array Value)[j]?)) (fun U30d hB4 HU30d => ?_)
   have hS := (cells_of ((hB4.block _ (hblk x_U30)).trans x_U30)).1
   have cU30d := hB4
   clear HU30d hB4
   have zU30d := cU30d.size
   have uU30d : Below w.heap.size w U30d := uU30.trans (cU30d.mono uU30.size)
   have hU30d := hU30.below cU30d
   have x_U30d := (cU30d.block _ (hblk x_U30)).trans x_U30
   have a2_U30d := (cU30d.block _ (hblk a2_U30)).trans a2_U30
   have g2_U30d := (cU30d.block _ (hblk g2_U30)).trans g2_U30
   have l_U30d := (cU30d.block _ (hblk l_U30)).trans l_U30
   have y_U30d := (cU30d.block _ (hblk y_U30)).trans y_U30
   have zb_U30d := (cU30d.block _ (hblk zb_U30)).trans zb_U30
   have c_U30d := (cU30d.block _ (hblk c_U30)).trans c_U30
   have xk_U30d : ∀ b, U7.heap.size ≤ b → b < U8.heap.size → U30d.heap[b]? = U8.heap[b]? := fun b p q => (cU30d.block b (by omega)).trans (xk_U30 b p q)
   clear x_U30 a2_U30 g2_U30 l_U30 y_U30 zb_U30 c_U30 xk_U30
   clear cU30d hU30 uU30
   refine tk 0 (.agg #[.int .i64 k1, .string t1, .int .i64 a1, .int .u64 f1, .string s1, .int .i64 x0, .int .i64 x1, .int .i64 x2, .int .i64 x3, .slice pp1 path1.length pc1, .slice ip1 items1.length ic1]) rfl (.inl ⟨by rfl, ?r⟩) hS ?_
   case r => intro W hW; simp [go_sem, execOp, Act.eval, hW]
   simp only [sa, sb, Act.put, sd, se, sf]
   refine one 1 rfl (fun K hK => ?_)
   simp only [sa, sb, sc]
   go_simp
   refine (whole_any 1 _).mono ?_
   rintro _ U31 ⟨rfl, cU31⟩
   have zU31 := cU31.size
   have uU31 : Below w.heap.size w U31 := uU30d.trans (cU31.mono uU30d.size)
   have hU31 := hU30d.below cU31
   have x_U31 := (cU31.block _ (hblk x_U30d)).trans x_U30d
   have a2_U31 := (cU31.block _ (hblk a2_U30d)).trans a2_U30d
   have g2_U31 := (cU31.block _ (hblk g2_U30d)).trans g2_U30d
   have l_U31 := (cU31.block _ (hblk l_U30d)).trans l_U30d
   have y_U31 := (cU31.block _ (hblk y_U30d)).trans y_U30d
   have zb_U31 := (cU31.block _ (hblk zb_U30d)).trans zb_U30d
   have c_U31 := (cU31.block _ (hblk c_U30d)).trans c_U30d
   have xk_U31 : ∀ b, U7.heap.size ≤ b → b < U8.heap.size → U31.heap[b]? = U8.heap[b]? := fun b p q => (cU31.block b (by omega)).trans (xk_U30d b p q)
   clear x_U30d a2_U30d g2_U30d l_U30d y_U30d zb_U30d c_U30d xk_U30d
   clear cU31 hU30d uU30d
   simp only [wholeD, MD.val, D, List.length_nil]
   go_simp
   have hSU31 := (cells_of x_U31).1
   refine hK _ _ ⟨hSU31, ?_⟩
   clear hK K hS
   have hS := hSU31
   clear hSU31
   try simp only [Act.put, sd, se, sf]
   refine one 2 rfl (fun K hK => ?_)
   simp only [sa, sb, sc]
   go_simp
   refine (whole_any 2 _).mono ?_
   rintro _ U32 ⟨rfl, cU32⟩
   have zU32 := cU32.size
   have uU32 : Below w.heap.size w U32 := uU31.trans (cU32.mono uU31.size)
   have hU32 := hU31.below cU32
   have x_U32 := (cU32.block _ (hblk x_U31)).trans x_U31
   have a2_U32 := (cU32.block _ (hblk a2_U31)).trans a2_U31
   have g2_U32 := (cU32.block _ (hblk g2_U31)).trans g2_U31
   have l_U32 := (cU32.block _ (hblk l_U31)).trans l_U31
   have y_U32 := (cU32.block _ (hblk y_U31)).trans y_U31
   have zb_U32 := (cU32.block _ (hblk zb_U31)).trans zb_U31
   have c_U32 := (cU32.block _ (hblk c_U31)).trans c_U31
   have xk_U32 : ∀ b, U7.heap.size ≤ b → b < U8.heap.size → U32.heap[b]? = U8.heap[b]? := fun b p q => (cU32.block b (by omega)).trans (xk_U31 b p q)
   clear x_U31 a2_U31 g2_U31 l_U31 y_U31 zb_U31 c_U31 xk_U31
   clear cU32 hU31 uU31
   simp only [wholeD, MD.val, D, List.length_nil]
   go_simp
   have hSU32 := (cells_of x_U32).1
   refine hK _ _ ⟨hSU32, ?_⟩
   clear hK K hS
   have hS := hSU32
   clear hSU32
   try simp only [Act.put, sd, se, sf]
   refine one 3 rfl (fun K hK => ?_)
   simp only [sa, sb, sc]
   go_simp
   refine (pair_any 1 2 _).mono ?_
   rintro _ U33 ⟨rfl, cU33, g33⟩
   have zU33 := cU33.size
   have uU33 : Below w.heap.size w U33 := uU32.trans (cU33.mono uU32.size)
   have hU33 := hU32.below cU33
   have x_U33 := (cU33.block _ (hblk x_U32)).trans x_U32
   have a2_U33 := (cU33.block _ (hblk a2_U32)).trans a2_U32
   have g2_U33 := (cU33.block _ (hblk g2_U32)).trans g2_U32
   have l_U33 := (cU33.block _ (hblk l_U32)).trans l_U32
   have y_U33 := (cU33.block _ (hblk y_U32)).trans y_U32
   have zb_U33 := (cU33.block _ (hblk zb_U32)).trans zb_U32
   have c_U33 := (cU33.block _ (hblk c_U32)).trans c_U32
   have xk_U33 : ∀ b, U7.heap.size ≤ b → b < U8.heap.size → U33.heap[b]? = U8.heap[b]? := fun b p q => (cU33.block b (by omega)).trans (xk_U32 b p q)
   clear x_U32 a2_U32 g2_U32 l_U32 y_U32 zb_U32 c_U32 xk_U32
   clear cU33 hU32 uU32
   go_simp
   have hSU33 := (cells_of x_U33).1
   refine hK _ _ ⟨hSU33, ?_⟩
   clear hK K hS
   have hS := hSU33
   clear hSU33
   try simp only [Act.put, sd, se, sf]
   refine one 4 rfl (fun K hK => ?_)
   simp only [sa, sb, sc]
   go_simp
   have in33 := pairD_in (whole_small 1 (by decide)) (whole_small 2 (by decide)) g33
   have ix33 : MD.In U33.heap.size U33 5 ⟨⟨k1, t1, a1, f1, s1, x0, x1, x2, x3, pp1, path1, pc1⟩, ip1, ic1, items1⟩ := MD.In.mono (by omega) 5 _ (MD.In.aloft (fun b p q => xk_U33 b p q) 5 _ IN.out AB.out)
   have es33 : MD.same 5 ⟨⟨k1, t1, a1, f1, s1, x0, x1, x2, x3, pp1, path1, pc1⟩, ip1, ic1, items1⟩ (pairD (U32.heap.size + 3) 1 2) = true := same_trans 5 _ _ _ (same_comm 5 _ _ SM.out) (pair_same _ _ 1 2)
   refine (refSame_any 5 ⟨⟨k1, t1, a1, f1, s1, x0, x1, x2, x3, pp1, path1, pc1⟩, ip1, ic1, items1⟩ (pairD (U32.heap.size + 3) 1 2) U33 ix33 in33).mono ?_
   rintro _ U34 ⟨rfl, cU34⟩
   rw [es33]
   clear in33 ix33 es33 g33
   have zU34 := cU34.size
   have uU34 : Below w.heap.size w U34 := uU33.trans (cU34.mono uU33.size)
   have hU34 := hU33.below cU34
   have x_U34 := (cU34.block _ (hblk x_U33)).trans x_U33
   have a2_U34 := (cU34.block _ (hblk a2_U33)).trans a2_U33
   have g2_U34 := (cU34.block _ (hblk g2_U33)).trans g2_U33
   have l_U34 := (cU34.block _ (hblk l_U33)).trans l_U33
   have y_U34 := (cU34.block _ (hblk y_U33)).trans y_U33
   have zb_U34 := (cU34.block _ (hblk zb_U33)).trans zb_U33
   have c_U34 := (cU34.block _ (hblk c_U33)).trans c_U33
   have xk_U34 : ∀ b, U7.heap.size ≤ b → b < U8.heap.size → U34.heap[b]? = U8.heap[b]? := fun b p q => (cU34.block b (by omega)).trans (xk_U33 b p q)
   clear x_U33 a2_U33 g2_U33 l_U33 y_U33 zb_U33 c_U33 xk_U33
   clear cU34 hU33 uU33
   go_simp
   have hSU34 := (cells_of x_U34).1
   refine hK _ _ ⟨hSU34, ?_⟩
   clear hK K hS
   have hS := hSU34
   clear hSU34
   try simp only [Act.put, sd, se, sf]
   refine one 5 rfl (fun K hK => ?_)
   simp only [sa, sb, sc]
   go_simp
   have hSU34 := (cells_of x_U34).1
   refine hK _ _ ⟨hSU34, ?_⟩
   clear hK K hS
   have hS := hSU34
   clear hSU34
   try simp only [Act.put, sd, se, sf]
   clear hS x_U34 xk_U34 IN AB SM
   refine dn ?_
   try simp only [Act.put]
   have yc := (cells_of y_U34).1
   have zbc := (cells_of zb_U34).1
   have cc := (cells_of c_U34).1
   have lc := (cells_of l_U34).1
   go_wp2_with fail
   clear yc zbc cc lc
   refine (Show_list hb M (some ⟨tb, 0, none⟩) _ 1 ab2 g2 rfl (lead_list1 1 rfl) 5 (by decide) (whole_small 5 (by decide)) U34 (HN.out _ uU34) hU34 a2_U34 g2_U34).mono ?_
   rintro _ U35 ⟨rfl, cU35⟩
   rw [show5]
   have zU35 := cU35.size
   have uU35 : Below w.heap.size w U35 := uU34.trans (cU35.mono uU34.size)
   have hU35 := hU34.below cU35
   have a2_U35 := (cU35.block _ (hblk a2_U34)).trans a2_U34
   have g2_U35 := (cU35.block _ (hblk g2_U34)).trans g2_U34
   have l_U35 := (cU35.block _ (hblk l_U34)).trans l_U34
   have y_U35 := (cU35.block _ (hblk y_U34)).trans y_U34
   have zb_U35 := (cU35.block _ (hblk zb_U34)).trans zb_U34
   have c_U35 := (cU35.block _ (hblk c_U34)).trans c_U34
   clear a2_U34 g2_U34 l_U34 y_U34 zb_U34 c_U34
   clear cU35 hU34 uU34
   have yc := (cells_of y_U35).1
   have zbc := (cells_of zb_U35).1
   have cc := (cells_of c_U35).1
   have lc := (cells_of l_U35).1
   go_wp2_with fail
   refine (Things_any hb M _ (by simp) U35 hU35).mono ?_
   rintro _ U36 ⟨⟨tp, tc, rfl⟩, cU36⟩
   have uU36 : Below w.heap.size w U36 := uU35.trans (cU36.mono uU35.size)
   clear yc zbc cc lc
   go_wp2_with fail
   go_ret
   exact ⟨rfl, uU36⟩
 ·refine wpOp_step rfl (fun K hK => ite_yes rfl ?_)
  simp only [sa, sb, sc]
  go_simp
  obtain ⟨U20a, eU20a⟩ : ∃ W, W = U20d.alloc (.cells #[.int .i64 0, .string ⟨#[]⟩, .int .i64 0, .int .u64 0, .string ⟨#[]⟩, .int .i64 0, .int .i64 0, .int .i64 0, .int .i64 0, .slice none 0 0, .slice none 0 0] 32) := ⟨_, rfl⟩
  rw [← eU20a]
  have cU20a : Below U20d.heap.size U20d U20a := by rw [eU20a]; exact below1 _ _
  have yU20a : U20d.heap.size < U20a.heap.size := by rw [eU20a]; simp
  have zb_U20a : U20a.heap[U20d.heap.size]? = some (.cells #[.int .i64 0, .string ⟨#[]⟩, .int .i64 0, .int .u64 0, .string ⟨#[]⟩, .int .i64 0, .int .i64 0, .int .i64 0, .int .i64 0, .slice none 0 0, .slice none 0 0] 32) := by rw [eU20a]; exact heap_alloc_new _ _
  clear eU20a
  have zU20a := cU20a.size
  have uU20a : Below w.heap.size w U20a := uU20d.trans (cU20a.mono uU20d.size)
  have hU20a := hU20d.below cU20a
  have x_U20a := (cU20a.block _ (hblk x_U20d)).trans x_U20d
  have a2_U20a := (cU20a.block _ (hblk a2_U20d)).trans a2_U20d
  have g2_U20a := (cU20a.block _ (hblk g2_U20d)).trans g2_U20d
  have l_U20a := (cU20a.block _ (hblk l_U20d)).trans l_U20d
  have y_U20a := (cU20a.block _ (hblk y_U20d)).trans y_U20d
  have a3_U20a := (cU20a.block _ (hblk a3_U20d)).trans a3_U20d
  have m_U20a := (cU20a.block _ (hblk m_U20d)).trans m_U20d
  have xk_U20a : ∀ b, U7.heap.size ≤ b → b < U8.heap.size → U20a.heap[b]? = U8.heap[b]? := fun b p q => (cU20a.block b (by omega)).trans (xk_U20d b p q)
  clear x_U20d a2_U20d g2_U20d l_U20d y_U20d a3_U20d m_U20d xk_U20d
  have cU20ax := cU20a
  clear cU20a hU20d uU20d
  have km20a := km20d.keep cU20ax
  clear km20d cU20ax
  go_simp
  have hSU20a := (cells_of m_U20a).1
  refine hK _ _ ⟨hSU20a, ?_⟩
  clear hK K hS
  have hS := hSU20a
  clear hSU20a
  try simp only [Act.put, sd, se, sf]
  refine one 2 rfl (fun K hK => ?_)
  simp only [sa, sb, sc]
  go_simp
  refine (whole_any 1 _).mono ?_
  rintro _ U21 ⟨rfl, cU21⟩
  have zU21 := cU21.size
  have uU21 : Below w.heap.size w U21 := uU20a.trans (cU21.mono uU20a.size)
  have hU21 := hU20a.below cU21
  have x_U21 := (cU21.block _ (hblk x_U20a)).trans x_U20a
  have a2_U21 := (cU21.block _ (hblk a2_U20a)).trans a2_U20a
  have g2_U21 := (cU21.block _ (hblk g2_U20a)).trans g2_U20a
  have l_U21 := (cU21.block _ (hblk l_U20a)).trans l_U20a
  have y_U21 := (cU21.block _ (hblk y_U20a)).trans y_U20a
  have a3_U21 := (cU21.block _ (hblk a3_U20a)).trans a3_U20a
  have m_U21 := (cU21.block _ (hblk m_U20a)).trans m_U20a
  have zb_U21 := (cU21.block _ (hblk zb_U20a)).trans zb_U20a
  have xk_U21 : ∀ b, U7.heap.size ≤ b → b < U8.heap.size → U21.heap[b]? = U8.heap[b]? := fun b p q => (cU21.block b (by omega)).trans (xk_U20a b p q)
  clear x_U20a a2_U20a g2_U20a l_U20a y_U20a a3_U20a m_U20a zb_U20a xk_U20a
  have cU21x := cU21
  clear cU21 hU20a uU20a
  simp only [wholeD, MD.val, D, List.length_nil]
  have km21 := km20a.keep cU21x
  clear km20a cU21x
  go_simp
  have hSU21 := (cells_of m_U21).1
  refine hK _ _ ⟨hSU21, ?_⟩
  clear hK K hS
  have hS := hSU21
  clear hSU21
  try simp only [Act.put, sd, se, sf]
  refine one 3 rfl (fun K hK => ?_)
  simp only [sa, sb, sc]
  go_simp
  refine (Get_whole hb M _ 2 ab3 km G' en rfl (lead_map 2 rfl) 1 7 (whole_small 1 (by decide)) sk sv U21 (HN.out _ uU21) hU21 a3_U21 km21).mono ?_
  rintro _ U22 ⟨⟨⟨k4, t4, a4, f4, s4, y0, y1, y2, y3, pp4, path4, pc4⟩, ip4, ic4, items4⟩, rfl, sz, cU22⟩
  have ez : a4 = 7 := (same_parts sz).2.2.1
  subst ez
  clear sz km21
  have zU22 := cU22.size
  have uU22 : Below w.heap.size w U22 := uU21.trans (cU22.mono uU21.size)
  have hU22 := hU21.below cU22
  have x_U22 := (cU22.block _ (hblk x_U21)).trans x_U21
  have a2_U22 := (cU22.block _ (hblk a2_U21)).trans a2_U21
  have g2_U22 := (cU22.block _ (hblk g2_U21)).trans g2_U21
  have l_U22 := (cU22.block _ (hblk l_U21)).trans l_U21
  have y_U22 := (cU22.block _ (hblk y_U21)).trans y_U21
  have a3_U22 := (cU22.block _ (hblk a3_U21)).trans a3_U21
  have m_U22 := (cU22.block _ (hblk m_U21)).trans m_U21
  have zb_U22 := (cU22.block _ (hblk zb_U21)).trans zb_U21
  have xk_U22 : ∀ b, U7.heap.size ≤ b → b < U8.heap.size → U22.heap[b]? = U8.heap[b]? := fun b p q => (cU22.block b (by omega)).trans (xk_U21 b p q)
  clear x_U21 a2_U21 g2_U21 l_U21 y_U21 a3_U21 m_U21 zb_U21 xk_U21
  clear cU22 hU21 uU21
  simp only [MD.val, D]
  go_simp
  have hSU22 := (cells_of m_U22).1
  refine hK _ _ ⟨hSU22, ?_⟩
  clear hK K hS
  have hS := hSU22
  clear hSU22
  try simp only [Act.put, sd, se, sf]
  refine tq 4 (.tuple #[.agg #[.int .i64 k4, .string t4, .int .i64 7, .int .u64 f4, .string s4, .int .i64 y0, .int .i64 y1, .int .i64 y2, .int .i64 y3, .slice pp4 path4.length pc4, .slice ip4 items4.length ic4], .bool true, .nilIface]) rfl hS ?_
  simp only [sa, sb, sc, Act.put, sd, se, sf]
  refine tq 5 (.agg #[.int .i64 k4, .string t4, .int .i64 7, .int .u64 f4, .string s4, .int .i64 y0, .int .i64 y1, .int .i64 y2, .int .i64 y3, .slice pp4 path4.length pc4, .slice ip4 items4.length ic4]) rfl hS ?_
  simp only [sa, sb, sc, Act.put, sd, se, sf]
  refine tq 6 (.bool true) rfl hS ?_
  simp only [sa, sb, sc, Act.put, sd, se, sf]
  refine tq 7 (.nilIface) rfl hS ?_
  simp only [sa, sb, sc, Act.put, sd, se, sf]
  obtain ⟨nc, nf⟩ := cells_of zb_U22
  refine one 9 rfl (fun K hK => ?_)
  simp only [sa, sb, sc]
  go_simp
  have kU23 := kp_eleven U22 (U20d.heap.size) (.int .i64 k4) (.string t4) (.int .i64 7) (.int .u64 f4) (.string s4) (.int .i64 y0) (.int .i64 y1) (.int .i64 y2) (.int .i64 y3) (.slice pp4 path4.length pc4) (.slice ip4 items4.length ic4)
  have hrU23 := eleven_set zb_U22 (.int .i64 k4) (.string t4) (.int .i64 7) (.int .u64 f4) (.string s4) (.int .i64 y0) (.int .i64 y1) (.int .i64 y2) (.int .i64 y3) (.slice pp4 path4.length pc4) (.slice ip4 items4.length ic4)
  obtain ⟨U23, hU23⟩ : ∃ W, W = (((((((((((U22.setCell ⟨U20d.heap.size, 0, none⟩ (.int .i64 k4)).setCell ⟨U20d.heap.size, 1, none⟩ (.string t4)).setCell ⟨U20d.heap.size, 2, none⟩ (.int .i64 7)).setCell ⟨U20d.heap.size, 3, none⟩ (.int .u64 f4)).setCell ⟨U20d.heap.size, 4, none⟩ (.string s4)).setCell ⟨U20d.heap.size, 5, none⟩ (.int .i64 y0)).setCell ⟨U20d.heap.size, 6, none⟩ (.int .i64 y1)).setCell ⟨U20d.heap.size, 7, none⟩ (.int .i64 y2)).setCell ⟨U20d.heap.size, 8, none⟩ (.int .i64 y3)).setCell ⟨U20d.heap.size, 9, none⟩ (.slice pp4 path4.length pc4)).setCell ⟨U20d.heap.size, 10, none⟩ (.slice ip4 items4.length ic4)) := ⟨_, rfl⟩
  rw [← hU23] at kU23 hrU23 ⊢
  clear hU23
  have rcU23 := (cells_of hrU23).1
  clear nc nf rcU23
  have zU23 := kU23.size
  have uU23 : Below w.heap.size w U23 := uU22.trans (kU23.below uU22.size fun i hi e => by omega)
  have hU23 := hU22.kp kU23 (by omega) (by omega)
  have x_U23 := (kU23.block _ (hblk x_U22) (fun e => by omega)).trans x_U22
  have a2_U23 := (kU23.block _ (hblk a2_U22) (fun e => by omega)).trans a2_U22
  have g2_U23 := (kU23.block _ (hblk g2_U22) (fun e => by omega)).trans g2_U22
  have l_U23 := (kU23.block _ (hblk l_U22) (fun e => by omega)).trans l_U22
  have y_U23 := (kU23.block _ (hblk y_U22) (fun e => by omega)).trans y_U22
  have a3_U23 := (kU23.block _ (hblk a3_U22) (fun e => by omega)).trans a3_U22
  have m_U23 := (kU23.block _ (hblk m_U22) (fun e => by omega)).trans m_U22
  have xk_U23 : ∀ b, U7.heap.size ≤ b → b < U8.heap.size → U23.heap[b]? = U8.heap[b]? := fun b p q => (kU23.block b (by omega) (fun e => by omega)).trans (xk_U22 b p q)
  clear x_U22 a2_U22 g2_U22 l_U22 y_U22 a3_U22 m_U22 xk_U22
  have zb_U23 := hrU23
  clear hrU23 kU23 uU22 hU22 zb_U22
  go_simp
  have hSU23 := (cells_of m_U23).1
  refine hK _ _ ⟨hSU23, ?_⟩
  clear hK K hS
  have hS := hSU23
  clear hSU23
  try simp only [Act.put, sd, se, sf]
  refine one 10 rfl (fun K hK => ?_)
  simp only [sa, sb, sc]
  go_simp
  have hSU23 := (cells_of m_U23).1
  refine hK _ _ ⟨hSU23, ?_⟩
  clear hK K hS
  have hS := hSU23
  clear hSU23
  try simp only [Act.put, sd, se, sf]
  refine one 11 rfl (fun K hK => ?_)
  simp only [sa, sb, sc]
  go_simp
  have hSU23 := (cells_of m_U23).1
  refine hK _ _ ⟨hSU23, ?_⟩
  clear hK K hS
  have hS := hSU23
  clear hSU23
  try simp only [Act.put, sd, se, sf]
  clear hS sk sv
  refine dn ?_
  try simp only [Act.put]
  clear a3_U23 m_U23
  go_wp2_with fail
  refine (whole_any 3 _).mono ?_
  rintro _ U24 ⟨rfl, cU24⟩
  have zU24 := cU24.size
  have uU24 : Below w.heap.size w U24 := uU23.trans (cU24.mono uU23.size)
  have hU24 := hU23.below cU24
  have x_U24 := (cU24.block _ (hblk x_U23)).trans x_U23
  have a2_U24 := (cU24.block _ (hblk a2_U23)).trans a2_U23
  have g2_U24 := (cU24.block _ (hblk g2_U23)).trans g2_U23
  have l_U24 := (cU24.block _ (hblk l_U23)).trans l_U23
  have y_U24 := (cU24.block _ (hblk y_U23)).trans y_U23
  have zb_U24 := (cU24.block _ (hblk zb_U23)).trans zb_U23
  have xk_U24 : ∀ b, U7.heap.size ≤ b → b < U8.heap.size → U24.heap[b]? = U8.heap[b]? := fun b p q => (cU24.block b (by omega)).trans (xk_U23 b p q)
  clear x_U23 a2_U23 g2_U23 l_U23 y_U23 zb_U23 xk_U23
  clear cU24 hU23 uU23
  simp only [wholeD, MD.val, D, List.length_nil]
  go_wp2_with fail
  refine (Box_whole hb M _ (by simp) 3 (whole_small 3 (by decide)) U24 (HN.out _ uU24) hU24).mono ?_
  rintro _ U25 ⟨rfl, ab4, hU25, a4_U25, kU25, ga4⟩
  have zU25 := kU25.size
  have uU25 : Below w.heap.size w U25 := uU24.trans (kU25.below uU24.size fun i hi e => by omega)
  have x_U25 := (kU25.block _ (hblk x_U24) (fun e => by omega)).trans x_U24
  have a2_U25 := (kU25.block _ (hblk a2_U24) (fun e => by omega)).trans a2_U24
  have g2_U25 := (kU25.block _ (hblk g2_U24) (fun e => by omega)).trans g2_U24
  have l_U25 := (kU25.block _ (hblk l_U24) (fun e => by omega)).trans l_U24
  have y_U25 := (kU25.block _ (hblk y_U24) (fun e => by omega)).trans y_U24
  have zb_U25 := (kU25.block _ (hblk zb_U24) (fun e => by omega)).trans zb_U24
  have xk_U25 : ∀ b, U7.heap.size ≤ b → b < U8.heap.size → U25.heap[b]? = U8.heap[b]? := fun b p q => (kU25.block b (by omega) (fun e => by omega)).trans (xk_U24 b p q)
  clear x_U24 a2_U24 g2_U24 l_U24 y_U24 zb_U24 xk_U24
  clear uU24
  clear kU25 hU24
  go_wp2_with fail
  refine (Open_whole hb M _ 3 ab4 rfl 3 U25 hU25 a4_U25).mono ?_
  rintro _ U26 ⟨rfl, cU26⟩
  have zU26 := cU26.size
  have uU26 : Below w.heap.size w U26 := uU25.trans (cU26.mono uU25.size)
  have hU26 := hU25.below cU26
  have x_U26 := (cU26.block _ (hblk x_U25)).trans x_U25
  have a2_U26 := (cU26.block _ (hblk a2_U25)).trans a2_U25
  have g2_U26 := (cU26.block _ (hblk g2_U25)).trans g2_U25
  have l_U26 := (cU26.block _ (hblk l_U25)).trans l_U25
  have y_U26 := (cU26.block _ (hblk y_U25)).trans y_U25
  have zb_U26 := (cU26.block _ (hblk zb_U25)).trans zb_U25
  have a4_U26 := (cU26.block _ (hblk a4_U25)).trans a4_U25
  have xk_U26 : ∀ b, U7.heap.size ≤ b → b < U8.heap.size → U26.heap[b]? = U8.heap[b]? := fun b p q => (cU26.block b (by omega)).trans (xk_U25 b p q)
  clear x_U25 a2_U25 g2_U25 l_U25 y_U25 zb_U25 a4_U25 xk_U25
  clear cU26 hU25 uU25
  clear a4_U26
  simp only [wholeD, MD.val, D, List.length_nil]
  go_wp2_with fail
  obtain ⟨U27, eU27⟩ : ∃ W, W = U26.alloc (.cells #[.int .i64 2, .string ⟨#[105, 110, 116]⟩, .int .i64 3, .int .u64 0, .string ⟨#[]⟩, .int .i64 0, .int .i64 0, .int .i64 0, .int .i64 0, .slice none 0 0, .slice none 0 0] 32) := ⟨_, rfl⟩
  rw [← eU27]
  have cU27 : Below U26.heap.size U26 U27 := by rw [eU27]; exact below1 _ _
  have yU27 : U26.heap.size < U27.heap.size := by rw [eU27]; simp
  have c_U27 : U27.heap[U26.heap.size]? = some (.cells #[.int .i64 2, .string ⟨#[105, 110, 116]⟩, .int .i64 3, .int .u64 0, .string ⟨#[]⟩, .int .i64 0, .int .i64 0, .int .i64 0, .int .i64 0, .slice none 0 0, .slice none 0 0] 32) := by rw [eU27]; exact heap_alloc_new _ _
  clear eU27
  have zU27 := cU27.size
  have uU27 : Below w.heap.size w U27 := uU26.trans (cU27.mono uU26.size)
  have hU27 := hU26.below cU27
  have x_U27 := (cU27.block _ (hblk x_U26)).trans x_U26
  have a2_U27 := (cU27.block _ (hblk a2_U26)).trans a2_U26
  have g2_U27 := (cU27.block _ (hblk g2_U26)).trans g2_U26
  have l_U27 := (cU27.block _ (hblk l_U26)).trans l_U26
  have y_U27 := (cU27.block _ (hblk y_U26)).trans y_U26
  have zb_U27 := (cU27.block _ (hblk zb_U26)).trans zb_U26
  have xk_U27 : ∀ b, U7.heap.size ≤ b → b < U8.heap.size → U27.heap[b]? = U8.heap[b]? := fun b p q => (cU27.block b (by omega)).trans (xk_U26 b p q)
  clear x_U26 a2_U26 g2_U26 l_U26 y_U26 zb_U26 xk_U26
  clear cU27 hU26 uU26
  refine (Func_0 hb M _ (by simp) U27 hU27).mono ?_
  rintro _ U28 ⟨rfl, ab5, hU28, a5_U28, kU28, ga5⟩
  have zU28 := kU28.size
  have uU28 : Below w.heap.size w U28 := uU27.trans (kU28.below uU27.size fun i hi e => by omega)
  have x_U28 := (kU28.block _ (hblk x_U27) (fun e => by omega)).trans x_U27
  have a2_U28 := (kU28.block _ (hblk a2_U27) (fun e => by omega)).trans a2_U27
  have g2_U28 := (kU28.block _ (hblk g2_U27) (fun e => by omega)).trans g2_U27
  have l_U28 := (kU28.block _ (hblk l_U27) (fun e => by omega)).trans l_U27
  have y_U28 := (kU28.block _ (hblk y_U27) (fun e => by omega)).trans y_U27
  have zb_U28 := (kU28.block _ (hblk zb_U27) (fun e => by omega)).trans zb_U27
  have c_U28 := (kU28.block _ (hblk c_U27) (fun e => by omega)).trans c_U27
  have xk_U28 : ∀ b, U7.heap.size ≤ b → b < U8.heap.size → U28.heap[b]? = U8.heap[b]? := fun b p q => (kU28.block b (by omega) (fun e => by omega)).trans (xk_U27 b p q)
  clear x_U27 a2_U27 g2_U27 l_U27 y_U27 zb_U27 c_U27 xk_U27
  clear uU27
  clear kU28 hU27
  simp only [leadD, MD.val, D, List.length_nil]
  go_wp2_with fail
  obtain ⟨U29, eU29⟩ : ∃ W, W = U28.alloc (.cells #[.int .i64 7, .string ⟨#[102, 117, 110, 99]⟩, .int .i64 0, .int .u64 0, .string ⟨#[]⟩, .int .i64 5, .int .i64 0, .int .i64 0, .int .i64 0, .slice none 0 0, .slice none 0 0] 32) := ⟨_, rfl⟩
  rw [← eU29]
  have cU29 : Below U28.heap.size U28 U29 := by rw [eU29]; exact below1 _ _
  have yU29 : U28.heap.size < U29.heap.size := by rw [eU29]; simp
  have r_U29 : U29.heap[U28.heap.size]? = some (.cells #[.int .i64 7, .string ⟨#[102, 117, 110, 99]⟩, .int .i64 0, .int .u64 0, .string ⟨#[]⟩, .int .i64 5, .int .i64 0, .int .i64 0, .int .i64 0, .slice none 0 0, .slice none 0 0] 32) := by rw [eU29]; exact heap_alloc_new _ _
  clear eU29
  have zU29 := cU29.size
  have uU29 : Below w.heap.size w U29 := uU28.trans (cU29.mono uU28.size)
  have hU29 := hU28.below cU29
  have x_U29 := (cU29.block _ (hblk x_U28)).trans x_U28
  have a2_U29 := (cU29.block _ (hblk a2_U28)).trans a2_U28
  have g2_U29 := (cU29.block _ (hblk g2_U28)).trans g2_U28
  have l_U29 := (cU29.block _ (hblk l_U28)).trans l_U28
  have y_U29 := (cU29.block _ (hblk y_U28)).trans y_U28
  have zb_U29 := (cU29.block _ (hblk zb_U28)).trans zb_U28
  have c_U29 := (cU29.block _ (hblk c_U28)).trans c_U28
  have a5_U29 := (cU29.block _ (hblk a5_U28)).trans a5_U28
  have xk_U29 : ∀ b, U7.heap.size ≤ b → b < U8.heap.size → U29.heap[b]? = U8.heap[b]? := fun b p q => (cU29.block b (by omega)).trans (xk_U28 b p q)
  clear x_U28 a2_U28 g2_U28 l_U28 y_U28 zb_U28 c_U28 a5_U28 xk_U28
  clear cU29 hU28 uU28
  refine (Called_0 hb M _ 4 ab5 rfl (lead_func 4 rfl) U29 (HN.out _ uU29) hU29 a5_U29).mono ?_
  rintro _ U30 ⟨rfl, cU30⟩
  have zU30 := cU30.size
  have uU30 : Below w.heap.size w U30 := uU29.trans (cU30.mono uU29.size)
  have hU30 := hU29.below cU30
  have x_U30 := (cU30.block _ (hblk x_U29)).trans x_U29
  have a2_U30 := (cU30.block _ (hblk a2_U29)).trans a2_U29
  have g2_U30 := (cU30.block _ (hblk g2_U29)).trans g2_U29
  have l_U30 := (cU30.block _ (hblk l_U29)).trans l_U29
  have y_U30 := (cU30.block _ (hblk y_U29)).trans y_U29
  have zb_U30 := (cU30.block _ (hblk zb_U29)).trans zb_U29
  have c_U30 := (cU30.block _ (hblk c_U29)).trans c_U29
  have a5_U30 := (cU30.block _ (hblk a5_U29)).trans a5_U29
  have r_U30 := (cU30.block _ (hblk r_U29)).trans r_U29
  have xk_U30 : ∀ b, U7.heap.size ≤ b → b < U8.heap.size → U30.heap[b]? = U8.heap[b]? := fun b p q => (cU30.block b (by omega)).trans (xk_U29 b p q)
  clear x_U29 a2_U29 g2_U29 l_U29 y_U29 zb_U29 c_U29 a5_U29 r_U29 xk_U29
  clear cU30 hU29 uU29
  clear a5_U30 r_U30
  have xc := (cells_of x_U30).1
  have xl := hblk x_U30
  go_wp2_with fail
  clear xc
  clear xl
  refine rg (S := fun W => (∀ j, W.cell? ⟨U8.heap.size, j, none⟩ = (#[.int .i64 k1, .string t1, .int .i64 a1, .int .u64 f1, .string s1, .int .i64 x0, .int .i64 x1, .int .i64 x2, .int .i64 x3, .slice pp1 path1.length pc1, .slice ip1 items1.length ic1] : Array Value)[j]?)) (fun U30d hB4 HU30d => ?_)
  have hS := (cells_of ((hB4.block _ (hblk x_U30)).trans x_U30)).1
  have cU30d := hB4
  clear HU30d hB4
  have zU30d := cU30d.size
  have uU30d : Below w.heap.size w U30d := uU30.trans (cU30d.mono uU30.size)
  have hU30d := hU30.below cU30d
  have x_U30d := (cU30d.block _ (hblk x_U30)).trans x_U30
  have a2_U30d := (cU30d.block _ (hblk a2_U30)).trans a2_U30
  have g2_U30d := (cU30d.block _ (hblk g2_U30)).trans g2_U30
  have l_U30d := (cU30d.block _ (hblk l_U30)).trans l_U30
  have y_U30d := (cU30d.block _ (hblk y_U30)).trans y_U30
  have zb_U30d := (cU30d.block _ (hblk zb_U30)).trans zb_U30
  have c_U30d := (cU30d.block _ (hblk c_U30)).trans c_U30
  have xk_U30d : ∀ b, U7.heap.size ≤ b → b < U8.heap.size → U30d.heap[b]? = U8.heap[b]? := fun b p q => (cU30d.block b (by omega)).trans (xk_U30 b p q)
  clear x_U30 a2_U30 g2_U30 l_U30 y_U30 zb_U30 c_U30 xk_U30
  clear cU30d hU30 uU30
  refine tk 0 (.agg #[.int .i64 k1, .string t1, .int .i64 a1, .int .u64 f1, .string s1, .int .i64 x0, .int .i64 x1, .int .i64 x2, .int .i64 x3, .slice pp1 path1.length pc1, .slice ip1 items1.length ic1]) rfl (.inl ⟨by rfl, ?r⟩) hS ?_
  case r => intro W hW; simp [go_sem, execOp, Act.eval, hW]
  simp only [sa, sb, Act.put, sd, se, sf]
  refine one 1 rfl (fun K hK => ?_)
  simp only [sa, sb, sc]
  go_simp
  refine (whole_any 1 _).mono ?_
  rintro _ U31 ⟨rfl, cU31⟩
  have zU31 := cU31.size
  have uU31 : Below w.heap.size w U31 := uU30d.trans (cU31.mono uU30d.size)
  have hU31 := hU30d.below cU31
  have x_U31 := (cU31.block _ (hblk x_U30d)).trans x_U30d
  have a2_U31 := (cU31.block _ (hblk a2_U30d)).trans a2_U30d
  have g2_U31 := (cU31.block _ (hblk g2_U30d)).trans g2_U30d
  have l_U31 := (cU31.block _ (hblk l_U30d)).trans l_U30d
  have y_U31 := (cU31.block _ (hblk y_U30d)).trans y_U30d
  have zb_U31 := (cU31.block _ (hblk zb_U30d)).trans zb_U30d
  have c_U31 := (cU31.block _ (hblk c_U30d)).trans c_U30d
  have xk_U31 : ∀ b, U7.heap.size ≤ b → b < U8.heap.size → U31.heap[b]? = U8.heap[b]? := fun b p q => (cU31.block b (by omega)).trans (xk_U30d b p q)
  clear x_U30d a2_U30d g2_U30d l_U30d y_U30d zb_U30d c_U30d xk_U30d
  clear cU31 hU30d uU30d
  simp only [wholeD, MD.val, D, List.length_nil]
  go_simp
  have hSU31 := (cells_of x_U31).1
  refine hK _ _ ⟨hSU31, ?_⟩
  clear hK K hS
  have hS := hSU31
  clear hSU31
  try simp only [Act.put, sd, se, sf]
  refine one 2 rfl (fun K hK => ?_)
  simp only [sa, sb, sc]
  go_simp
  refine (whole_any 2 _).mono ?_
  rintro _ U32 ⟨rfl, cU32⟩
  have zU32 := cU32.size
  have uU32 : Below w.heap.size w U32 := uU31.trans (cU32.mono uU31.size)
  have hU32 := hU31.below cU32
  have x_U32 := (cU32.block _ (hblk x_U31)).trans x_U31
  have a2_U32 := (cU32.block _ (hblk a2_U31)).trans a2_U31
  have g2_U32 := (cU32.block _ (hblk g2_U31)).trans g2_U31
  have l_U32 := (cU32.block _ (hblk l_U31)).trans l_U31
  have y_U32 := (cU32.block _ (hblk y_U31)).trans y_U31
  have zb_U32 := (cU32.block _ (hblk zb_U31)).trans zb_U31
  have c_U32 := (cU32.block _ (hblk c_U31)).trans c_U31
  have xk_U32 : ∀ b, U7.heap.size ≤ b → b < U8.heap.size → U32.heap[b]? = U8.heap[b]? := fun b p q => (cU32.block b (by omega)).trans (xk_U31 b p q)
  clear x_U31 a2_U31 g2_U31 l_U31 y_U31 zb_U31 c_U31 xk_U31
  clear cU32 hU31 uU31
  simp only [wholeD, MD.val, D, List.length_nil]
  go_simp
  have hSU32 := (cells_of x_U32).1
  refine hK _ _ ⟨hSU32, ?_⟩
  clear hK K hS
  have hS := hSU32
  clear hSU32
  try simp only [Act.put, sd, se, sf]
  refine one 3 rfl (fun K hK => ?_)
  simp only [sa, sb, sc]
  go_simp
  refine (pair_any 1 2 _).mono ?_
  rintro _ U33 ⟨rfl, cU33, g33⟩
  have zU33 := cU33.size
  have uU33 : Below w.heap.size w U33 := uU32.trans (cU33.mono uU32.size)
  have hU33 := hU32.below cU33
  have x_U33 := (cU33.block _ (hblk x_U32)).trans x_U32
  have a2_U33 := (cU33.block _ (hblk a2_U32)).trans a2_U32
  have g2_U33 := (cU33.block _ (hblk g2_U32)).trans g2_U32
  have l_U33 := (cU33.block _ (hblk l_U32)).trans l_U32
  have y_U33 := (cU33.block _ (hblk y_U32)).trans y_U32
  have zb_U33 := (cU33.block _ (hblk zb_U32)).trans zb_U32
  have c_U33 := (cU33.block _ (hblk c_U32)).trans c_U32
  have xk_U33 : ∀ b, U7.heap.size ≤ b → b < U8.heap.size → U33.heap[b]? = U8.heap[b]? := fun b p q => (cU33.block b (by omega)).trans (xk_U32 b p q)
  clear x_U32 a2_U32 g2_U32 l_U32 y_U32 zb_U32 c_U32 xk_U32
  clear cU33 hU32 uU32
  go_simp
  have hSU33 := (cells_of x_U33).1
  refine hK _ _ ⟨hSU33, ?_⟩
  clear hK K hS
  have hS := hSU33
  clear hSU33
  try simp only [Act.put, sd, se, sf]
  refine one 4 rfl (fun K hK => ?_)
  simp only [sa, sb, sc]
  go_simp
  have in33 := pairD_in (whole_small 1 (by decide)) (whole_small 2 (by decide)) g33
  have ix33 : MD.In U33.heap.size U33 5 ⟨⟨k1, t1, a1, f1, s1, x0, x1, x2, x3, pp1, path1, pc1⟩, ip1, ic1, items1⟩ := MD.In.mono (by omega) 5 _ (MD.In.aloft (fun b p q => xk_U33 b p q) 5 _ IN.out AB.out)
  have es33 : MD.same 5 ⟨⟨k1, t1, a1, f1, s1, x0, x1, x2, x3, pp1, path1, pc1⟩, ip1, ic1, items1⟩ (pairD (U32.heap.size + 3) 1 2) = true := same_trans 5 _ _ _ (same_comm 5 _ _ SM.out) (pair_same _ _ 1 2)
  refine (refSame_any 5 ⟨⟨k1, t1, a1, f1, s1, x0, x1, x2, x3, pp1, path1, pc1⟩, ip1, ic1, items1⟩ (pairD (U32.heap.size + 3) 1 2) U33 ix33 in33).mono ?_
  rintro _ U34 ⟨rfl, cU34⟩
  rw [es33]
  clear in33 ix33 es33 g33
  have zU34 := cU34.size
  have uU34 : Below w.heap.size w U34 := uU33.trans (cU34.mono uU33.size)
  have hU34 := hU33.below cU34
  have x_U34 := (cU34.block _ (hblk x_U33)).trans x_U33
  have a2_U34 := (cU34.block _ (hblk a2_U33)).trans a2_U33
  have g2_U34 := (cU34.block _ (hblk g2_U33)).trans g2_U33
  have l_U34 := (cU34.block _ (hblk l_U33)).trans l_U33
  have y_U34 := (cU34.block _ (hblk y_U33)).trans y_U33
  have zb_U34 := (cU34.block _ (hblk zb_U33)).trans zb_U33
  have c_U34 := (cU34.block _ (hblk c_U33)).trans c_U33
  have xk_U34 : ∀ b, U7.heap.size ≤ b → b < U8.heap.size → U34.heap[b]? = U8.heap[b]? := fun b p q => (cU34.block b (by omega)).trans (xk_U33 b p q)
  clear x_U33 a2_U33 g2_U33 l_U33 y_U33 zb_U33 c_U33 xk_U33
  clear cU34 hU33 uU33
  go_simp
  have hSU34 := (cells_of x_U34).1
  refine hK _ _ ⟨hSU34, ?_⟩
  clear hK K hS
  have hS := hSU34
  clear hSU34
  try simp only [Act.put, sd, se, sf]
  refine one 5 rfl (fun K hK => ?_)
  simp only [sa, sb, sc]
  go_simp
  have hSU34 := (cells_of x_U34).1
  refine hK _ _ ⟨hSU34, ?_⟩
  clear hK K hS
  have hS := hSU34
  clear hSU34
  try simp only [Act.put, sd, se, sf]
  clear hS x_U34 xk_U34 IN AB SM
  refine dn ?_
  try simp only [Act.put]
  have yc := (cells_of y_U34).1
  have zbc := (cells_of zb_U34).1
  have cc := (cells_of c_U34).1
  have lc := (cells_of l_U34).1
  go_wp2_with fail
  clear yc zbc cc lc
  refine (Show_list hb M (some ⟨tb, 0, none⟩) _ 1 ab2 g2 rfl (lead_list1 1 rfl) 5 (by decide) (whole_small 5 (by decide)) U34 (HN.out _ uU34) hU34 a2_U34 g2_U34).mono ?_
  rintro _ U35 ⟨rfl, cU35⟩
  rw [show5]
  have zU35 := cU35.size
  have uU35 : Below w.heap.size w U35 := uU34.trans (cU35.mono uU34.size)
  have hU35 := hU34.below cU35
  have a2_U35 := (cU35.block _ (hblk a2_U34)).trans a2_U34
  have g2_U35 := (cU35.block _ (hblk g2_U34)).trans g2_U34
  have l_U35 := (cU35.block _ (hblk l_U34)).trans l_U34
  have y_U35 := (cU35.block _ (hblk y_U34)).trans y_U34
  have zb_U35 := (cU35.block _ (hblk zb_U34)).trans zb_U34
  have c_U35 := (cU35.block _ (hblk c_U34)).trans c_U34
  clear a2_U34 g2_U34 l_U34 y_U34 zb_U34 c_U34
  clear cU35 hU34 uU34
  have yc := (cells_of y_U35).1
  have zbc := (cells_of zb_U35).1
  have cc := (cells_of c_U35).1
  have lc := (cells_of l_U35).1
  go_wp2_with fail
  refine (Things_any hb M _ (by simp) U35 hU35).mono ?_
  rintro _ U36 ⟨⟨tp, tc, rfl⟩, cU36⟩
  have uU36 : Below w.heap.size w U36 := uU35.trans (cU36.mono uU35.size)
  clear yc zbc cc lc
  go_wp2_with fail
  go_ret
  exact ⟨rfl, uU36⟩
end Go.Proofs.YtdbijkgnddcneaaGreatDoor
