/-
  Does a NaN stand in a datum? The law's own question, at any datum.
-/
import Derived.Test.YtnhbpcmiolkllabDoorPi2
import Derived.Test.YtnhbpcmiolkllabDoorPe2
namespace Go.Proofs.YtnhbpcmiolkllabDoor
open Go.RowKit

theorem any_take_succ {α : Type} (p : α → Bool) : ∀ (xs : List α) (q : Nat) (h : q < xs.length), (xs.take q).any p = false → (xs.take (q + 1)).any p = p xs[q]
  | [], _, h, _ => by simp at h
  | x :: xs, 0, _, _ => by simp
  | x :: xs, q + 1, h, e => by
    rw [List.take_succ_cons, List.any_cons, Bool.or_eq_false_iff] at e
    rw [List.take_succ_cons, List.any_cons, e.1, Bool.false_or, any_take_succ p xs q (by simpa using h) e.2]
    rfl
theorem broken_step (n : Nat) (HI : Hid (∀ (d : MD) (w : World), MD.In w.heap.size w n d → Calls Tryd.prog 9 #[d.val] w fun r w' => r = .returned (.bool (brkR n d)) ∧ Below w.heap.size w w')) (d : MD) (w : World) (hin : MD.In w.heap.size w (n + 1) d) : Calls Tryd.prog 9 #[d.val] w fun r w' => r = .returned (.bool (brkR (n + 1) d)) ∧ Below w.heap.size w w' := by
    obtain ⟨⟨k, t, a, f, s, r0, r1, r2, r3, pp, path, pc⟩, ip, ic, items⟩ := d
    obtain ⟨hF, _, hl, hm, hT⟩ := hin
    have h0 : 0 ≤ f := hF.f0
    have h1 : f ≤ 18446744073709551615 := hF.f1
    have hii : (items.length : Int) ≤ 9223372036854775807 := by
      have e : maxLen ≤ 9223372036854775807 := by decide
      have hl' : items.length ≤ ic := hl
      have hm' : ic ≤ maxLen := hm
      omega
    have HT : Hid (items = [] ∨ ∃ b o, ip = some ⟨b, o, none⟩ ∧ b < w.heap.size ∧ ∀ (i : Nat) (hi : i < items.length), MD.CellsAt w b (o + i * 11) items[i] ∧ MD.In w.heap.size w n items[i]) := hT
    clear hT hl hm hF
    show Calls Tryd.prog 9 #[.agg #[.int .i64 k, .string t, .int .i64 a, .int .u64 f, .string s, .int .i64 r0, .int .i64 r1, .int .i64 r2, .int .i64 r3, .slice pp path.length pc, .slice ip items.length ic]] w fun r w' => r = .returned (.bool ((k == 3 && isNan f.toNat) || items.any (brkR n))) ∧ Below w.heap.size w w'
    have e3 : isNan f.toNat = ((f / 4503599627370496 % 2048 == 2047) && (f * 4096 % 18446744073709551616 != 0)) := by
      unfold isNan
      rw [Bool.eq_iff_iff]
      simp
      omega
    have e1 := and2047 (f / 4503599627370496) (by omega) (by omega)
    have e2 := wrap4096 f
    rw [e3]
    obtain ⟨Z, hZ⟩ : ∃ Z, Z = items.any (brkR n) := ⟨_, rfl⟩
    rw [← hZ]
    have HZ : Hid (Z = items.any (brkR n)) := hZ
    clear hZ
    by_cases hk : k = 3
    · subst hk
      by_cases hq : f / 4503599627370496 % 2048 = 2047
      · have q1 : bits .and .u64 (f / 4503599627370496) 2047 = 2047 := e1.trans hq
        by_cases hp : f * 4096 % 18446744073709551616 = 0
        · have q2 : IntKind.u64.wrap (f * 4096) = 0 := e2.trans hp
          have e : ((3 : Int) == 3 && ((f / 4503599627370496 % 2048 == 2047) && (f * 4096 % 18446744073709551616 != 0))) = false := by simp [hp]
          rw [e, Bool.false_or]
          clear e e1 e2 e3 hq hp
          go_enter Tryd.func9, Tryd.ntmps9
          go_wp2_with fail
          go_loopw [3, 4] (fun i _ wr => ∃ q : Nat, q ≤ items.length ∧ i = .int .i64 q ∧ Hid ((items.take q).any (brkR n) = false ∧ Below (w.heap.size + 1) (w.alloc (.cells #[.int .i64 3, .string t, .int .i64 a, .int .u64 f, .string s, .int .i64 r0, .int .i64 r1, .int .i64 r2, .int .i64 r3, .slice pp path.length pc, .slice ip items.length ic] 32)) wr)) (fun i _ _ => items.length - (intOf i).toNat)
          case atStart => exact ⟨0, Nat.zero_le _, rfl, rfl, Below.refl _ _⟩
          case round =>
            obtain ⟨q, hq, rfl, HR⟩ := hrel
            have hcell : wr.cell? ⟨w.heap.size, 10, none⟩ = some (.slice ip items.length ic) := (HR.out.2.cell (p := ⟨w.heap.size, 10, none⟩) (Nat.lt_succ_self _)).trans (row_at (heap_alloc_new _ _) 10)
            have HB0 : Hid (Below w.heap.size w wr) := (below1 _ _).trans (HR.out.2.mono (by omega))
            have hz := HR.out.2.size
            simp only [World.size_alloc] at hz
            by_cases hlt : q < items.length
            · have i1 : (q : Int) < items.length := by omega
              obtain ⟨bb, o, rfl, hbB, hC, hIn⟩ : ∃ bb o, ip = some ⟨bb, o, none⟩ ∧ bb < w.heap.size ∧ MD.CellsAt wr bb (o + q * 11) items[q] ∧ MD.In w.heap.size wr n items[q] := by
                rcases HT.out with e | ⟨bb, o, e1, e2, e3⟩
                · rw [e] at hlt; simp at hlt
                · exact ⟨bb, o, e1, e2, (e3 q hlt).1.below e2 HB0.out, MD.In.below HB0.out n _ (e3 q hlt).2⟩
              have HS : Hid ((items.take (q + 1)).any (brkR n) = brkR n items[q]) := any_take_succ _ _ _ hlt HR.out.1
              have HA : Hid (brkR n items[q] = true → items.any (brkR n) = true) := fun h => List.any_eq_true.2 ⟨_, List.getElem_mem hlt, h⟩
              generalize items[q] = kid at hC hIn HS HA
              obtain ⟨⟨k0, k1, k2, k3, k4, k5, k6, k7, k8, kp, kpath, kpc⟩, kip, kic, kit⟩ := kid
              have c0 : wr.cell? ⟨bb, o + q * 11, none⟩ = some (.int .i64 k0) := hC 0 (by omega)
              have c1 : wr.cell? ⟨bb, o + q * 11 + 1, none⟩ = some (.string k1) := hC 1 (by omega)
              have c2 : wr.cell? ⟨bb, o + q * 11 + 2, none⟩ = some (.int .i64 k2) := hC 2 (by omega)
              have c3 : wr.cell? ⟨bb, o + q * 11 + 3, none⟩ = some (.int .u64 k3) := hC 3 (by omega)
              have c4 : wr.cell? ⟨bb, o + q * 11 + 4, none⟩ = some (.string k4) := hC 4 (by omega)
              have c5 : wr.cell? ⟨bb, o + q * 11 + 5, none⟩ = some (.int .i64 k5) := hC 5 (by omega)
              have c6 : wr.cell? ⟨bb, o + q * 11 + 6, none⟩ = some (.int .i64 k6) := hC 6 (by omega)
              have c7 : wr.cell? ⟨bb, o + q * 11 + 7, none⟩ = some (.int .i64 k7) := hC 7 (by omega)
              have c8 : wr.cell? ⟨bb, o + q * 11 + 8, none⟩ = some (.int .i64 k8) := hC 8 (by omega)
              have c9 : wr.cell? ⟨bb, o + q * 11 + 9, none⟩ = some (.slice kp kpath.length kpc) := hC 9 (by omega)
              have c10 : wr.cell? ⟨bb, o + q * 11 + 10, none⟩ = some (.slice kip kit.length kic) := hC 10 (by omega)
              have HC : Hid (Calls Tryd.prog 9 #[.agg #[.int .i64 k0, .string k1, .int .i64 k2, .int .u64 k3, .string k4, .int .i64 k5, .int .i64 k6, .int .i64 k7, .int .i64 k8, .slice kp kpath.length kpc, .slice kip kit.length kic]] wr (fun r w' => r = .returned (.bool (brkR n ⟨⟨k0, k1, k2, k3, k4, k5, k6, k7, k8, kp, kpath, kpc⟩, kip, kic, kit⟩)) ∧ Below wr.heap.size wr w')) := HI.out ⟨⟨k0, k1, k2, k3, k4, k5, k6, k7, k8, kp, kpath, kpc⟩, kip, kic, kit⟩ wr (MD.In.mono (by omega) n _ hIn)
              clear hC hIn HI
              generalize brkR n ⟨⟨k0, k1, k2, k3, k4, k5, k6, k7, k8, kp, kpath, kpc⟩, kip, kic, kit⟩ = z at HC HS HA
              cases z with
              | true =>
                obtain rfl : Z = true := HZ.out.trans (HA.out rfl)
                go_wp2_with (go_at_call 9; refine HC.out.mono ?_; rintro r w2 ⟨rfl, b2⟩; have HX : Hid (Below w.heap.size w w2) := HB0.out.trans (b2.mono (by omega)); clear b2)
                go_ret
                exact ⟨rfl, HX.out⟩
              | false =>
                go_wp2_with (go_at_call 9; refine HC.out.mono ?_; rintro r w2 ⟨rfl, b2⟩; have HX : Hid (Below wr.heap.size wr w2) := b2; clear b2)
                exact ⟨⟨q + 1, hlt, by go_num, HS.out, HR.out.2.trans (HX.out.mono (by omega))⟩, by simp [intOf]; omega⟩
            · have i1 : ¬ (q : Int) < items.length := by omega
              have hk2 : q = items.length := by omega
              obtain rfl : Z = false := by
                have := HR.out.1
                rw [hk2, List.take_of_length_le (Nat.le_refl _)] at this
                exact HZ.out.trans this
              clear hk2
              go_wp2_with fail
              go_ret
              exact ⟨rfl, HB0.out⟩
        · have q2 : (IntKind.u64.wrap (f * 4096) == 0) = false := by rw [e2]; simpa using hp
          have e : ((3 : Int) == 3 && ((f / 4503599627370496 % 2048 == 2047) && (f * 4096 % 18446744073709551616 != 0))) = true := by simp [hq, hp]
          rw [e, Bool.true_or]
          clear e e1 e2 e3 hq hp
          go_enter Tryd.func9, Tryd.ntmps9
          go_wp2_with fail
          go_ret
          exact ⟨rfl, below1 _ _⟩
      · have q1 : (bits .and .u64 (f / 4503599627370496) 2047 == 2047) = false := by rw [e1]; simpa using hq
        have e : ((3 : Int) == 3 && ((f / 4503599627370496 % 2048 == 2047) && (f * 4096 % 18446744073709551616 != 0))) = false := by simp [hq]
        rw [e, Bool.false_or]
        clear e e1 e2 e3 hq
        go_enter Tryd.func9, Tryd.ntmps9
        go_wp2_with fail
        go_loopw [3, 4] (fun i _ wr => ∃ q : Nat, q ≤ items.length ∧ i = .int .i64 q ∧ Hid ((items.take q).any (brkR n) = false ∧ Below (w.heap.size + 1) (w.alloc (.cells #[.int .i64 3, .string t, .int .i64 a, .int .u64 f, .string s, .int .i64 r0, .int .i64 r1, .int .i64 r2, .int .i64 r3, .slice pp path.length pc, .slice ip items.length ic] 32)) wr)) (fun i _ _ => items.length - (intOf i).toNat)
        case atStart => exact ⟨0, Nat.zero_le _, rfl, rfl, Below.refl _ _⟩
        case round =>
          obtain ⟨q, hq, rfl, HR⟩ := hrel
          have hcell : wr.cell? ⟨w.heap.size, 10, none⟩ = some (.slice ip items.length ic) := (HR.out.2.cell (p := ⟨w.heap.size, 10, none⟩) (Nat.lt_succ_self _)).trans (row_at (heap_alloc_new _ _) 10)
          have HB0 : Hid (Below w.heap.size w wr) := (below1 _ _).trans (HR.out.2.mono (by omega))
          have hz := HR.out.2.size
          simp only [World.size_alloc] at hz
          by_cases hlt : q < items.length
          · have i1 : (q : Int) < items.length := by omega
            obtain ⟨bb, o, rfl, hbB, hC, hIn⟩ : ∃ bb o, ip = some ⟨bb, o, none⟩ ∧ bb < w.heap.size ∧ MD.CellsAt wr bb (o + q * 11) items[q] ∧ MD.In w.heap.size wr n items[q] := by
              rcases HT.out with e | ⟨bb, o, e1, e2, e3⟩
              · rw [e] at hlt; simp at hlt
              · exact ⟨bb, o, e1, e2, (e3 q hlt).1.below e2 HB0.out, MD.In.below HB0.out n _ (e3 q hlt).2⟩
            have HS : Hid ((items.take (q + 1)).any (brkR n) = brkR n items[q]) := any_take_succ _ _ _ hlt HR.out.1
            have HA : Hid (brkR n items[q] = true → items.any (brkR n) = true) := fun h => List.any_eq_true.2 ⟨_, List.getElem_mem hlt, h⟩
            generalize items[q] = kid at hC hIn HS HA
            obtain ⟨⟨k0, k1, k2, k3, k4, k5, k6, k7, k8, kp, kpath, kpc⟩, kip, kic, kit⟩ := kid
            have c0 : wr.cell? ⟨bb, o + q * 11, none⟩ = some (.int .i64 k0) := hC 0 (by omega)
            have c1 : wr.cell? ⟨bb, o + q * 11 + 1, none⟩ = some (.string k1) := hC 1 (by omega)
            have c2 : wr.cell? ⟨bb, o + q * 11 + 2, none⟩ = some (.int .i64 k2) := hC 2 (by omega)
            have c3 : wr.cell? ⟨bb, o + q * 11 + 3, none⟩ = some (.int .u64 k3) := hC 3 (by omega)
            have c4 : wr.cell? ⟨bb, o + q * 11 + 4, none⟩ = some (.string k4) := hC 4 (by omega)
            have c5 : wr.cell? ⟨bb, o + q * 11 + 5, none⟩ = some (.int .i64 k5) := hC 5 (by omega)
            have c6 : wr.cell? ⟨bb, o + q * 11 + 6, none⟩ = some (.int .i64 k6) := hC 6 (by omega)
            have c7 : wr.cell? ⟨bb, o + q * 11 + 7, none⟩ = some (.int .i64 k7) := hC 7 (by omega)
            have c8 : wr.cell? ⟨bb, o + q * 11 + 8, none⟩ = some (.int .i64 k8) := hC 8 (by omega)
            have c9 : wr.cell? ⟨bb, o + q * 11 + 9, none⟩ = some (.slice kp kpath.length kpc) := hC 9 (by omega)
            have c10 : wr.cell? ⟨bb, o + q * 11 + 10, none⟩ = some (.slice kip kit.length kic) := hC 10 (by omega)
            have HC : Hid (Calls Tryd.prog 9 #[.agg #[.int .i64 k0, .string k1, .int .i64 k2, .int .u64 k3, .string k4, .int .i64 k5, .int .i64 k6, .int .i64 k7, .int .i64 k8, .slice kp kpath.length kpc, .slice kip kit.length kic]] wr (fun r w' => r = .returned (.bool (brkR n ⟨⟨k0, k1, k2, k3, k4, k5, k6, k7, k8, kp, kpath, kpc⟩, kip, kic, kit⟩)) ∧ Below wr.heap.size wr w')) := HI.out ⟨⟨k0, k1, k2, k3, k4, k5, k6, k7, k8, kp, kpath, kpc⟩, kip, kic, kit⟩ wr (MD.In.mono (by omega) n _ hIn)
            clear hC hIn HI
            generalize brkR n ⟨⟨k0, k1, k2, k3, k4, k5, k6, k7, k8, kp, kpath, kpc⟩, kip, kic, kit⟩ = z at HC HS HA
            cases z with
            | true =>
              obtain rfl : Z = true := HZ.out.trans (HA.out rfl)
              go_wp2_with (go_at_call 9; refine HC.out.mono ?_; rintro r w2 ⟨rfl, b2⟩; have HX : Hid (Below w.heap.size w w2) := HB0.out.trans (b2.mono (by omega)); clear b2)
              go_ret
              exact ⟨rfl, HX.out⟩
            | false =>
              go_wp2_with (go_at_call 9; refine HC.out.mono ?_; rintro r w2 ⟨rfl, b2⟩; have HX : Hid (Below wr.heap.size wr w2) := b2; clear b2)
              exact ⟨⟨q + 1, hlt, by go_num, HS.out, HR.out.2.trans (HX.out.mono (by omega))⟩, by simp [intOf]; omega⟩
          · have i1 : ¬ (q : Int) < items.length := by omega
            have hk2 : q = items.length := by omega
            obtain rfl : Z = false := by
              have := HR.out.1
              rw [hk2, List.take_of_length_le (Nat.le_refl _)] at this
              exact HZ.out.trans this
            clear hk2
            go_wp2_with fail
            go_ret
            exact ⟨rfl, HB0.out⟩
    · have hk' : (k == 3) = false := by simpa using hk
      rw [hk', Bool.false_and, Bool.false_or]
      clear e1 e2 e3
      go_enter Tryd.func9, Tryd.ntmps9
      go_wp2_with fail
      go_loopw [3, 4] (fun i _ wr => ∃ q : Nat, q ≤ items.length ∧ i = .int .i64 q ∧ Hid ((items.take q).any (brkR n) = false ∧ Below (w.heap.size + 1) (w.alloc (.cells #[.int .i64 k, .string t, .int .i64 a, .int .u64 f, .string s, .int .i64 r0, .int .i64 r1, .int .i64 r2, .int .i64 r3, .slice pp path.length pc, .slice ip items.length ic] 32)) wr)) (fun i _ _ => items.length - (intOf i).toNat)
      case atStart => exact ⟨0, Nat.zero_le _, rfl, rfl, Below.refl _ _⟩
      case round =>
        obtain ⟨q, hq, rfl, HR⟩ := hrel
        have hcell : wr.cell? ⟨w.heap.size, 10, none⟩ = some (.slice ip items.length ic) := (HR.out.2.cell (p := ⟨w.heap.size, 10, none⟩) (Nat.lt_succ_self _)).trans (row_at (heap_alloc_new _ _) 10)
        have HB0 : Hid (Below w.heap.size w wr) := (below1 _ _).trans (HR.out.2.mono (by omega))
        have hz := HR.out.2.size
        simp only [World.size_alloc] at hz
        by_cases hlt : q < items.length
        · have i1 : (q : Int) < items.length := by omega
          obtain ⟨bb, o, rfl, hbB, hC, hIn⟩ : ∃ bb o, ip = some ⟨bb, o, none⟩ ∧ bb < w.heap.size ∧ MD.CellsAt wr bb (o + q * 11) items[q] ∧ MD.In w.heap.size wr n items[q] := by
            rcases HT.out with e | ⟨bb, o, e1, e2, e3⟩
            · rw [e] at hlt; simp at hlt
            · exact ⟨bb, o, e1, e2, (e3 q hlt).1.below e2 HB0.out, MD.In.below HB0.out n _ (e3 q hlt).2⟩
          have HS : Hid ((items.take (q + 1)).any (brkR n) = brkR n items[q]) := any_take_succ _ _ _ hlt HR.out.1
          have HA : Hid (brkR n items[q] = true → items.any (brkR n) = true) := fun h => List.any_eq_true.2 ⟨_, List.getElem_mem hlt, h⟩
          generalize items[q] = kid at hC hIn HS HA
          obtain ⟨⟨k0, k1, k2, k3, k4, k5, k6, k7, k8, kp, kpath, kpc⟩, kip, kic, kit⟩ := kid
          have c0 : wr.cell? ⟨bb, o + q * 11, none⟩ = some (.int .i64 k0) := hC 0 (by omega)
          have c1 : wr.cell? ⟨bb, o + q * 11 + 1, none⟩ = some (.string k1) := hC 1 (by omega)
          have c2 : wr.cell? ⟨bb, o + q * 11 + 2, none⟩ = some (.int .i64 k2) := hC 2 (by omega)
          have c3 : wr.cell? ⟨bb, o + q * 11 + 3, none⟩ = some (.int .u64 k3) := hC 3 (by omega)
          have c4 : wr.cell? ⟨bb, o + q * 11 + 4, none⟩ = some (.string k4) := hC 4 (by omega)
          have c5 : wr.cell? ⟨bb, o + q * 11 + 5, none⟩ = some (.int .i64 k5) := hC 5 (by omega)
          have c6 : wr.cell? ⟨bb, o + q * 11 + 6, none⟩ = some (.int .i64 k6) := hC 6 (by omega)
          have c7 : wr.cell? ⟨bb, o + q * 11 + 7, none⟩ = some (.int .i64 k7) := hC 7 (by omega)
          have c8 : wr.cell? ⟨bb, o + q * 11 + 8, none⟩ = some (.int .i64 k8) := hC 8 (by omega)
          have c9 : wr.cell? ⟨bb, o + q * 11 + 9, none⟩ = some (.slice kp kpath.length kpc) := hC 9 (by omega)
          have c10 : wr.cell? ⟨bb, o + q * 11 + 10, none⟩ = some (.slice kip kit.length kic) := hC 10 (by omega)
          have HC : Hid (Calls Tryd.prog 9 #[.agg #[.int .i64 k0, .string k1, .int .i64 k2, .int .u64 k3, .string k4, .int .i64 k5, .int .i64 k6, .int .i64 k7, .int .i64 k8, .slice kp kpath.length kpc, .slice kip kit.length kic]] wr (fun r w' => r = .returned (.bool (brkR n ⟨⟨k0, k1, k2, k3, k4, k5, k6, k7, k8, kp, kpath, kpc⟩, kip, kic, kit⟩)) ∧ Below wr.heap.size wr w')) := HI.out ⟨⟨k0, k1, k2, k3, k4, k5, k6, k7, k8, kp, kpath, kpc⟩, kip, kic, kit⟩ wr (MD.In.mono (by omega) n _ hIn)
          clear hC hIn HI
          generalize brkR n ⟨⟨k0, k1, k2, k3, k4, k5, k6, k7, k8, kp, kpath, kpc⟩, kip, kic, kit⟩ = z at HC HS HA
          cases z with
          | true =>
            obtain rfl : Z = true := HZ.out.trans (HA.out rfl)
            go_wp2_with (go_at_call 9; refine HC.out.mono ?_; rintro r w2 ⟨rfl, b2⟩; have HX : Hid (Below w.heap.size w w2) := HB0.out.trans (b2.mono (by omega)); clear b2)
            go_ret
            exact ⟨rfl, HX.out⟩
          | false =>
            go_wp2_with (go_at_call 9; refine HC.out.mono ?_; rintro r w2 ⟨rfl, b2⟩; have HX : Hid (Below wr.heap.size wr w2) := b2; clear b2)
            exact ⟨⟨q + 1, hlt, by go_num, HS.out, HR.out.2.trans (HX.out.mono (by omega))⟩, by simp [intOf]; omega⟩
        · have i1 : ¬ (q : Int) < items.length := by omega
          have hk2 : q = items.length := by omega
          obtain rfl : Z = false := by
            have := HR.out.1
            rw [hk2, List.take_of_length_le (Nat.le_refl _)] at this
            exact HZ.out.trans this
          clear hk2
          go_wp2_with fail
          go_ret
          exact ⟨rfl, HB0.out⟩
theorem broken_any : ∀ (n : Nat) (d : MD) (w : World), MD.In w.heap.size w n d → Calls Tryd.prog 9 #[d.val] w fun r w' => r = .returned (.bool (brkR n d)) ∧ Below w.heap.size w w'
  | 0, _, _, h => h.elim
  | n + 1, d, w, hin => broken_step n (fun d w h => broken_any n d w h) d w hin
end Go.Proofs.YtnhbpcmiolkllabDoor
