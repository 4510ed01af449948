/-
  The document's Right, at any datum.
-/
import Derived.Test.YtnhbpcmiolkllaaDoorRr
namespace Go.Proofs.YtnhbpcmiolkllaaDoor
open Go.RowKit
attribute [local go_sem] refold2 cell3_0 cell3_1 b28_0 b28_01

/-- What a call of the document's right does. -/
def RefRightC (n : Nat) : Prop := ∀ (d : MD) (deep : Int) (w : World), 1 ≤ deep → deep + MD.size n d ≤ 101 → MD.In w.heap.size w n d →
  Calls Tryd.prog 33 #[d.val, .int .i64 deep] w fun r w' => r = .returned (.bool (MD.full n d)) ∧ Below w.heap.size w w'
def FieldsRel (n : Nat) (items : List MD) (W1 : World) (x i : Value) (wr : World) : Prop :=
  ∃ (j : Nat) (ok : Bool), j ≤ items.length ∧ i = .int .i64 j ∧ x = .bool ok ∧ ok = (items.take j).all (MD.full n) ∧ Below W1.heap.size W1 wr

set_option maxRecDepth 100000 in
set_option maxHeartbeats 4000000 in
theorem refFields_step (n : Nat) (hI : RefRightC n) (t : ByteArray) (a f : Int) (s : ByteArray) (r0 r1 r2 r3 : Int) (pp : Option Addr) (path : List Int) (pc : Nat) (ip : Option Addr) (items : List MD) (ic : Nat) (deep : Int) (w : World) (hd1 : 1 ≤ deep) (hds : deep + 1 + (items.map (MD.size n)).sum ≤ 101) (hits : MD.ItemsIn w.heap.size w n ⟨⟨8, t, a, f, s, r0, r1, r2, r3, pp, path, pc⟩, ip, ic, items⟩) (_hl1 : items.length ≤ ic) (_hl2 : ic ≤ maxLen) :
    Calls Tryd.prog 64 #[.agg #[.int .i64 8, .string t, .int .i64 a, .int .u64 f, .string s, .int .i64 r0, .int .i64 r1, .int .i64 r2, .int .i64 r3, .slice pp path.length pc, .slice ip items.length ic], .int .i64 deep] w fun r w' => r = .returned (.bool (declB t && plainB false false false false true a f s r0 r1 r2 r3 path.length items.length && decide (items.length ≤ 30) && items.all (MD.full n))) ∧ Below w.heap.size w w' := by
  have HI : Hid (RefRightC n) := hI
  have HT : Hid (MD.ItemsIn w.heap.size w n ⟨⟨8, t, a, f, s, r0, r1, r2, r3, pp, path, pc⟩, ip, ic, items⟩) := hits
  have HD : Hid (deep + 1 + (items.map (MD.size n)).sum ≤ 101) := hds
  have hdeep : deep ≤ 100 := by omega
  clear hI hits hds
  obtain ⟨W1, hW1⟩ : ∃ W1, W1 = w.alloc (.cells #[.int .i64 8, .string t, .int .i64 a, .int .u64 f, .string s, .int .i64 r0, .int .i64 r1, .int .i64 r2, .int .i64 r3, .slice pp path.length pc, .slice ip items.length ic] 28) := ⟨_, rfl⟩
  have HK : Hid (∀ W, Below W1.heap.size W1 W → Below w.heap.size w W ∧ ∀ j, W.cell? ⟨w.heap.size, j, none⟩ = (#[.int .i64 8, .string t, .int .i64 a, .int .u64 f, .string s, .int .i64 r0, .int .i64 r1, .int .i64 r2, .int .i64 r3, .slice pp path.length pc, .slice ip items.length ic] : Array Value)[j]?) := fun W hW => by rw [hW1] at hW; exact kept1 hW
  have hz1 : W1.heap.size = w.heap.size + 1 := by rw [hW1]; simp
  have HB : Hid (Below W1.heap.size W1 W1) := Below.refl _ _
  have CT : Hid (∀ W, Below W1.heap.size W1 W → Calls Tryd.prog 65 #[.string t] W fun r w' => r = .returned (.bool (declB t)) ∧ Below W1.heap.size W1 w') := fun W hW => (refDeclared_any t W).mono fun _ _ h => ⟨h.1, hW.trans (h.2.mono hW.size)⟩
  have CP : Hid (∀ W, Below W1.heap.size W1 W → Calls Tryd.prog 61 #[.agg #[.int .i64 8, .string t, .int .i64 a, .int .u64 f, .string s, .int .i64 r0, .int .i64 r1, .int .i64 r2, .int .i64 r3, .slice pp path.length pc, .slice ip items.length ic], .bool false, .bool false, .bool false, .bool false, .bool true] W fun r w' => r = .returned (.bool (plainB false false false false true a f s r0 r1 r2 r3 path.length items.length)) ∧ Below W1.heap.size W1 w') := fun W hW => (refPlain_i 8 t a f s r0 r1 r2 r3 pp path.length pc ip items.length ic W).mono fun _ _ h => ⟨h.1, hW.trans (h.2.mono hW.size)⟩
  generalize plainB false false false false true a f s r0 r1 r2 r3 path.length items.length = pv at CP ⊢
  generalize declB t = tv at CT ⊢
  cases tv with
  | false =>
    simp only [Bool.false_and]
    go_enter Tryd.func64, Tryd.ntmps64
    go_wp2_with fail
    rw [← hW1]
    clear hW1
    have hc1 := (HK.out _ HB.out).2
    go_wp2_with (first | (go_at_call 65; refine (CT.out _ HB.out).mono ?_; rintro r w2 ⟨rfl, b2⟩; have hc2 := (HK.out _ b2).2; have HB : Hid (Below W1.heap.size W1 w2) := b2; clear b2) | (go_at_call 61; refine (CP.out _ HB.out).mono ?_; rintro r w3 ⟨rfl, b3⟩; have hc3 := (HK.out _ b3).2; have HB : Hid (Below W1.heap.size W1 w3) := b3; clear b3))
    go_loop [6, 7] (fun x i => x = .bool false ∧ i = .int .i64 0) (fun _ _ => 0)
    case atStart => exact ⟨rfl, rfl⟩
    case round =>
      obtain ⟨rfl, rfl⟩ := hrel
      by_cases hp : (0 : Int) < items.length
      all_goals go_wp2_with fail
      all_goals (go_ret; exact ⟨rfl, (HK.out _ HB.out).1⟩)
  | true =>
    cases pv with
    | false =>
      simp only [Bool.false_and, Bool.and_false]
      go_enter Tryd.func64, Tryd.ntmps64
      go_wp2_with fail
      rw [← hW1]
      clear hW1
      have hc1 := (HK.out _ HB.out).2
      go_wp2_with (first | (go_at_call 65; refine (CT.out _ HB.out).mono ?_; rintro r w2 ⟨rfl, b2⟩; have hc2 := (HK.out _ b2).2; have HB : Hid (Below W1.heap.size W1 w2) := b2; clear b2) | (go_at_call 61; refine (CP.out _ HB.out).mono ?_; rintro r w3 ⟨rfl, b3⟩; have hc3 := (HK.out _ b3).2; have HB : Hid (Below W1.heap.size W1 w3) := b3; clear b3))
      go_loop [6, 7] (fun x i => x = .bool false ∧ i = .int .i64 0) (fun _ _ => 0)
      case atStart => exact ⟨rfl, rfl⟩
      case round =>
        obtain ⟨rfl, rfl⟩ := hrel
        by_cases hp : (0 : Int) < items.length
        all_goals go_wp2_with fail
        all_goals (go_ret; exact ⟨rfl, (HK.out _ HB.out).1⟩)
    | true =>
      by_cases h30 : items.length ≤ 30
      · have h30' : (items.length : Int) ≤ 30 := by omega
        have e : decide (items.length ≤ 30) = true := by simpa using h30
        rw [e]
        clear e
        simp only [Bool.true_and]
        obtain ⟨fin, hfin⟩ : ∃ fin, fin = items.all (MD.full n) := ⟨_, rfl⟩
        rw [← hfin]
        have HFI : Hid (fin = items.all (MD.full n)) := hfin
        clear hfin
        go_enter Tryd.func64, Tryd.ntmps64
        go_wp2_with fail
        rw [← hW1]
        clear hW1
        have hc1 := (HK.out _ HB.out).2
        go_wp2_with (first | (go_at_call 65; refine (CT.out _ HB.out).mono ?_; rintro r w2 ⟨rfl, b2⟩; have hc2 := (HK.out _ b2).2; have HB : Hid (Below W1.heap.size W1 w2) := b2; clear b2) | (go_at_call 61; refine (CP.out _ HB.out).mono ?_; rintro r w3 ⟨rfl, b3⟩; have hc3 := (HK.out _ b3).2; have HB : Hid (Below W1.heap.size W1 w3) := b3; clear b3))
        go_loopw [6, 7] (fun x i wr => FieldsRel n items W1 x i wr) (fun _ i _ => items.length - (intOf i).toNat)
        case atStart => exact ⟨0, true, Nat.zero_le _, rfl, rfl, rfl, HB.out⟩
        case round =>
          obtain ⟨k, ok, hk, rfl, rfl, hok', hb⟩ := hrel
          have hok : Hid (ok = (items.take k).all (MD.full n)) := hok'
          have hcw := (HK.out _ hb).2
          have HB0 : Hid (Below W1.heap.size W1 wr ∧ Below w.heap.size w wr) := ⟨hb, (HK.out _ hb).1⟩
          have hz := hb.size
          clear hok' hb
          by_cases hgo : k < items.length ∧ ok = true
          · obtain ⟨hlt, rfl⟩ := hgo
            have i1 : (k : Int) < items.length := by omega
            obtain ⟨bb, o, rfl, hbB, hC, hIn⟩ : ∃ bb o, ip = some ⟨bb, o, none⟩ ∧ bb < w.heap.size ∧ MD.CellsAt wr bb (o + k * 11) items[k] ∧ MD.In w.heap.size wr n items[k] := by
              rcases MD.ItemsIn.below HT.out HB0.out.2 with e | ⟨bb, o, e1, e2, e3⟩
              · have e' : items = [] := e
                rw [e'] at hlt; simp at hlt
              · exact ⟨bb, o, e1, e2, e3 k hlt⟩
            have HS : Hid (((items.take (k + 1)).map (MD.size n)).sum = ((items.take k).map (MD.size n)).sum + MD.size n items[k]) := sum_take_succ _ _ _ hlt
            have HL : Hid (((items.take (k + 1)).map (MD.size n)).sum ≤ (items.map (MD.size n)).sum) := sum_take_le _ _ _
            have HA : Hid ((items.take (k + 1)).all (MD.full n) = MD.full n items[k]) := by
              show _ = _
              rw [List.take_succ_eq_append_getElem hlt, List.all_append, ← hok.out]; simp
            generalize items[k] = kid at hC hIn HS HA
            obtain ⟨⟨k0, k1, k2, k3, k4, k5, k6, k7, k8, kp, kpath, kpc⟩, kip, kic, kit⟩ := kid
            have c0 : wr.cell? ⟨bb, o + k * 11, none⟩ = some (.int .i64 k0) := hC 0 (by omega)
            have c1 : wr.cell? ⟨bb, o + k * 11 + 1, none⟩ = some (.string k1) := hC 1 (by omega)
            have c2 : wr.cell? ⟨bb, o + k * 11 + 2, none⟩ = some (.int .i64 k2) := hC 2 (by omega)
            have c3 : wr.cell? ⟨bb, o + k * 11 + 3, none⟩ = some (.int .u64 k3) := hC 3 (by omega)
            have c4 : wr.cell? ⟨bb, o + k * 11 + 4, none⟩ = some (.string k4) := hC 4 (by omega)
            have c5 : wr.cell? ⟨bb, o + k * 11 + 5, none⟩ = some (.int .i64 k5) := hC 5 (by omega)
            have c6 : wr.cell? ⟨bb, o + k * 11 + 6, none⟩ = some (.int .i64 k6) := hC 6 (by omega)
            have c7 : wr.cell? ⟨bb, o + k * 11 + 7, none⟩ = some (.int .i64 k7) := hC 7 (by omega)
            have c8 : wr.cell? ⟨bb, o + k * 11 + 8, none⟩ = some (.int .i64 k8) := hC 8 (by omega)
            have c9 : wr.cell? ⟨bb, o + k * 11 + 9, none⟩ = some (.slice kp kpath.length kpc) := hC 9 (by omega)
            have c10 : wr.cell? ⟨bb, o + k * 11 + 10, none⟩ = some (.slice kip kit.length kic) := hC 10 (by omega)
            have HC : Hid (Calls Tryd.prog 33 #[.agg #[.int .i64 k0, .string k1, .int .i64 k2, .int .u64 k3, .string k4, .int .i64 k5, .int .i64 k6, .int .i64 k7, .int .i64 k8, .slice kp kpath.length kpc, .slice kip kit.length kic], .int .i64 (deep + 1)] wr fun r w' => r = .returned (.bool (MD.full n ⟨⟨k0, k1, k2, k3, k4, k5, k6, k7, k8, kp, kpath, kpc⟩, kip, kic, kit⟩)) ∧ Below wr.heap.size wr w') :=
              HI.out ⟨⟨k0, k1, k2, k3, k4, k5, k6, k7, k8, kp, kpath, kpc⟩, kip, kic, kit⟩ (deep + 1) wr (by omega) (by have := HS.out; have := HL.out; have := HD.out; omega) (MD.In.mono (by omega) n _ hIn)
            clear hC hIn HI
            generalize MD.full n ⟨⟨k0, k1, k2, k3, k4, k5, k6, k7, k8, kp, kpath, kpc⟩, kip, kic, kit⟩ = fk at HC HA
            go_wp2_with (go_at_call 33; refine HC.out.mono ?_; rintro r w9 ⟨rfl, b9⟩; have HB9 : Hid (Below wr.heap.size wr w9) := b9; clear b9)
            exact ⟨⟨k + 1, fk, hlt, by go_num, rfl, HA.out.symm, HB0.out.1.trans (HB9.out.mono (by omega))⟩, by simp [intOf]; omega⟩
          · have HX : Hid (fin = ok) := by
              show _ = _
              rw [HFI.out]
              by_cases hlt : k < items.length
              · cases ok with
                | true => exact absurd ⟨hlt, rfl⟩ hgo
                | false =>
                  have h := hok.out.symm
                  rw [List.all_eq_false] at h
                  obtain ⟨x, hx, hx2⟩ := h
                  rw [List.all_eq_false]
                  exact ⟨x, List.mem_of_mem_take hx, hx2⟩
              · rw [hok.out, List.take_of_length_le (by omega)]
            by_cases hlt : (k : Int) < items.length
            · have hof : ok = false := by
                cases ok with
                | true => exact absurd ⟨by omega, rfl⟩ hgo
                | false => rfl
              subst hof
              clear hgo
              go_wp2_with fail
              go_ret
              exact ⟨by rw [HX.out]; rfl, HB0.out.2⟩
            · clear hgo
              go_wp2_with fail
              go_ret
              exact ⟨by rw [HX.out]; rfl, HB0.out.2⟩
      · have h30' : ¬ (items.length : Int) ≤ 30 := by omega
        have e : decide (items.length ≤ 30) = false := by simpa using h30
        rw [e]
        clear e
        simp only [Bool.false_and, Bool.and_false]
        go_enter Tryd.func64, Tryd.ntmps64
        go_wp2_with fail
        rw [← hW1]
        clear hW1
        have hc1 := (HK.out _ HB.out).2
        go_wp2_with (first | (go_at_call 65; refine (CT.out _ HB.out).mono ?_; rintro r w2 ⟨rfl, b2⟩; have hc2 := (HK.out _ b2).2; have HB : Hid (Below W1.heap.size W1 w2) := b2; clear b2) | (go_at_call 61; refine (CP.out _ HB.out).mono ?_; rintro r w3 ⟨rfl, b3⟩; have hc3 := (HK.out _ b3).2; have HB : Hid (Below W1.heap.size W1 w3) := b3; clear b3))
        go_loop [6, 7] (fun x i => x = .bool false ∧ i = .int .i64 0) (fun _ _ => 0)
        case atStart => exact ⟨by simp; omega, rfl⟩
        case round =>
          obtain ⟨rfl, rfl⟩ := hrel
          have hp : (0 : Int) < items.length := by omega
          all_goals go_wp2_with fail
          all_goals (go_ret; exact ⟨rfl, (HK.out _ HB.out).1⟩)

theorem full_eq (n : Nat) (d : MD) : MD.full (n + 1) d = (headOK d.h d.items.length && (d.h.k != 8 || (decide (d.items.length ≤ 30) && d.items.all (MD.full n)))) := rfl

set_option maxRecDepth 100000 in
set_option maxHeartbeats 4000000 in
theorem refRight_step (n : Nat) (hI : RefRightC n) : RefRightC (n + 1) := by
  intro d deep w hd1 hds hin
  have hF := hin.fine
  have hP := hin.path
  have hits := hin.items
  have hlen := hin.len
  obtain ⟨⟨k, t, a, f, s, r0, r1, r2, r3, pp, path, pc⟩, ip, ic, items⟩ := d
  have hdp : ¬ 100 < deep := by have := MD.size_pos (n + 1) ⟨⟨k, t, a, f, s, r0, r1, r2, r3, pp, path, pc⟩, ip, ic, items⟩; omega
  rw [full_eq]
  simp only [MD.val, D]
  rcases kinds k with rfl | rfl | rfl | rfl | rfl | rfl | rfl | rfl | rfl | rfl | hk
  · have e : (headOK ⟨0, t, a, f, s, r0, r1, r2, r3, pp, path, pc⟩ items.length && ((0 : Int) != 8 || (decide (items.length ≤ 30) && items.all (MD.full n)))) = ((t.toList == []) && plainB false false false false false a f s r0 r1 r2 r3 path.length items.length) := by
      show (tyB 0 t && zeroK 0 a f s r0 r1 r2 r3 path.length items.length && true && true) = _
      rw [Bool.and_true, zero_plain 0 false false false false _ _ _ _ _ _ _ _ _ rfl rfl rfl rfl rfl]
      rw [Bool.and_true]; rfl
    rw [e]
    exact refRight_0 t a f s r0 r1 r2 r3 pp path pc ip items ic deep w hdp
  · have e : (headOK ⟨1, t, a, f, s, r0, r1, r2, r3, pp, path, pc⟩ items.length && ((1 : Int) != 8 || (decide (items.length ≤ 30) && items.all (MD.full n)))) = (tyB 1 t && plainB true false false false false a f s r0 r1 r2 r3 path.length items.length && (a == 0 || a == 1)) := by
      show (tyB 1 t && zeroK 1 a f s r0 r1 r2 r3 path.length items.length && (a == 0 || a == 1) && true) = _
      rw [Bool.and_true, zero_plain 1 true false false false _ _ _ _ _ _ _ _ _ rfl rfl rfl rfl rfl]
    rw [e]
    exact refRight_1 t a f s r0 r1 r2 r3 pp path pc ip items ic deep w hdp
  · have e : (headOK ⟨2, t, a, f, s, r0, r1, r2, r3, pp, path, pc⟩ items.length && ((2 : Int) != 8 || (decide (items.length ≤ 30) && items.all (MD.full n)))) = (tyB 2 t && plainB true false false false false a f s r0 r1 r2 r3 path.length items.length) := by
      show (tyB 2 t && zeroK 2 a f s r0 r1 r2 r3 path.length items.length && true && true) = _
      rw [Bool.and_true, zero_plain 2 true false false false _ _ _ _ _ _ _ _ _ rfl rfl rfl rfl rfl]
      rw [Bool.and_true]
    rw [e]
    exact refRight_2 t a f s r0 r1 r2 r3 pp path pc ip items ic deep w hdp
  · have e : (headOK ⟨3, t, a, f, s, r0, r1, r2, r3, pp, path, pc⟩ items.length && ((3 : Int) != 8 || (decide (items.length ≤ 30) && items.all (MD.full n)))) = (tyB 3 t && plainB false true false false false a f s r0 r1 r2 r3 path.length items.length && (!isNan f.toNat || f == 9221120237041090561)) := by
      show (tyB 3 t && zeroK 3 a f s r0 r1 r2 r3 path.length items.length && (f == 9221120237041090561 || !isNan f.toNat) && true) = _
      rw [Bool.and_true, zero_plain 3 false true false false _ _ _ _ _ _ _ _ _ rfl rfl rfl rfl rfl]
      rw [Bool.or_comm]
    rw [e]
    exact refRight_3 t a f s r0 r1 r2 r3 pp path pc ip items ic deep w hdp hF
  · have e : (headOK ⟨4, t, a, f, s, r0, r1, r2, r3, pp, path, pc⟩ items.length && ((4 : Int) != 8 || (decide (items.length ≤ 30) && items.all (MD.full n)))) = (tyB 4 t && plainB false false true false false a f s r0 r1 r2 r3 path.length items.length && decide ((s.size : Int) ≤ 65536)) := by
      show (tyB 4 t && zeroK 4 a f s r0 r1 r2 r3 path.length items.length && decide (s.size ≤ 65536) && true) = _
      rw [Bool.and_true, zero_plain 4 false false true false _ _ _ _ _ _ _ _ _ rfl rfl rfl rfl rfl]
      rw [show decide (s.size ≤ 65536) = decide ((s.size : Int) ≤ 65536) from decide_eq_decide.2 (by omega)]
    rw [e]
    exact refRight_4 t a f s r0 r1 r2 r3 pp path pc ip items ic deep w hdp
  · have e : (headOK ⟨5, t, a, f, s, r0, r1, r2, r3, pp, path, pc⟩ items.length && ((5 : Int) != 8 || (decide (items.length ≤ 30) && items.all (MD.full n)))) = (tyB 5 t && plainB false false false true false a f s r0 r1 r2 r3 path.length items.length && leadsB 5 r0 r1 r2 r3 path) := by
      show (tyB 5 t && zeroK 5 a f s r0 r1 r2 r3 path.length items.length && pieceB r0 r1 r2 r3 && true) = _
      rw [Bool.and_true, Bool.and_assoc, lead5, Bool.and_assoc]
    rw [e]
    exact refRight_5 t a f s r0 r1 r2 r3 pp path pc ip items ic deep w hdp hF hP
  · have e : (headOK ⟨6, t, a, f, s, r0, r1, r2, r3, pp, path, pc⟩ items.length && ((6 : Int) != 8 || (decide (items.length ≤ 30) && items.all (MD.full n)))) = (tyB 6 t && plainB false false false true false a f s r0 r1 r2 r3 path.length items.length && leadsB 6 r0 r1 r2 r3 path) := by
      show (tyB 6 t && zeroK 6 a f s r0 r1 r2 r3 path.length items.length && objB r0 && true) = _
      rw [Bool.and_true, Bool.and_assoc, lead67 6 (by simp), Bool.and_assoc]
    rw [e]
    exact refRight_6 t a f s r0 r1 r2 r3 pp path pc ip items ic deep w hdp hF hP
  · have e : (headOK ⟨7, t, a, f, s, r0, r1, r2, r3, pp, path, pc⟩ items.length && ((7 : Int) != 8 || (decide (items.length ≤ 30) && items.all (MD.full n)))) = (tyB 7 t && plainB false false false true false a f s r0 r1 r2 r3 path.length items.length && leadsB 7 r0 r1 r2 r3 path) := by
      show (tyB 7 t && zeroK 7 a f s r0 r1 r2 r3 path.length items.length && objB r0 && true) = _
      rw [Bool.and_true, Bool.and_assoc, lead67 7 (by simp), Bool.and_assoc]
    rw [e]
    exact refRight_7 t a f s r0 r1 r2 r3 pp path pc ip items ic deep w hdp hF hP
  · have e : (headOK ⟨8, t, a, f, s, r0, r1, r2, r3, pp, path, pc⟩ items.length && ((8 : Int) != 8 || (decide (items.length ≤ 30) && items.all (MD.full n)))) = (declB t && plainB false false false false true a f s r0 r1 r2 r3 path.length items.length && decide (items.length ≤ 30) && items.all (MD.full n)) := by
      show (tyB 8 t && zeroK 8 a f s r0 r1 r2 r3 path.length items.length && true && (false || (decide (items.length ≤ 30) && items.all (MD.full n)))) = _
      rw [Bool.and_true, zero_plain 8 false false false true _ _ _ _ _ _ _ _ _ rfl rfl rfl rfl rfl, Bool.false_or, Bool.and_assoc (declB t && _)]
      rfl
    rw [e]
    clear e
    have hds2 : deep + 1 + (items.map (MD.size n)).sum ≤ 101 := by
      have e2 : MD.size (n + 1) ⟨⟨8, t, a, f, s, r0, r1, r2, r3, pp, path, pc⟩, ip, ic, items⟩ = 1 + (items.map (MD.size n)).sum := rfl
      rw [e2] at hds; omega
    have HM : Hid (∀ W, Below w.heap.size w W → Calls Tryd.prog 64 #[.agg #[.int .i64 8, .string t, .int .i64 a, .int .u64 f, .string s, .int .i64 r0, .int .i64 r1, .int .i64 r2, .int .i64 r3, .slice pp path.length pc, .slice ip items.length ic], .int .i64 deep] W fun r w' => r = .returned (.bool (declB t && plainB false false false false true a f s r0 r1 r2 r3 path.length items.length && decide (items.length ≤ 30) && items.all (MD.full n))) ∧ Below w.heap.size w w') := fun W hW =>
      (refFields_step n hI t a f s r0 r1 r2 r3 pp path pc ip items ic deep W hd1 hds2 (by
        rcases hits.below hW with e | ⟨b, o, e1, e2, e3⟩
        · exact .inl e
        · exact .inr ⟨b, o, e1, Nat.lt_of_lt_of_le e2 hW.size, fun i hi => ⟨(e3 i hi).1, MD.In.mono hW.size n _ (e3 i hi).2⟩⟩) hlen.1 hlen.2).mono fun _ _ h => ⟨h.1, hW.trans (h.2.mono hW.size)⟩
    generalize (declB t && plainB false false false false true a f s r0 r1 r2 r3 path.length items.length && decide (items.length ≤ 30) && items.all (MD.full n)) = fv at HM ⊢
    clear hits hlen hF hP hin hds hds2
    go_enter Tryd.func33, Tryd.ntmps33
    go_wp2_with (go_at_call 64; refine (HM.out _ (below1 _ _)).mono ?_; rintro r w9 ⟨rfl, b9⟩)
    go_ret
    exact ⟨rfl, b9⟩
  · have e : (headOK ⟨9, t, a, f, s, r0, r1, r2, r3, pp, path, pc⟩ items.length && ((9 : Int) != 8 || (decide (items.length ≤ 30) && items.all (MD.full n)))) = (declB t && plainB false false false true false a f s r0 r1 r2 r3 path.length items.length && leadsB 9 r0 r1 r2 r3 path) := by
      show (tyB 9 t && zeroK 9 a f s r0 r1 r2 r3 path.length items.length && targetB r0 path && true) = _
      rw [Bool.and_true, Bool.and_assoc, lead9, Bool.and_assoc]
      rfl
    rw [e]
    exact refRight_9 t a f s r0 r1 r2 r3 pp path pc ip items ic deep w hdp hF hP
  · have e : headOK ⟨k, t, a, f, s, r0, r1, r2, r3, pp, path, pc⟩ items.length = false := by
      unfold headOK
      have : tyB k t = false := by
        unfold tyB
        rw [if_neg (by omega), if_neg (by omega), if_neg (by omega), if_neg (by omega), if_neg (by omega), if_neg (by omega), if_neg (by omega), if_neg (by omega), if_neg (by omega), if_neg (by omega)]
      rw [this]; rfl
    rw [e]
    have h0 : ¬ k = 0 := by omega
    have h1 : ¬ k = 1 := by omega
    have h2 : ¬ k = 2 := by omega
    have h3 : ¬ k = 3 := by omega
    have h4 : ¬ k = 4 := by omega
    have h5 : ¬ k = 5 := by omega
    have h6 : ¬ k = 6 := by omega
    have h7 : ¬ k = 7 := by omega
    have h8 : ¬ k = 8 := by omega
    have h9 : ¬ k = 9 := by omega
    clear hits hlen hF hP hin hds e hk
    go_enter Tryd.func33, Tryd.ntmps33
    go_wp2_with fail
    go_ret
    exact ⟨rfl, below1 _ _⟩

theorem refRight_any : ∀ n, RefRightC n
  | 0 => fun _ _ _ _ _ h => h.elim
  | n + 1 => refRight_step n (refRight_any n)

/-- May a datum be? -/
def MD.right (n : Nat) (d : MD) : Bool := MD.full n d && decide (MD.size n d ≤ 100)

set_option maxRecDepth 100000 in
set_option maxHeartbeats 2000000 in
theorem refRightAny (n : Nat) (d : MD) (w : World) (hin : MD.In w.heap.size w n d) : Calls Tryd.prog 11 #[d.val] w fun r w' => r = .returned (.bool (MD.right n d)) ∧ Below w.heap.size w w' := by
  have HS : Hid (∀ W, Below w.heap.size w W → Calls Tryd.prog 32 #[d.val] W (SizeP (MD.size n d) W)) := fun W hW => refSize_any n d W (hin.later (Nat.le_refl _) hW)
  have HR : Hid (∀ W, Below w.heap.size w W → MD.size n d ≤ 100 → Calls Tryd.prog 33 #[d.val, .int .i64 1] W fun r w' => r = .returned (.bool (MD.full n d)) ∧ Below w.heap.size w w') := fun W hW h => (refRight_any n d 1 W (by omega) (by omega) (hin.later (Nat.le_refl _) hW)).mono fun _ _ h => ⟨h.1, hW.trans (h.2.mono hW.size)⟩
  unfold MD.right
  clear hin
  generalize MD.full n d = fv at HR ⊢
  generalize MD.size n d = z at HS HR ⊢
  obtain ⟨⟨k, t, a, f, s, r0, r1, r2, r3, pp, path, pc⟩, ip, ic, items⟩ := d
  simp only [MD.val, D] at *
  by_cases hz : z ≤ 100
  · have e : decide (z ≤ 100) = true := by simpa using hz
    rw [e, Bool.and_true]
    have HZ : Hid (z ≤ 100) := hz
    clear e hz
    go_enter Tryd.func11, Tryd.ntmps11
    go_wp2_with (first | (go_at_call 32; refine (HS.out _ (below1 _ _)).mono ?_; rintro r w2 ⟨x, rfl, hx0, hx1, hx2, b2⟩; have hx3 : x ≤ 100 := (by have := HZ.out; omega); have hc2 := (kept1 b2).2; have HB : Hid (Below w.heap.size w w2) := (kept1 b2).1; clear b2 hx2) | (go_at_call 33; refine (HR.out _ HB.out HZ.out).mono ?_; rintro r w3 ⟨rfl, b3⟩))
    go_ret
    exact ⟨rfl, b3⟩
  · have e : decide (z ≤ 100) = false := by simpa using hz
    rw [e, Bool.and_false]
    have HZ : Hid (¬ z ≤ 100) := hz
    clear e hz
    go_enter Tryd.func11, Tryd.ntmps11
    go_wp2_with (go_at_call 32; refine (HS.out _ (below1 _ _)).mono ?_; rintro r w2 ⟨x, rfl, hx0, hx1, hx2, b2⟩; have hx3 : ¬ x ≤ 100 := (by have := HZ.out; omega); have HB : Hid (Below w.heap.size w w2) := (kept1 b2).1; clear b2 hx2)
    go_ret
    exact ⟨rfl, HB.out⟩
end Go.Proofs.YtnhbpcmiolkllaaDoor
