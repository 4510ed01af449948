/-
  The document's Size.
-/
import Derived.Test.YtnhbpcmiolkllaaDoorEd
namespace Go.Proofs.YtnhbpcmiolkllaaDoor
open Go.RowKit
attribute [local go_sem] refold2 cell3_0 cell3_1 b28_0 b28_01

theorem len_le_sum (n : Nat) : ∀ l : List MD, l.length ≤ (l.map (MD.size n)).sum
  | [] => by simp
  | d :: l => by
    have h1 := len_le_sum n l
    have h2 := MD.size_pos n d
    simp only [List.length_cons, List.map_cons, List.sum_cons]; omega

/-- What Size answers. -/
def SizeP (z : Nat) (w : World) (r : Ending) (w' : World) : Prop := ∃ x : Int, r = .returned (.int .i64 x) ∧ 1 ≤ x ∧ x ≤ 101 ∧ x = min (z : Int) 101 ∧ Below w.heap.size w w'
def SizeRel (n : Nat) (items : List MD) (w : World) (c : Array Value) (x i : Value) (wr : World) : Prop :=
  ∃ (k : Nat) (m : Int), k ≤ items.length ∧ i = .int .i64 k ∧ x = .int .i64 m ∧ 1 ≤ m ∧ m ≤ 201 ∧ (m ≤ 100 → m = 1 + ((items.take k).map (MD.size n)).sum) ∧ (100 < m → 100 < 1 + ((items.take k).map (MD.size n)).sum) ∧ Below (w.heap.size + 1) (w.alloc (.cells c 28)) wr

set_option maxRecDepth 100000 in
set_option maxHeartbeats 2000000 in
theorem refSize_any : ∀ (n : Nat) (d : MD) (w : World), MD.In w.heap.size w n d → Calls Tryd.prog 32 #[d.val] w (SizeP (MD.size n d) w)
  | 0, _, _, h => h.elim
  | n + 1, d, w, hin => by
    have HI : Hid (∀ (d : MD) (w : World), MD.In w.heap.size w n d → Calls Tryd.prog 32 #[d.val] w (SizeP (MD.size n d) w)) := fun d w h => refSize_any n d w h
    have hits := hin.items
    have hlen := hin.len
    clear hin
    obtain ⟨⟨k, t, a, f, s, r0, r1, r2, r3, pp, path, pc⟩, ip, ic, items⟩ := d
    simp only [MD.val, D, MD.size]
    by_cases hk : k = 8
    · subst hk
      rw [if_pos rfl]
      have hl1 : items.length ≤ 9223372036854775807 := by have := hlen.1; have := hlen.2; unfold maxLen at *; simp at *; omega
      clear hlen
      obtain ⟨Z, hZ⟩ : ∃ Z, Z = 1 + (items.map (MD.size n)).sum := ⟨_, rfl⟩
      rw [← hZ]
      have HZ : Hid (Z = 1 + (items.map (MD.size n)).sum ∧ items.length ≤ (items.map (MD.size n)).sum) := ⟨hZ, len_le_sum n items⟩
      clear hZ
      by_cases h100 : 100 < items.length
      · have h100' : (100 : Int) < items.length := by omega
        go_enter Tryd.func32, Tryd.ntmps32
        go_wp2_with fail
        go_ret
        exact ⟨101, rfl, by omega, by omega, by have := HZ.out; omega, below1 _ _⟩
      · have h100' : ¬ (100 : Int) < items.length := by omega
        have HT : Hid (MD.ItemsIn w.heap.size w n ⟨⟨8, t, a, f, s, r0, r1, r2, r3, pp, path, pc⟩, ip, ic, items⟩) := hits
        clear hits
        go_enter Tryd.func32, Tryd.ntmps32
        go_wp2_with fail
        go_loopw [3, 4] (fun x i wr => SizeRel n items w #[.int .i64 8, .string t, .int .i64 a, .int .u64 f, .string s, .int .i64 r0, .int .i64 r1, .int .i64 r2, .int .i64 r3, .slice pp path.length pc, .slice ip items.length ic] x i wr) (fun _ i _ => items.length - (intOf i).toNat)
        case atStart => exact ⟨0, 1, Nat.zero_le _, rfl, rfl, by omega, by omega, fun _ => by simp, fun h => by omega, Below.refl _ _⟩
        case round =>
          obtain ⟨k, m, hk, rfl, rfl, hm0, hm1, hm2, hm3, hb⟩ := hrel
          have HM : Hid ((m ≤ 100 → m = 1 + ((items.take k).map (MD.size n)).sum) ∧ (100 < m → 100 < 1 + ((items.take k).map (MD.size n)).sum)) := ⟨hm2, hm3⟩
          clear hm2 hm3
          have hcell : wr.cell? ⟨w.heap.size, 10, none⟩ = some (.slice ip items.length ic) := (hb.cell (p := ⟨w.heap.size, 10, none⟩) (Nat.lt_succ_self _)).trans (row_at (heap_alloc_new _ _) 10)
          have HB : Hid (Below (w.heap.size + 1) (w.alloc (.cells #[.int .i64 8, .string t, .int .i64 a, .int .u64 f, .string s, .int .i64 r0, .int .i64 r1, .int .i64 r2, .int .i64 r3, .slice pp path.length pc, .slice ip items.length ic] 28)) wr) := hb
          have HB0 : Hid (Below w.heap.size w wr) := (below1 _ _).trans (hb.mono (by omega))
          have hz := hb.size
          simp only [World.size_alloc] at hz
          clear hb
          have HL : Hid (((items.take k).map (MD.size n)).sum ≤ (items.map (MD.size n)).sum) := sum_take_le _ _ _
          by_cases hgo : k < items.length ∧ m ≤ 100
          · obtain ⟨hlt, hm100⟩ := hgo
            have i1 : (k : Int) < items.length := by omega
            obtain ⟨bb, o, rfl, hbB, hC, hIn⟩ : ∃ bb o, ip = some ⟨bb, o, none⟩ ∧ bb < w.heap.size ∧ MD.CellsAt wr bb (o + k * 11) items[k] ∧ MD.In w.heap.size wr n items[k] := by
              rcases MD.ItemsIn.below HT.out HB0.out with e | ⟨bb, o, e1, e2, e3⟩
              · have e' : items = [] := e
                rw [e'] at hlt; simp at hlt
              · exact ⟨bb, o, e1, e2, e3 k hlt⟩
            have HS : Hid (((items.take (k + 1)).map (MD.size n)).sum = ((items.take k).map (MD.size n)).sum + MD.size n items[k]) := sum_take_succ _ _ _ hlt
            generalize items[k] = kid at hC hIn HS
            obtain ⟨⟨k0, k1, k2, k3, k4, k5, k6, k7, k8, kp, kpath, kpc⟩, kip, kic, kit⟩ := kid
            have c0 : wr.cell? ⟨bb, o + k * 11, none⟩ = some (.int .i64 k0) := hC 0 (by omega)
            have c1 : wr.cell? ⟨bb, o + k * 11 + 1, none⟩ = some (.string k1) := hC 1 (by omega)
            have c2 : wr.cell? ⟨bb, o + k * 11 + 2, none⟩ = some (.int .i64 k2) := hC 2 (by omega)
            have c3 : wr.cell? ⟨bb, o + k * 11 + 3, none⟩ = some (.int .u64 k3) := hC 3 (by omega)
            have c4 : wr.cell? ⟨bb, o + k * 11 + 4, none⟩ = some (.string k4) := hC 4 (by omega)
            have c5 : wr.cell? ⟨bb, o + k * 11 + 5, none⟩ = some (.int .i64 k5) := hC 5 (by omega)
            have c6 : wr.cell? ⟨bb, o + k * 11 + 6, none⟩ = some (.int .i64 k6) := hC 6 (by omega)
            have c7 : wr.cell? ⟨bb, o + k * 11 + 7, none⟩ = some (.int .i64 k7) := hC 7 (by omega)
            have c8 : wr.cell? ⟨bb, o + k * 11 + 8, none⟩ = some (.int .i64 k8) := hC 8 (by omega)
            have c9 : wr.cell? ⟨bb, o + k * 11 + 9, none⟩ = some (.slice kp kpath.length kpc) := hC 9 (by omega)
            have c10 : wr.cell? ⟨bb, o + k * 11 + 10, none⟩ = some (.slice kip kit.length kic) := hC 10 (by omega)
            have HC : Hid (Calls Tryd.prog 32 #[.agg #[.int .i64 k0, .string k1, .int .i64 k2, .int .u64 k3, .string k4, .int .i64 k5, .int .i64 k6, .int .i64 k7, .int .i64 k8, .slice kp kpath.length kpc, .slice kip kit.length kic]] wr (SizeP (MD.size n ⟨⟨k0, k1, k2, k3, k4, k5, k6, k7, k8, kp, kpath, kpc⟩, kip, kic, kit⟩) wr)) :=
              HI.out ⟨⟨k0, k1, k2, k3, k4, k5, k6, k7, k8, kp, kpath, kpc⟩, kip, kic, kit⟩ wr (MD.In.mono (by omega) n _ hIn)
            clear hC hIn HI
            generalize MD.size n ⟨⟨k0, k1, k2, k3, k4, k5, k6, k7, k8, kp, kpath, kpc⟩, kip, kic, kit⟩ = zk at HC HS
            go_wp2_with (go_at_call 32; refine HC.out.mono ?_; rintro r w2 ⟨x, rfl, hx0, hx1, hx2, b2⟩; have HX : Hid (x = min (zk : Int) 101 ∧ Below wr.heap.size wr w2) := ⟨hx2, b2⟩; clear hx2 b2)
            obtain ⟨g1, g2⟩ := HX.out
            have g3 := HS.out
            have g4 := HM.out.1 hm100
            refine ⟨⟨k + 1, m + x, hlt, by go_num, rfl, by omega, by omega, fun h => by omega, fun h => by omega, HB.out.trans (g2.mono (by omega))⟩, by simp [intOf]; omega⟩
          · by_cases hlt : k < items.length
            · have hm100 : ¬ m ≤ 100 := fun h => hgo ⟨hlt, h⟩
              have i1 : (k : Int) < items.length := by omega
              have hm101 : (100 : Int) < m := by omega
              clear hgo
              go_wp2_with fail
              go_ret
              exact ⟨101, rfl, by omega, by omega, by have := HZ.out; have := HL.out; have := HM.out.2 hm101; omega, HB0.out⟩
            · have i1 : ¬ (k : Int) < items.length := by omega
              have hk2 : k = items.length := by omega
              have HM2 : Hid ((m ≤ 100 → m = 1 + (items.map (MD.size n)).sum) ∧ (100 < m → 100 < 1 + (items.map (MD.size n)).sum)) := by
                have h := HM.out
                rw [hk2, List.take_of_length_le (Nat.le_refl _)] at h
                exact h
              clear hgo hk2
              by_cases hm100 : (100 : Int) < m
              · go_wp2_with fail
                go_ret
                exact ⟨101, rfl, by omega, by omega, by have := HZ.out; have := HM2.out.2 hm100; omega, HB0.out⟩
              · go_wp2_with fail
                go_ret
                exact ⟨m, rfl, by omega, by omega, by have := HZ.out; have := HM2.out.1 (by omega); omega, HB0.out⟩
    · rw [if_neg hk]
      go_enter Tryd.func32, Tryd.ntmps32
      go_wp2_with fail
      go_ret
      exact ⟨1, rfl, by omega, by omega, by omega, below1 _ _⟩
end Go.Proofs.YtnhbpcmiolkllaaDoor
