/-
  The walk of the law LexBack: it answers true at every two texts of together at most 1048576 bytes, in every memory that holds the two tables.
-/
import Derived.Test.YtnpiicceafgioaaDoorBk
import Derived.Test.YtnpiicceafgioaaDoorT
import Derived.Test.YtnpiicceafgioaaDoorX
namespace Go.Proofs.YtnpiicceafgioaaDoor
open Go.RowKit

/-- The literal, as a text. -/
def quoteS (s : ByteArray) : ByteArray := ⟨(quoteL s.data.toList).toArray⟩
theorem quoteS_list (s : ByteArray) : (quoteS s).data.toList = quoteL s.data.toList := rfl
theorem quoteS_size (s : ByteArray) : (quoteS s).size ≤ 4 * s.size + 2 := by
  have h1 : (quoteS s).size = (quoteL s.data.toList).length := by simp [quoteS, ByteArray.size]
  have h2 := flat_len s.data.toList
  rw [h1, quoteL_len]
  have h3 : s.data.toList.length = s.size := by simp
  omega

theorem quote_is (s : ByteArray) (w : World) (hlim : s.size ≤ 17592186044000) :
    Calls Tryd.prog 18 #[.string s] w fun e w' => e = .returned (.string (quoteS s)) ∧ Below w.heap.size w w' := quote_any s w hlim

theorem back1 (s : ByteArray) (w : World) (hs : s.size ≤ 65536) :
    Calls Tryd.prog 17 #[.string (quoteS s)] w fun e w' => e = .returned (.tuple #[.string s, .nilIface]) ∧ Below w.heap.size w w' := by
  have hq := quoteS_size s
  refine (unquote_any (quoteS s) w (by omega)).mono fun e w' h => ?_
  rw [quoteS_list, unq_back _ (by simpa using hs)] at h
  cases h with
  | ok _ he hb => exact ⟨he, hb⟩

theorem back2 (s t : ByteArray) (w : World) (hlim : (quoteS s ++ t).size ≤ 70368744177664) (ht : t.size ≠ 0) :
    Calls Tryd.prog 17 #[.string (quoteS s ++ t)] w fun e w' => ∃ b, e = .returned (.tuple #[.string ⟨#[]⟩, .iface 59 (.pointer (some ⟨b, 0, none⟩))]) ∧ WrongAt w' b 11 ((quoteS s).size : Nat) ∧ Below w.heap.size w w' := by
  refine (unquote_any (quoteS s ++ t) w hlim).mono fun e w' h => ?_
  have e1 : (quoteS s ++ t).data.toList = quoteL s.data.toList ++ t.data.toList := by
    rw [← quoteS_list]; simp
  have hne : t.data.toList ≠ [] := fun h2 => ht (by rw [Lib.size_eq, h2]; rfl)
  rw [e1, unq_behind _ _ hne] at h
  have hsz : (quoteS s).size = (quoteL s.data.toList).length := by simp [quoteS, ByteArray.size]
  cases h with
  | error _ _ b he hlo hw hb => exact ⟨b, he, by rw [hsz]; exact hw, hb⟩

theorem back3 {gw ow gs os : Nat} (s : ByteArray) (w : World) (ht : TabsAt gw ow gs os w) (h6 : (quoteS s).size ≤ 60000) :
    Calls Tryd.prog 11 #[.string (quoteS s)] w fun e w' => ∃ g cap, e = .returned (.tuple #[.slice (some ⟨g, 0, none⟩) 2 cap, .nilIface]) ∧ Hid (w'.ownsRow w.heap.size 48 3 (.slice (some ⟨g, 0, none⟩) 2 cap) 2 [.int .i64 6, .string s, .int .i64 0, .int .i64 1, .string ⟨#[]⟩, .int .i64 ((quoteS s).size : Nat)]) ∧ Below w.heap.size w w' := by
  have hsz : (quoteS s).size = (quoteL s.data.toList).length := by simp [quoteS, ByteArray.size]
  refine (scan_any (quoteS s) w ht).mono fun e w' h => ?_
  rw [quoteS_list, scan_back _ (by omega)] at h
  cases h with
  | ok _ v he ho hn hb =>
    rcases ho.2 with ⟨_, h0⟩ | ⟨g, cap, cur, hv, hg, _⟩
    · simp at h0
    subst hv
    refine ⟨g, cap, he, ?_, hb⟩
    rw [hsz]
    exact ho

set_option maxRecDepth 100000 in
set_option maxHeartbeats 2000000 in
theorem lexBack_any {gw ow gs os : Nat} (s t : ByteArray) (w : World) (ht : TabsAt gw ow gs os w) (hlim : s.size + t.size ≤ 1048576) :
    Calls Tryd.prog 6 #[.string s, .string t] w fun e w' => e = .returned (.bool true) ∧ Below w.heap.size w w' := by
  by_cases hbig : 65536 < s.size
  · go_enter Tryd.func6, Tryd.ntmps6
    go_wp2_with (go_at_call 9; refine (known_any _ ht).mono ?_; rintro r w1 ⟨rfl, hb1⟩)
    go_ret
    exact ⟨rfl, hb1⟩
  obtain ⟨Q, hQ⟩ : ∃ Q, Q = quoteS s := ⟨_, rfl⟩
  have HQ : Hid (Q = quoteS s) := hQ
  have hq1 : Q.size ≤ 4 * s.size + 2 := by rw [hQ]; exact quoteS_size s
  have HOK : Hid (∀ k, (h : k < Q.size) → 32 ≤ (Q[k]'h).toNat ∧ (Q[k]'h).toNat ≤ 126) := fun k h => by
    refine quoteL_ok s.data.toList _ ?_
    rw [← quoteS_list, ← hQ]
    exact List.getElem_mem (by simpa using h)
  clear hQ
  go_enter Tryd.func6, Tryd.ntmps6
  go_wp2_with fail
  refine (known_any _ ht).mono ?_
  rintro r w1 ⟨rfl, hb1⟩
  have ht1 := ht.below (Nat.le_refl _) hb1
  have hz1 := hb1.size
  go_wp2_with fail
  refine (quote_is s _ (by omega)).mono ?_
  rw [← HQ.out]
  rintro r w2 ⟨rfl, hb2⟩
  have ht2 := ht1.below (Nat.le_refl _) hb2
  have hz2 := hb2.size
  have HX2 : Hid (Below w.heap.size w w2) := hb1.trans (hb2.mono (by omega))
  clear hb1 hb2 ht1
  have hbk := back1 s w2 (by omega)
  rw [← HQ.out] at hbk
  go_wp2_with fail
  refine hbk.mono ?_
  clear hbk
  rintro r w3 ⟨rfl, hb3⟩
  have ht3 := ht2.below (Nat.le_refl _) hb3
  have hz3 := hb3.size
  have HX3 : Hid (Below w.heap.size w w3) := HX2.out.trans (hb3.mono (by omega))
  clear hb3 ht2 HX2
  by_cases ht0 : t.size = 0
  · obtain rfl := empty_toList t ht0
    have hap : Q ++ (⟨#[]⟩ : ByteArray) = Q := by
      apply ByteArray.ext
      simp
    have hbk := back1 s w3 (by omega)
    rw [← HQ.out] at hbk
    go_wp2_with fail
    refine hbk.mono ?_
    clear hbk hap
    rintro r w4 ⟨rfl, hb4⟩
    have ht4 := ht3.below (Nat.le_refl _) hb4
    have hz4 := hb4.size
    have HX4 : Hid (Below w.heap.size w w4) := HX3.out.trans (hb4.mono (by omega))
    clear hb4 ht3 HX3
    go_wp2_with fail
    refine (code_nil _).mono ?_
    rintro r w5 ⟨rfl, hw5⟩
    have hw5' := hw5.symm
    subst hw5'
    clear hw5
    obtain ⟨w5, hw5⟩ : ∃ w5, w5 = w4 := ⟨_, rfl⟩
    subst hw5
    have ht5 := ht4
    have HX5 := HX4
    have hz5 := hz4
    go_wp2_with fail
    go_loop [13] (fun i => ∃ k : Nat, k ≤ Q.size ∧ i = .int .i64 k) (fun i => Q.size - (intOf i).toNat)
    case atStart => exact ⟨0, Nat.zero_le _, rfl⟩
    case round =>
      obtain ⟨k, hk, rfl⟩ := hrel
      by_cases hlt : k < Q.size
      · obtain ⟨o1, o2⟩ := HOK.out k hlt
        go_wp2
        go_round
        case rel => exact ⟨k + 1, by omega, by go_num⟩
        case measure => simp [intOf]; omega
      · by_cases h6 : 60000 < Q.size
        · go_wp2
          go_ret
          exact ⟨rfl, HX5.out⟩
        · have hbk := back3 s w5 ht5 (by rw [← HQ.out]; omega)
          rw [← HQ.out] at hbk
          go_wp2_with fail
          refine hbk.mono ?_
          clear hbk
          rintro r w6 ⟨g, cap, rfl, HO6, hb6⟩
          have ho := HO6.out
          have c0 : w6.cell? ⟨g, 0, none⟩ = some (.int .i64 6) := ho.cellAt 0 (by decide)
          have c1 : w6.cell? ⟨g, 1, none⟩ = some (.string s) := ho.cellAt 1 (by decide)
          have c2 : w6.cell? ⟨g, 2, none⟩ = some (.int .i64 0) := ho.cellAt 2 (by decide)
          have c3 : w6.cell? ⟨g, 3, none⟩ = some (.int .i64 1) := ho.cellAt 3 (by decide)
          have c4 : w6.cell? ⟨g, 4, none⟩ = some (.string ⟨#[]⟩) := ho.cellAt 4 (by decide)
          have c5 : w6.cell? ⟨g, 5, none⟩ = some (.int .i64 (Q.size : Nat)) := ho.cellAt 5 (by decide)
          clear ho HO6
          go_wp2
          go_ret
          exact ⟨by first | rfl | simp, HX5.out.trans (hb6.mono (by omega))⟩
  · have htne : t.toList.isEmpty = false := by rw [ByteArray.toList_eq]; cases h : t.data.toList with | nil => exact absurd (by rw [Lib.size_eq, h]; rfl) ht0 | cons b r => rfl
    have hbk := back2 s t w3 (by rw [← HQ.out]; simp; omega) ht0
    rw [← HQ.out] at hbk
    go_wp2_with fail
    refine hbk.mono ?_
    clear hbk
    rintro r w4 ⟨b, rfl, hw4, hb4⟩
    have ht4 := ht3.below (Nat.le_refl _) hb4
    have hz4 := hb4.size
    have HX4 : Hid (Below w.heap.size w w4) := HX3.out.trans (hb4.mono (by omega))
    clear hb4 ht3 HX3
    go_wp2_with fail
    refine (code_wrong _ _ _ _ hw4).mono ?_
    rintro r w5 ⟨rfl, hb5⟩
    have ht5 := ht4.below (Nat.le_refl _) hb5
    have hz5 := hb5.size
    have HX5 : Hid (Below w.heap.size w w5) := HX4.out.trans (hb5.mono (by omega))
    clear hb5 ht4 HX4 hw4
    go_wp2_with fail
    go_loop [13] (fun i => ∃ k : Nat, k ≤ Q.size ∧ i = .int .i64 k) (fun i => Q.size - (intOf i).toNat)
    case atStart => exact ⟨0, Nat.zero_le _, rfl⟩
    case round =>
      obtain ⟨k, hk, rfl⟩ := hrel
      by_cases hlt : k < Q.size
      · obtain ⟨o1, o2⟩ := HOK.out k hlt
        go_wp2
        go_round
        case rel => exact ⟨k + 1, by omega, by go_num⟩
        case measure => simp [intOf]; omega
      · by_cases h6 : 60000 < Q.size
        · go_wp2
          go_ret
          exact ⟨rfl, HX5.out⟩
        · have hbk := back3 s w5 ht5 (by rw [← HQ.out]; omega)
          rw [← HQ.out] at hbk
          go_wp2_with fail
          refine hbk.mono ?_
          clear hbk
          rintro r w6 ⟨g, cap, rfl, HO6, hb6⟩
          have ho := HO6.out
          have c0 : w6.cell? ⟨g, 0, none⟩ = some (.int .i64 6) := ho.cellAt 0 (by decide)
          have c1 : w6.cell? ⟨g, 1, none⟩ = some (.string s) := ho.cellAt 1 (by decide)
          have c2 : w6.cell? ⟨g, 2, none⟩ = some (.int .i64 0) := ho.cellAt 2 (by decide)
          have c3 : w6.cell? ⟨g, 3, none⟩ = some (.int .i64 1) := ho.cellAt 3 (by decide)
          have c4 : w6.cell? ⟨g, 4, none⟩ = some (.string ⟨#[]⟩) := ho.cellAt 4 (by decide)
          have c5 : w6.cell? ⟨g, 5, none⟩ = some (.int .i64 (Q.size : Nat)) := ho.cellAt 5 (by decide)
          clear ho HO6
          go_wp2
          go_ret
          exact ⟨by first | rfl | simp, HX5.out.trans (hb6.mono (by omega))⟩
end Go.Proofs.YtnpiicceafgioaaDoor
