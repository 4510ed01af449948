/-
  The walks of guiseref2.counted and guiseref2.Count, at every tree.
-/
import Derived.Test.YthbnegggohegkaaGreatDoorProg
import Derived.Test.YthbnegggohegkaaGreatDoorTr
import Derived.WalkKit
import Derived.WalkSpells
import Derived.WalkLawsBesides
namespace Go.Proofs.YthbnegggohegkaaGreatDoor
open Go.RowKit

/-- The value of a node, written out. -/
abbrev nodeV (t : MT) : Value := .agg #[.int .i64 t.kind, .string t.text, .int .i64 t.num, .int .i64 t.at_, .slice t.ptr t.kids.length t.cap]
abbrev nodeO (t : MT) : Obj := .cells #[.int .i64 t.kind, .string t.text, .int .i64 t.num, .int .i64 t.at_, .slice t.ptr t.kids.length t.cap] 24

/-- A node in a box. -/
structure BoxAt (w : World) (b : Nat) (t : MT) : Prop where
  k0 : w.cell? ⟨b, 0, none⟩ = some (.int .i64 t.kind)
  k1 : w.cell? ⟨b, 1, none⟩ = some (.string t.text)
  k2 : w.cell? ⟨b, 2, none⟩ = some (.int .i64 t.num)
  k3 : w.cell? ⟨b, 3, none⟩ = some (.int .i64 t.at_)
  k4 : w.cell? ⟨b, 4, none⟩ = some (.slice t.ptr t.kids.length t.cap)

theorem BoxAt.new (w : World) (t : MT) : BoxAt (w.alloc (nodeO t)) w.heap.size t := ⟨by simp, by simp, by simp, by simp, by simp⟩
theorem BoxAt.below {w w' : World} {b B : Nat} {t : MT} (h : BoxAt w b t) (hB : b < B) (hb : Below B w w') : BoxAt w' b t :=
  ⟨(hb.cell (p := ⟨b, _, none⟩) hB).trans h.k0, (hb.cell (p := ⟨b, _, none⟩) hB).trans h.k1, (hb.cell (p := ⟨b, _, none⟩) hB).trans h.k2,
   (hb.cell (p := ⟨b, _, none⟩) hB).trans h.k3, (hb.cell (p := ⟨b, _, none⟩) hB).trans h.k4⟩

set_option maxHeartbeats 1000000 in
theorem counted_any (N : Nat) : ∀ (t : MT) (m : Int) (w : World), t.size ≤ N → 0 ≤ m → m ≤ 1000000 → t.In w.heap.size w →
    Calls Tryz.prog 30 #[nodeV t, .int .i64 m] w fun e w' => ∃ r : Int, e = .returned (.int .i64 r) ∧ 0 ≤ r ∧ r ≤ m + 1 ∧ Hid (r = min (t.size : Int) (m + 1)) ∧ Below w.heap.size w w' := by
  induction N with
  | zero => intro t m w h; have := t.size_pos; omega
  | succ N ih =>
    intro t m w hN hm0 hm hin
    have HI : Hid _ := ih
    clear ih
    have hcap := hin.cap_le
    have hlc := hin.len_le
    unfold maxLen at hcap
    go_enter Tryz.func30, Tryz.ntmps30
    go_wp2_with fail
    go_loopw [5, 6] (fun a i wr => ∃ (k : Nat) (r : Int), k ≤ t.kids.length ∧ i = .int .i64 k ∧ a = .int .i64 r ∧ 1 ≤ r ∧ r ≤ m + 1 ∧ Hid (r = min (1 + (MT.sizeL (t.kids.take k) : Int)) (m + 1)) ∧ Below (w.heap.size + 1) (w.alloc (nodeO t)) wr) (fun _ i _ => t.kids.length - (intOf i).toNat)
    case atStart => exact ⟨0, 1, Nat.zero_le _, rfl, rfl, Int.le_refl _, by omega, by show _ = _; simp [MT.sizeL]; omega, Below.refl _ _⟩
    case round =>
      obtain ⟨k, r, hk, rfl, rfl, hr1, hr2, hr, hb⟩ := hrel
      have HB : Hid (Below w.heap.size w wr) := ((Below.refl _ _).alloc (Nat.le_refl _) _).trans (hb.mono (by omega))
      have hin' := MT.In.below HB.out t hin
      have hz := hb.size
      simp only [World.size_alloc] at hz
      have k4 := ((BoxAt.new w t).below (Nat.lt_succ_self _) hb).k4
      have HBB : Hid (Below (w.heap.size + 1) (w.alloc (nodeO t)) wr) := hb
      clear hb
      have HT : Hid (t.size = 1 + MT.sizeL t.kids) := t.size_eq
      by_cases hlt : k < t.kids.length
      · obtain ⟨b, o, hp, hbB, hL⟩ : ∃ b o, t.ptr = some ⟨b, o, none⟩ ∧ b < w.heap.size ∧ MT.InL w.heap.size wr b o t.kids := by
          rcases hin'.kidsL with h | h
          · rw [h] at hlt; simp at hlt
          · exact h
        obtain ⟨hC, hI⟩ := hL.get k hlt
        have HS : Hid (MT.sizeL (t.kids.take (k + 1)) = MT.sizeL (t.kids.take k) + (t.kids[k]).size) := MT.sizeL_take_succ t.kids k hlt
        have HL : Hid (MT.sizeL (t.kids.take (k + 1)) ≤ MT.sizeL t.kids) := MT.sizeL_take_le _ _
        generalize t.kids[k] = kid at hC hI HS
        obtain ⟨c0, c1, c2, c3, c4⟩ := hC
        clear hL hin' hin
        by_cases hrm : r ≤ m
        · go_wp2_with (go_at_call 30; refine (HI.out kid (m - r) _ (by have := HS.out; have := HT.out; have := HL.out; omega) (by omega) (by omega) (MT.In.mono (by omega) kid hI)).mono ?_; rintro e w2 ⟨q, rfl, hq0, hq1, hq, hb2⟩)
          refine ⟨⟨k + 1, r + q, hlt, by go_num, rfl, by omega, by omega, ?_, HBB.out.trans (hb2.mono hz)⟩, by simp [intOf]; omega⟩
          show _ = _
          have := HS.out; have := hq.out; have := hr.out
          omega
        · have HX : Hid (min (t.size : Int) (m + 1) = m + 1 ∧ r = m + 1) := ⟨by have := HT.out; have := hr.out; have := HL.out; have := HS.out; omega, by omega⟩
          go_wp2_with fail
          go_ret
          exact ⟨r, rfl, by omega, by omega, by show _ = _; rw [HX.out.1]; exact HX.out.2, HB.out⟩
      · have hke : k = t.kids.length := by omega
        have HX : Hid (min (t.size : Int) (m + 1) = r) := by
          show _ = _
          have h1 := hr.out
          rw [List.take_of_length_le (by omega)] at h1
          have := HT.out
          omega
        clear hke
        go_wp2_with fail
        go_ret
        exact ⟨r, rfl, by omega, by omega, HX.out.symm, HB.out⟩

set_option maxHeartbeats 400000 in
theorem refCount_any (t : MT) (w : World) (hin : t.In w.heap.size w) :
    Calls Tryz.prog 11 #[nodeV t] w fun e w' => ∃ r : Int, e = .returned (.int .i64 r) ∧ 0 ≤ r ∧ r ≤ 1000001 ∧ Hid (r = min (t.size : Int) 1000001) ∧ Below w.heap.size w w' := by
  go_enter Tryz.func11, Tryz.ntmps11
  go_wp2_with fail
  refine (counted_any t.size t 1000000 _ (Nat.le_refl _) (by omega) (by omega) (MT.In.mono (by simp) t (MT.In.below ((Below.refl _ _).alloc (Nat.le_refl _) _) t hin))).mono ?_
  rintro e w2 ⟨q, rfl, hq0, hq1, hq, hb2⟩
  go_wp2_with fail
  go_ret
  exact ⟨q, rfl, hq0, by omega, hq, ((Below.refl _ _).alloc (Nat.le_refl _) _).trans (hb2.mono (by simp))⟩
end Go.Proofs.YthbnegggohegkaaGreatDoor
