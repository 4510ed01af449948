/-
  The walks of the law's own pick and same; rows of two kinds lie apart.
-/
import Derived.Test.YtnflgijbngcjbabDoorP
import Derived.Test.YtnflgijbngcjbabDoorBo
import Derived.OneCell
namespace Go.Proofs.YtnflgijbngcjbabDoor
open Go.RowKit

theorem tokCells_at (ts : List Tok) (j : Nat) (h : j < ts.length) (i : Nat) (hi : i < 3) : (tokCells ts)[j * 3 + i]? = (tokCell ts[j])[i]? := by
  induction ts generalizing j with
  | nil => simp at h
  | cons t ts ih =>
    have e : tokCells (t :: ts) = tokCell t ++ tokCells ts := by simp [tokCells]
    rw [e]
    cases j with
    | zero =>
      rw [List.getElem?_append_left (by simp [tokCell]; omega)]
      simp
    | succ j =>
      rw [List.getElem?_append_right (by simp [tokCell]; omega)]
      have : (j + 1) * 3 + i - (tokCell t).length = j * 3 + i := by simp [tokCell]; omega
      rw [this]
      simpa using ih j (by simpa using h)

theorem ownsRow_form {w : World} {base : Nat} {e : TypeId} {size : Nat} {v : Value} {n : Nat} {xs : List Value} (h : w.ownsRow base e size v n xs) : ∃ p cap, v = .slice p n cap := by
  rcases h.2 with ⟨h', h0⟩ | ⟨g, cap, cur, hv, _⟩
  · exact ⟨none, 0, by rw [h', h0]⟩
  · exact ⟨_, _, hv⟩
theorem ownsRow_some {w : World} {base : Nat} {e : TypeId} {size : Nat} {p : Option Addr} {n cap : Nat} {xs : List Value} (h : w.ownsRow base e size (.slice p n cap) n xs) (hn : 0 < n) : ∃ g, p = some ⟨g, 0, none⟩ ∧ base ≤ g ∧ g < w.heap.size ∧ n ≤ cap ∧ cap ≤ maxLen := by
  rcases h.2 with ⟨h', h0⟩ | ⟨g, cap', cur, hv, hg, hh, hnc, hcm, _⟩
  · omega
  · cases hv; exact ⟨g, rfl, hg, (Array.getElem?_eq_some_iff.1 hh).1, hnc, hcm⟩
theorem ownsRow_under {w w' : World} {base B : Nat} {e : TypeId} {size : Nat} {v : Value} {n : Nat} {xs : List Value} (h : w.ownsRow base e size v n xs) (hg : ∀ g, v.ownBlock = some g → g < B) (hb : Below B w w') : w'.ownsRow base e size v n xs := by
  obtain ⟨h1, h2⟩ := h
  refine ⟨h1, ?_⟩
  rcases h2 with h2 | ⟨g', cap', cur, hv, hg', hh, r⟩
  · exact .inl h2
  · subst hv
    exact .inr ⟨g', cap', cur, rfl, hg', by rw [hb.block g' (hg g' rfl)]; exact hh, r⟩

set_option maxHeartbeats 1000000 in
theorem same_eq {B1 B2 : Nat} (va vb : Value) (ts : List Tok) (w : World) (ha : w.ownsRow B1 31 3 va ts.length (tokCells ts)) (hb : w.ownsRow B2 31 3 vb ts.length (tokCells ts)) (hn : ts.length ≤ 70000) :
    Calls Tryd.prog 7 #[va, vb] w fun e w' => e = .returned (.bool true) ∧ ∃ nd, w' = w.drewN nd := by
  obtain ⟨p, capa, rfl⟩ := ownsRow_form ha
  obtain ⟨q, capb, rfl⟩ := ownsRow_form hb
  have HA : Hid (w.ownsRow B1 31 3 (.slice p ts.length capa) ts.length (tokCells ts)) := ha
  have HB : Hid (w.ownsRow B2 31 3 (.slice q ts.length capb) ts.length (tokCells ts)) := hb
  clear ha hb
  obtain ⟨n, hnn⟩ : ∃ n, n = ts.length := ⟨_, rfl⟩
  have HN : Hid (n = ts.length) := hnn
  rw [← hnn] at HA HB hn ⊢
  clear hnn
  go_enter Tryd.func7, Tryd.ntmps7
  go_wp2
  go_loopw [5] (fun i wr => ∃ k : Nat, k ≤ n ∧ i = .int .i64 k ∧ ∃ nd, wr = w.drewN nd) (fun i _ => n - (intOf i).toNat)
  case atStart => exact ⟨0, by omega, rfl, 0, rfl⟩
  case round =>
    obtain ⟨k, hk, rfl, nd, rfl⟩ := hrel
    by_cases hlt : k < n
    · obtain ⟨ga, rfl, -, hga, hca, -⟩ := ownsRow_some HA.out (by omega)
      obtain ⟨gb, rfl, -, hgb, hcb, -⟩ := ownsRow_some HB.out (by omega)
      have hkl : k < ts.length := by have := HN.out; omega
      obtain ⟨t, htk⟩ : ∃ t, t = ts[k] := ⟨_, rfl⟩
      have a0 := (HA.out.cellAt (k * 3) (by omega)).trans (tokCells_at ts k hkl 0 (by omega))
      have a1 := (HA.out.cellAt (k * 3 + 1) (by omega)).trans (tokCells_at ts k hkl 1 (by omega))
      have a2 := (HA.out.cellAt (k * 3 + 2) (by omega)).trans (tokCells_at ts k hkl 2 (by omega))
      have b0 := (HB.out.cellAt (k * 3) (by omega)).trans (tokCells_at ts k hkl 0 (by omega))
      have b1 := (HB.out.cellAt (k * 3 + 1) (by omega)).trans (tokCells_at ts k hkl 1 (by omega))
      have b2 := (HB.out.cellAt (k * 3 + 2) (by omega)).trans (tokCells_at ts k hkl 2 (by omega))
      rw [← htk] at a0 a1 a2 b0 b1 b2
      obtain ⟨kd, tx, at'⟩ := t
      simp only [tokCell, List.getElem?_cons_zero, List.getElem?_cons_succ] at a0 a1 a2 b0 b1 b2
      have i1 : (k : Int) < n := by omega
      clear htk
      go_wp2_with fail
      go_quiet (fail)
      go_wp2
      go_roundw
      case rel => exact ⟨k + 1, by omega, by go_num, nd + nq, by first | rfl | simp [World.drewN_drewN]⟩
      case measure => simp [intOf]; omega
    · go_wp2
      go_ret
      exact ⟨rfl, nd, rfl⟩

/-- Two rows whose things are of two kinds lie apart. -/
theorem rows_apart {w : World} {b1 b2 : Nat} {e1 e2 : TypeId} {s1 s2 : Nat} {v1 v2 : Value} {n1 n2 : Nat} {xs1 xs2 : List Value} (h1 : w.ownsRow b1 e1 s1 v1 n1 xs1) (h2 : w.ownsRow b2 e2 s2 v2 n2 xs2) (hne : e1 ≠ e2) : v1.ownBlock = none ∨ v1.ownBlock ≠ v2.ownBlock := by
  rcases h1.2 with ⟨rfl, -⟩ | ⟨g1, c1, cur1, rfl, -, hh1, -⟩
  · exact .inl rfl
  · right
    intro he
    rcases h2.2 with ⟨rfl, -⟩ | ⟨g2, c2, cur2, rfl, -, hh2, -⟩
    · cases he
    · have : g1 = g2 := Option.some.inj he
      subst this
      rw [hh1] at hh2
      have := Option.some.inj hh2
      injection this with _ h4
      exact hne h4

theorem grown_cells {w w' : World} {row : Option Nat} (hg : w.grownBy w' row) {T : Nat} (hT : T < w.heap.size) (hne : some T ≠ row) : (∀ o, w'.cell? ⟨T, o, none⟩ = w.cell? ⟨T, o, none⟩) ∧ (∀ o, w'.frozen? ⟨T, o, none⟩ = w.frozen? ⟨T, o, none⟩) := by
  have h := hg.block T hT hne
  exact ⟨fun o => by simp only [World.cell?, h], fun o => by simp only [World.frozen?, h]⟩

def pickZ (c : Int) : Int := (if c < 0 then -(c + 1) else c) % 6
theorem pickZ_lt (c : Int) : 0 ≤ pickZ c ∧ pickZ c < 6 := by unfold pickZ; omega

set_option maxHeartbeats 400000 in
theorem pick_any (c : Int) (w : World) (h0 : -9223372036854775808 ≤ c) (h1 : c ≤ 9223372036854775807) :
    Calls Tryd.prog 6 #[.int .i64 c, .int .i64 6] w fun e w' => ∃ r : Nat, r < 6 ∧ e = .returned (.int .i64 r) ∧ Hid (pickZ c = (r : Int)) ∧ w' = w := by
  have hp := pickZ_lt c
  have HP : Hid (pickZ c = (pickZ c).toNat) := by show _ = _; omega
  by_cases hc : c < 0
  · have HZ : Hid (pickZ c = (-(c + 1)) % 6) := by show _ = _; unfold pickZ; rw [if_pos hc]
    clear hp
    go_enter Tryd.func6, Tryd.ntmps6
    go_wp2
    go_ret
    refine ⟨(pickZ c).toNat, by have := pickZ_lt c; omega, ?_, HP, rfl⟩
    congr 2
    rw [← HP.out, HZ.out]
    show Value.int .i64 (-((c + 1).tmod 6)) = _
    rw [← Int.neg_tmod, Int.tmod_eq_emod_of_nonneg (by omega)]
  · have HZ : Hid (pickZ c = c % 6) := by show _ = _; unfold pickZ; rw [if_neg hc]
    clear hp
    go_enter Tryd.func6, Tryd.ntmps6
    go_wp2
    go_ret
    refine ⟨(pickZ c).toNat, by have := pickZ_lt c; omega, ?_, HP, rfl⟩
    congr 2
    rw [← HP.out, HZ.out]
    first | rfl | (simp; omega) | omega
end Go.Proofs.YtnflgijbngcjbabDoor
