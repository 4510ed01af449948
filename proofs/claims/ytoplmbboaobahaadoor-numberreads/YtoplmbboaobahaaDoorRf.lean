/-
  What stands in a literal of a float: the two ways of reading it agree.
-/
import Derived.Test.YtoplmbboaobahaaDoorRe
namespace Go.Proofs.YtoplmbboaobahaaDoor
open Go.RowKit

theorem dig_bind : ∀ (a b : List UInt8) (n : Nat), dig (a ++ b) n = (dig a n).bind (dig b)
  | [], b, n => rfl
  | c :: cs, b, n => by
    rw [List.cons_append, dig, dig]
    split
    · exact dig_bind cs b _
    · rfl

theorem late : ∀ (b : List UInt8) (k : Nat) (p : Int) (n j m : Nat), 0 ≤ p → m ≤ 15 →
    rfl' b k p n j m = if m + b.length ≤ 15 then (dig b n).map (fun r => (p, r, j + b.length)) else none
  | [], k, p, n, j, m, hp, hm => by
    rw [rfl', if_pos (by simpa using hm)]; rfl
  | c :: cs, k, p, n, j, m, hp, hm => by
    rw [rfl', if_neg (fun h => by omega), dig, List.length_cons]
    split
    · rename_i hc
      split
      · rename_i h15
        rw [late cs _ p _ _ _ hp (by omega), show m + 1 + cs.length = m + (cs.length + 1) by omega, show j + 1 + cs.length = j + (cs.length + 1) by omega]
      · rw [if_neg (by omega)]
    · split <;> rfl

theorem early : ∀ (a b : List UInt8) (k n m : Nat), (∀ c ∈ a, c.toNat ≠ 46) → m ≤ 15 →
    rfl' (a ++ 46 :: b) k (-1) n 0 m = if m + a.length ≤ 15 then (dig a n).bind (fun r => rfl' b (k + a.length + 1) ((k + a.length : Nat) : Int) r 0 (m + a.length)) else none
  | [], b, k, n, m, ha, hm => by
    rw [List.nil_append, rfl', if_pos ⟨by decide, by decide⟩, if_pos (by simpa using hm)]; rfl
  | c :: cs, b, k, n, m, ha, hm => by
    rw [List.cons_append, rfl', if_neg (fun h => ha c (List.mem_cons_self ..) h.1), dig, List.length_cons]
    split
    · rename_i hc
      split
      · rename_i h15
        rw [if_neg (by decide), early cs b _ _ _ (fun x hx => ha x (List.mem_cons_of_mem _ hx)) (by omega), show m + 1 + cs.length = m + (cs.length + 1) by omega, show k + 1 + cs.length = k + (cs.length + 1) by omega]
      · rw [if_neg (by omega)]
    · split <;> rfl

theorem never : ∀ (l L : List UInt8) (k n m : Nat), (∀ c ∈ l, c.toNat ≠ 46) → fEnd L (rfl' l k (-1) n 0 m) = none
  | [], L, k, n, m, ha => by
    rw [rfl', fEnd, if_pos (.inl (by decide))]
  | c :: cs, L, k, n, m, ha => by
    rw [rfl', if_neg (fun h => ha c (List.mem_cons_self ..) h.1)]
    split
    · split
      · rw [if_neg (by decide)]; exact never cs L _ _ _ (fun x hx => ha x (List.mem_cons_of_mem _ hx))
      · rfl
    · rfl

theorem both (a b : List UInt8) (ha : ∀ c ∈ a, c.toNat ≠ 46) :
    rfl' (a ++ 46 :: b) 0 (-1) 0 0 0 = if a.length + b.length ≤ 15 then (dig (a ++ b) 0).map (fun r => ((a.length : Int), r, b.length)) else none := by
  rw [early a b 0 0 0 ha (by decide), dig_bind]
  simp only [Nat.zero_add]
  by_cases h1 : a.length ≤ 15
  · rw [if_pos h1]
    cases hd : dig a 0 with
    | none => simp
    | some r =>
      simp only [Option.bind_some]
      rw [late b _ _ _ _ _ (by omega) h1, Nat.zero_add]
  · rw [if_neg h1, if_neg (by omega)]

theorem fEnd_cut (a b : List UInt8) (q j : Nat) : fEnd (a ++ 46 :: b) (some ((a.length : Int), q, j)) = if plainB a = true ∧ b ≠ [] then some (q, j) else none := by
  unfold fEnd
  dsimp only
  have hlen : ((a ++ 46 :: b).length : Int) - 1 = a.length + b.length := by simp; omega
  rw [hlen]
  have hb : b = [] ↔ b.length = 0 := by simp
  match a with
  | [] => rw [if_pos (.inl (by decide)), if_neg (fun h => by cases h.1)]
  | [c] =>
    by_cases h : b = []
    · rw [if_pos (.inr (.inl (by rw [h]; rfl))), if_neg (fun h2 => h2.2 h)]
    · rw [if_neg (fun h2 => by rcases h2 with h2 | h2 | h2; simp at h2; exact h (hb.2 (by simp at h2; omega)); simp at h2), if_pos ⟨rfl, h⟩]
  | c :: d :: r =>
    have hh : (c :: d :: r ++ 46 :: b).head? = some c := rfl
    have hp : plainB (c :: d :: r) = (c != 48) := rfl
    rw [hh, hp]
    by_cases hc : c = 48
    · rw [if_pos (.inr (.inr ⟨by simp; omega, by rw [hc]⟩)), if_neg (fun h => by rw [hc] at h; exact absurd h.1 (by decide))]
    · by_cases h : b = []
      · rw [if_pos (.inr (.inl (by rw [h]; simp))), if_neg (fun h2 => h2.2 h)]
      · rw [if_neg (fun h2 => by rcases h2 with h2 | h2 | h2; (simp at h2; omega); exact h (hb.2 (by simp at h2; omega)); exact hc (by simpa using h2.2)), if_pos ⟨by simpa using hc, h⟩]

theorem float_any (s : ByteArray) (w : World) (hs : s.size ≤ 140737488351232) :
    Calls Tryd.prog 24 #[.string s] w fun r w' => r = .returned (litF (fEnd s.data.toList (rfl' s.data.toList 0 (-1) 0 0 0))) ∧ Below w.heap.size w w' := by
  have hlen : s.data.toList.length = s.size := by rw [Array.length_toList]; rfl
  by_cases h1 : Lib.indexByte s.data.toList 46 = -1
  · have hn : ∀ c ∈ s.data.toList, c.toNat ≠ 46 := by
      intro c hc e
      obtain ⟨k, hk⟩ := List.mem_iff_getElem?.1 hc
      exact Lib.indexByte_none h1 k (by rw [hk, show c = 46 from UInt8.toNat_inj.mp e])
    rw [never _ _ _ _ _ hn]
    exact float_bad1 s s ⟨#[]⟩ (fun W => cut_no s W h1) w
  · have hge := Lib.indexByte_ge s.data.toList 46
    obtain ⟨o, ho⟩ : ∃ o : Nat, Lib.indexByte s.data.toList 46 = o := ⟨(Lib.indexByte s.data.toList 46).toNat, by omega⟩
    obtain ⟨e1, e2⟩ := Lib.indexByte_some ho
    have hlt : o < s.data.toList.length := by
      rcases Nat.lt_or_ge o s.data.toList.length with h | h
      · exact h
      · rw [List.getElem?_eq_none h] at e1; cases e1
    have hlt2 : o < s.size := by omega
    obtain ⟨a, ha⟩ : ∃ a, a = s.data.toList.take o := ⟨_, rfl⟩
    obtain ⟨b, hb⟩ : ∃ b, b = s.data.toList.drop (o + 1) := ⟨_, rfl⟩
    have hl : s.data.toList = a ++ 46 :: b := by
      rw [ha, hb]
      have h46 : s.data.toList[o] = 46 := by rw [List.getElem?_eq_getElem hlt] at e1; exact Option.some.inj e1
      rw [← h46, ← List.drop_eq_getElem_cons hlt, List.take_append_drop]
    have hna : ∀ c ∈ a, c.toNat ≠ 46 := by
      intro c hc e
      rw [ha] at hc
      obtain ⟨k, hk⟩ := List.mem_iff_getElem?.1 hc
      rw [List.getElem?_take] at hk
      split at hk
      · rename_i hko
        exact e2 k hko (by rw [hk, show c = 46 from UInt8.toNat_inj.mp e])
      · cases hk
    have hal : a.length = o := by rw [ha, List.length_take]; omega
    have hbl : b.length = s.size - (o + 1) := by rw [hb, List.length_drop, hlen]
    obtain ⟨x, hx⟩ : ∃ x, x = s.extract 0 o := ⟨_, rfl⟩
    obtain ⟨y, hy⟩ : ∃ y, y = s.extract (o + 1) s.size := ⟨_, rfl⟩
    have HC : Hid (∀ W, Calls Tryd.prog 61 #[.string s, .string ⟨#[46]⟩] W fun r w' => r = .returned (.tuple #[.string x, .string y, .bool true]) ∧ Below W.heap.size W w') := fun W => by
      rw [hx, hy]; exact cut_yes s o W ho hlt2 (by omega)
    have hxl : x.data.toList = a := by rw [hx, ha]; simp [ByteArray.data_extract, Array.toList_extract, List.extract_eq_take_drop]
    have hyl : y.data.toList = b := by
      rw [hy, hb]; simp only [ByteArray.data_extract, Array.toList_extract, List.extract_eq_take_drop]
      rw [List.take_of_length_le (by rw [List.length_drop, hlen]; omega)]
    have hxs : x.size = a.length := by rw [← hxl, Array.length_toList]; rfl
    have hys : y.size = b.length := by rw [← hyl, Array.length_toList]; rfl
    clear hx hy ha hb ho e1 e2 hge h1
    rw [hl, both a b hna]
    have HPx : ∀ W, Calls Tryd.prog 60 #[.string x] W fun r w' => r = .returned (.bool (plainB a)) ∧ w' = W := fun W => by have := plain_any x W; rw [hxl] at this; exact this
    have hxy : (x ++ y).data.toList = a ++ b := by rw [ByteArray.data_append, Array.toList_append, hxl, hyl]
    have hxys : (x ++ y).size = a.length + b.length := by rw [ByteArray.size_append]; omega
    cases hpa : plainB a with
    | false =>
      have e : fEnd (a ++ 46 :: b) (if a.length + b.length ≤ 15 then (dig (a ++ b) 0).map (fun r => ((a.length : Int), r, b.length)) else none) = none := by
        split
        · cases dig (a ++ b) 0 with
          | none => rfl
          | some r => rw [Option.map_some, fEnd_cut, if_neg (fun h => by rw [hpa] at h; cases h.1)]
        · rfl
      rw [e]
      exact float_bad2 s x y HC (fun W => by have := HPx W; rw [hpa] at this; exact this) w
    | true =>
      have HP : Hid (∀ W, Calls Tryd.prog 60 #[.string x] W fun r w' => r = .returned (.bool true) ∧ w' = W) := fun W => by have := HPx W; rw [hpa] at this; exact this
      by_cases hb0 : b = []
      · have e : fEnd (a ++ 46 :: b) (if a.length + b.length ≤ 15 then (dig (a ++ b) 0).map (fun r => ((a.length : Int), r, b.length)) else none) = none := by
          split
          · cases dig (a ++ b) 0 with
            | none => rfl
            | some r => rw [Option.map_some, fEnd_cut, if_neg (fun h => h.2 hb0)]
          · rfl
        rw [e]
        exact float_bad3 s x y HC HP (by rw [ByteArray.toList_eq, hyl, hb0]; rfl) w
      · have hye : y.toList.isEmpty = false := by
          rw [ByteArray.toList_eq, hyl]
          cases b with
          | nil => exact absurd rfl hb0
          | cons => rfl
        by_cases h15 : a.length + b.length ≤ 15
        · rw [if_pos h15]
          have hD := fun W => digits_any (x ++ y) W (by omega)
          cases hd : dig (a ++ b) 0 with
          | none =>
            have e1 : digB (x ++ y).data.toList = false := by rw [hxy]; unfold digB; rw [hd]; rfl
            rw [e1] at hD
            exact float_bad5 s x y HC HP hye (by omega) _ hD w
          | some r =>
            have e1 : digB (x ++ y).data.toList = true := by rw [hxy]; unfold digB; rw [hd]; rfl
            have e2 : digN (x ++ y).data.toList = r := by rw [hxy]; unfold digN; rw [hd]; rfl
            rw [e1, e2] at hD
            have hr : r < 10 ^ (0 + (a ++ b).length) := dig_lt _ 0 0 r (by decide) hd
            have hr2 : r < 9007199254740992 := Nat.lt_of_lt_of_le hr (Nat.le_trans (Nat.pow_le_pow_right (by decide) (show 0 + (a ++ b).length ≤ 15 by rw [List.length_append]; omega)) (by decide))
            rw [Option.map_some, fEnd_cut, if_pos ⟨hpa, hb0⟩, ← hys]
            exact float_good s x y r HC HP hD hye (by omega) hr2 w
        · rw [if_neg h15]
          exact float_bad4 s x y HC HP hye (by omega) (by omega) w
end Go.Proofs.YtoplmbboaobahaaDoor
