/-
  A text as a literal, by lex and by the document.
-/
import Derived.Test.YtoplmbboaobahaaDoorFb
import Derived.Deep.RegionLaw
import Derived.WalkSmall
namespace Go.Proofs.YtoplmbboaobahaaDoor
open Go.RowKit

theorem getD_byte (s : ByteArray) (k : Nat) (h : k < s.size) : s.data.toList.getD k 0 = s[k]'h := by
  rw [List.getD_eq_getElem?_getD, List.getElem?_eq_getElem (by simpa using h)]
  rfl
theorem beq_of_ne {c k : Nat} (h : ¬ c = k) : ((c : Int) == (k : Int)) = false := by simp; omega

/-- A byte within a literal. -/
def quoteB (b : UInt8) : List UInt8 :=
  if b.toNat = 34 ∨ b.toNat = 92 then [92, b] else if b.toNat = 10 then [92, 110] else if b.toNat = 9 then [92, 116]
  else if b.toNat < 32 ∨ 126 < b.toNat then [92, 120, hexD (b.toNat / 16), hexD (b.toNat % 16)] else [b]
def quoteL (l : List UInt8) : List UInt8 := 34 :: (l.flatMap quoteB ++ [34])

theorem own_bytes1 (w : World) (b : Nat) : ∀ j u, ([.int .u8 b] : List Value)[j]? = some u → (w.alloc (.cells #[.int .u8 b] 5)).cell? ((⟨w.heap.size, 0, none⟩ : Addr).add j) = some u := cell_one_new _ _ _

set_option maxRecDepth 100000 in
set_option maxHeartbeats 1000000 in
theorem appendQuoted_plain (B : Nat) (v : Value) (acc : List UInt8) (b : UInt8) (w : World) (hB : B ≤ w.heap.size) (hown : w.ownsRow B 5 1 v acc.length (Lib.byteCells acc)) (hn : acc.length ≤ 70368744177664) (hb : quoteB b = [b]) :
    Calls Tryd.prog 83 #[v, .int .u8 b.toNat] w fun e w' => ∃ v', e = .returned v' ∧ w'.ownsRow B 5 1 v' (acc ++ quoteB b).length (Lib.byteCells (acc ++ quoteB b)) ∧ Below B w w' := by
  obtain ⟨i0, hi, hz0, hz1, hz2⟩ := info_parts info5
  have hc : ¬ (b.toNat = 34 ∨ b.toNat = 92) ∧ b.toNat ≠ 10 ∧ b.toNat ≠ 9 ∧ ¬ (b.toNat < 32 ∨ 126 < b.toNat) := by
    unfold quoteB at hb
    repeat' split at hb
    all_goals simp_all
  obtain ⟨h1, h2, h3, h4⟩ := hc
  have e34 : ((b.toNat : Int) == 34) = false := by simp; omega
  have e92 : ((b.toNat : Int) == 92) = false := by simp; omega
  have e10 : ((b.toNat : Int) == 10) = false := by simp; omega
  have e9 : ((b.toNat : Int) == 9) = false := by simp; omega
  have l32 : ¬ (b.toNat : Int) < 32 := by omega
  have l126 : ¬ (126 : Int) < b.toNat := by omega
  rw [hb]
  clear h1 h2 h3 h4 hb
  go_enter Tryd.func83, Tryd.ntmps83
  go_wp2_with (at_builtin; refine wpList_append_own _ rfl _ _ 102 rfl B 5 i0 (.int .u8 0) 1 1 Tryd.underlying102 hi hz0 hz1 hz2 rfl (by decide) _ _ _ rfl (hown.alloc _) ⟨w.heap.size, 0, none⟩ 1 1 [.int .u8 b.toNat] rfl rfl (cell_one_new _ _ _) (fun x hx => by simp at hx; subst hx; rfl) (by unfold maxLen; omega) (by omega) (by simp; omega) ?_; intro v' w3 hown3 hgr3 _)
  go_ret
  refine ⟨_, rfl, ?_, Below.grown ((Below.refl _ _).alloc (by omega) _) hgr3 (by simp; omega) (fun j hj => by have := (hown.lt _ hj).1; omega)⟩
  rw [byteCells_append']
  exact hown3

theorem quoteB_len (b : UInt8) : (quoteB b).length ≤ 4 := by
  unfold quoteB
  repeat' split
  all_goals simp
theorem flat_len (l : List UInt8) : (l.flatMap quoteB).length ≤ 4 * l.length := by
  induction l with
  | nil => simp
  | cons b l ih => rw [List.flatMap_cons, List.length_append, List.length_cons]; have := quoteB_len b; omega
theorem take_flat (l : List UInt8) (k : Nat) (h : k < l.length) : (l.take (k + 1)).flatMap quoteB = (l.take k).flatMap quoteB ++ quoteB (l.getD k 0) := by
  rw [List.take_succ_eq_append_getElem h, List.flatMap_append, List.getD_eq_getElem?_getD, List.getElem?_eq_getElem h]
  simp



theorem step_append_own {P : Program} {ops : Array Oper} {o : Oper} {a : Act} {w : World} {K : Act → World → Prop} {Q : Exit → Act → World → Prop} {E : Prop}
    (hg : o.guard = none) (s x : Operand) (t : TypeId) (ho : o.op = .call { callee := .builtin .append, args := #[s, x], argTypes := #[t, t] })
    (base : Nat) (e : TypeId) (i : TypeInfo) (z : Value) (size bytes : Nat) (ht : P.underlying t = some (.slice e)) (hi : P.info? e = some i) (hz : i.zero = some z)
    (hsize : i.size = size) (hby : i.bytes = bytes) (hzs : z.cells.size = size) (hsz : 0 < size)
    (v : Value) (n : Nat) (xs : List Value) (hs : a.eval s = v) (hown : w.ownsRow base e size v n xs)
    (ad : Addr) (m c : Nat) (news : List Value) (hx : a.eval x = .slice (some ad) m c) (hl : news.length = m * size) (hnews : ∀ j u, news[j]? = some u → w.cell? (ad.add j) = some u) (h1 : ∀ u ∈ news, u.oneCell' = true)
    (h63 : n + m ≤ maxLen) (hbytes : (n + m) * bytes ≤ 140737488355328) (hbase : base ≤ w.heap.size)
    (h : ∀ v' w', w'.ownsRow base e size v' (n + m) (xs ++ news) → w.grownBy w' v.ownBlock → K (a.put o.dst v') w') :
    if Region.wanted o (yielded ops a.tmps) = true then Oper.wp P o a w K Q else E := by
  have hw : Region.wanted o (yielded ops a.tmps) = true := by simp [Region.wanted, hg]
  rw [if_pos hw]
  exact wp_append_own w s x t ho base e i z size bytes ht hi hz hsize hby hzs hsz v n xs hs hown ad m c news hx hl hnews h1 h63 hbytes hbase fun v' w' h2 h3 _ => h v' w' h2 h3

theorem four_new (w : World) (a b c d : Value) (t : TypeId) : ∀ j u, [a, b, c, d][j]? = some u → (w.alloc (.cells #[a, b, c, d] t)).cell? ((⟨w.heap.size, 0, none⟩ : Addr).add j) = some u := by
  intro j u hj
  match j with
  | 0 => simp at hj; subst hj; simp [Addr.add]
  | 1 => simp at hj; subst hj; simp [Addr.add]
  | 2 => simp at hj; subst hj; simp [Addr.add]
  | 3 => simp at hj; subst hj; simp [Addr.add]
  | j + 4 => simp at hj

theorem hex_get (n : Nat) (h : n < 16) : ((ByteArray.mk #[48, 49, 50, 51, 52, 53, 54, 55, 56, 57, 97, 98, 99, 100, 101, 102])[n]'h) = hexD n := by
  have : ∀ n : Fin 16, ((ByteArray.mk #[48, 49, 50, 51, 52, 53, 54, 55, 56, 57, 97, 98, 99, 100, 101, 102])[n.val]'n.isLt) = hexD n.val := by decide
  exact this ⟨n, h⟩
theorem and_low (b : Nat) (h : b < 256) : bits BinOp.and IntKind.u8 (b : Int) 15 = ((b % 16 : Nat) : Int) := by
  have : ∀ b : Fin 256, bits BinOp.and IntKind.u8 (b.val : Int) 15 = ((b.val % 16 : Nat) : Int) := by decide +kernel
  exact this ⟨b, h⟩

set_option maxRecDepth 100000 in
set_option maxHeartbeats 1000000 in
theorem appendQuoted_hex (B : Nat) (v : Value) (acc : List UInt8) (b : UInt8) (w : World) (hB : B ≤ w.heap.size) (hown : w.ownsRow B 5 1 v acc.length (Lib.byteCells acc)) (hn : acc.length ≤ 70368744177664)
    (h1 : ¬ (b.toNat = 34 ∨ b.toNat = 92)) (h2 : ¬ b.toNat = 10) (h3 : ¬ b.toNat = 9) (h4 : b.toNat < 32 ∨ 126 < b.toNat) :
    Calls Tryd.prog 83 #[v, .int .u8 b.toNat] w fun e w' => ∃ v', e = .returned v' ∧ w'.ownsRow B 5 1 v' (acc ++ quoteB b).length (Lib.byteCells (acc ++ quoteB b)) ∧ Below B w w' := by
  obtain ⟨i0, hi, hz0, hz1, hz2⟩ := info_parts info5
  have hqb : quoteB b = [92, 120, hexD (b.toNat / 16), hexD (b.toNat % 16)] := by unfold quoteB; rw [if_neg h1, if_neg h2, if_neg h3, if_pos h4]
  have e34 : ((b.toNat : Int) == 34) = false := by simp; omega
  have e92 : ((b.toNat : Int) == 92) = false := by simp; omega
  have e10 : ((b.toNat : Int) == 10) = false := by simp; omega
  have e9 : ((b.toNat : Int) == 9) = false := by simp; omega
  have hb256 := b.toNat_lt
  rw [hqb]
  obtain ⟨hd, hhd⟩ : ∃ hd, hd = b.toNat / 16 := ⟨_, rfl⟩
  obtain ⟨ld, hld⟩ : ∃ ld, ld = b.toNat % 16 := ⟨_, rfl⟩
  have y1 : (b.toNat : Int) / 16 = (hd : Int) := by omega
  have y2 : bits BinOp.and IntKind.u8 (b.toNat : Int) 15 = (ld : Int) := by rw [and_low _ hb256, hld]
  have z1 : hd < 16 := by omega
  have z2 : ld < 16 := by omega
  have z1' : (hd : Int) < 16 := by omega
  have z2' : (ld : Int) < 16 := by omega
  rw [← hhd, ← hld]
  have g1 := hex_get hd z1
  have g2 := hex_get ld z2
  clear h1 h2 h3 hqb hhd hld
  obtain ⟨c1, hc1⟩ : ∃ c1, c1 = hexD hd := ⟨_, rfl⟩
  obtain ⟨c2, hc2⟩ : ∃ c2, c2 = hexD ld := ⟨_, rfl⟩
  rw [← hc1] at g1 ⊢
  rw [← hc2] at g2 ⊢
  clear hc1 hc2
  have fin : ∀ (v' : Value) (w3 : World), w3.ownsRow B 5 1 v' (acc.length + 4) (Lib.byteCells acc ++ [.int .u8 92, .int .u8 120, .int .u8 c1.toNat, .int .u8 c2.toNat]) → w3.ownsRow B 5 1 v' (acc ++ [92, 120, c1, c2]).length (Lib.byteCells (acc ++ [92, 120, c1, c2])) := fun v' w3 h => by
    rw [byteCells_append', List.length_append]; exact h
  by_cases l32 : (b.toNat : Int) < 32
  · go_enter Tryd.func83, Tryd.ntmps83
    go_wp2
    go_region_law (refine step_append_own rfl (.tmp 35) (.tmp 42) 102 rfl B 5 i0 (.int .u8 0) 1 1 Tryd.underlying102 hi hz0 hz1 hz2 rfl (by decide) _ _ _ rfl (hown.alloc _) ⟨w.heap.size, 0, none⟩ 4 4 [.int .u8 92, .int .u8 120, .int .u8 c1.toNat, .int .u8 c2.toNat] rfl rfl (four_new w _ _ _ _ 5) (fun x hx => by simp at hx; rcases hx with rfl | rfl | rfl | rfl <;> rfl) (by unfold maxLen; omega) (by omega) (by simp; omega) ?_; intro v' w3 hown3 hgr3)
    all_goals go_wp2
    all_goals go_ret
    all_goals exact ⟨_, rfl, fin _ _ hown3, Below.grown (((Below.refl _ _).alloc (by omega) _).drew) hgr3 (by simp; omega) (fun j hj => by have := (hown.lt _ hj).1; omega)⟩
  · have l126 : (126 : Int) < b.toNat := by omega
    go_enter Tryd.func83, Tryd.ntmps83
    go_wp2
    go_region_law (refine step_append_own rfl (.tmp 35) (.tmp 42) 102 rfl B 5 i0 (.int .u8 0) 1 1 Tryd.underlying102 hi hz0 hz1 hz2 rfl (by decide) _ _ _ rfl (hown.alloc _) ⟨w.heap.size, 0, none⟩ 4 4 [.int .u8 92, .int .u8 120, .int .u8 c1.toNat, .int .u8 c2.toNat] rfl rfl (four_new w _ _ _ _ 5) (fun x hx => by simp at hx; rcases hx with rfl | rfl | rfl | rfl <;> rfl) (by unfold maxLen; omega) (by omega) (by simp; omega) ?_; intro v' w3 hown3 hgr3)
    all_goals go_wp2
    all_goals go_ret
    all_goals exact ⟨_, rfl, fin _ _ hown3, Below.grown (((Below.refl _ _).alloc (by omega) _).drew) hgr3 (by simp; omega) (fun j hj => by have := (hown.lt _ hj).1; omega)⟩

set_option maxRecDepth 100000 in
set_option maxHeartbeats 1000000 in
theorem appendQuoted_two (B : Nat) (v : Value) (acc : List UInt8) (b : UInt8) (w : World) (hB : B ≤ w.heap.size) (hown : w.ownsRow B 5 1 v acc.length (Lib.byteCells acc)) (hn : acc.length ≤ 70368744177664)
    (h : b.toNat = 34 ∨ b.toNat = 92 ∨ b.toNat = 10 ∨ b.toNat = 9) :
    Calls Tryd.prog 83 #[v, .int .u8 b.toNat] w fun e w' => ∃ v', e = .returned v' ∧ w'.ownsRow B 5 1 v' (acc ++ quoteB b).length (Lib.byteCells (acc ++ quoteB b)) ∧ Below B w w' := by
  obtain ⟨i0, hi, hz0, hz1, hz2⟩ := info_parts info5
  have key : ∀ (c : UInt8), quoteB b = [92, c] → ∀ (v' : Value) (w3 : World), w3.ownsRow B 5 1 v' (acc.length + 2) (Lib.byteCells acc ++ [.int .u8 92, .int .u8 c.toNat]) → w3.ownsRow B 5 1 v' (acc ++ quoteB b).length (Lib.byteCells (acc ++ quoteB b)) := fun c hc v' w3 h => by
    rw [hc, byteCells_append', List.length_append]; exact h
  have hex : ∃ c : UInt8, quoteB b = [92, c] ∧ (b.toNat = 34 ∧ c.toNat = 34 ∨ b.toNat = 92 ∧ c.toNat = 92 ∨ b.toNat = 10 ∧ c.toNat = 110 ∨ b.toNat = 9 ∧ c.toNat = 116) := by
    unfold quoteB
    rcases h with h | h | h | h
    · exact ⟨b, by rw [if_pos (.inl h)], .inl ⟨h, h⟩⟩
    · exact ⟨b, by rw [if_pos (.inr h)], .inr (.inl ⟨h, h⟩)⟩
    · exact ⟨110, by rw [if_neg (by omega), if_pos h], .inr (.inr (.inl ⟨h, rfl⟩))⟩
    · exact ⟨116, by rw [if_neg (by omega), if_neg (by omega), if_pos h], .inr (.inr (.inr ⟨h, rfl⟩))⟩
  obtain ⟨c, hq, hcs⟩ := hex
  have fin := key c hq
  clear key hq h
  obtain ⟨Q, hQ⟩ : ∃ Q, Q = acc ++ quoteB b := ⟨_, rfl⟩
  rw [← hQ] at fin ⊢
  have HF : Hid (∀ (v' : Value) (w3 : World), w3.ownsRow B 5 1 v' (acc.length + 2) (Lib.byteCells acc ++ [.int .u8 92, .int .u8 c.toNat]) → w3.ownsRow B 5 1 v' Q.length (Lib.byteCells Q)) := fin
  clear fin hQ
  rcases hcs with ⟨hb, hc⟩ | ⟨hb, hc⟩ | ⟨hb, hc⟩ | ⟨hb, hc⟩
  all_goals (
    rw [hb]
    rw [hc] at HF
    clear hb hc
    go_enter Tryd.func83, Tryd.ntmps83
    go_wp2_with (at_builtin; refine wpList_append_own _ rfl _ _ 102 rfl B 5 i0 (.int .u8 0) 1 1 Tryd.underlying102 hi hz0 hz1 hz2 rfl (by decide) _ _ _ rfl (hown.alloc _) ⟨w.heap.size, 0, none⟩ 2 2 [.int .u8 92, .int .u8 _] rfl rfl (cell_two_new _ _ _ _) (fun x hx => by simp at hx; rcases hx with rfl | rfl <;> rfl) (by unfold maxLen; omega) (by omega) (by simp; omega) ?_; intro v' w3 hown3 hgr3 _)
    go_ret
    exact ⟨_, rfl, HF.out _ _ hown3, Below.grown ((Below.refl _ _).alloc (by omega) _) hgr3 (by simp; omega) (fun j hj => by have := (hown.lt _ hj).1; omega)⟩)

theorem appendQuoted_any (B : Nat) (v : Value) (acc : List UInt8) (b : UInt8) (w : World) (hB : B ≤ w.heap.size) (hown : w.ownsRow B 5 1 v acc.length (Lib.byteCells acc)) (hn : acc.length ≤ 70368744177664) :
    Calls Tryd.prog 83 #[v, .int .u8 b.toNat] w fun e w' => ∃ v', e = .returned v' ∧ w'.ownsRow B 5 1 v' (acc ++ quoteB b).length (Lib.byteCells (acc ++ quoteB b)) ∧ Below B w w' := by
  by_cases h1 : b.toNat = 34 ∨ b.toNat = 92
  · exact appendQuoted_two B v acc b w hB hown hn (by omega)
  by_cases h2 : b.toNat = 10
  · exact appendQuoted_two B v acc b w hB hown hn (by omega)
  by_cases h3 : b.toNat = 9
  · exact appendQuoted_two B v acc b w hB hown hn (by omega)
  by_cases h4 : b.toNat < 32 ∨ 126 < b.toNat
  · exact appendQuoted_hex B v acc b w hB hown hn h1 h2 h3 h4
  · exact appendQuoted_plain B v acc b w hB hown hn (by unfold quoteB; rw [if_neg h1, if_neg h2, if_neg h3, if_neg h4])


set_option maxRecDepth 100000 in
set_option maxHeartbeats 1000000 in
theorem quote_any (s : ByteArray) (w : World) (hlim : s.size ≤ 17592186044000) :
    Calls Tryd.prog 65 #[.string s] w fun e w' => e = .returned (.string ⟨(quoteL s.data.toList).toArray⟩) ∧ Below w.heap.size w w' := by
  obtain ⟨i0, hi, hz0, hz1, hz2⟩ := info_parts info5
  obtain ⟨L, hL⟩ : ∃ L, L = s.data.toList := ⟨_, rfl⟩
  have hLs : L.length = s.size := by rw [hL]; simp
  have HL : Hid (L = s.data.toList) := hL
  rw [← hL]
  clear hL
  obtain ⟨Q, hQ⟩ : ∃ Q, Q = quoteL L := ⟨_, rfl⟩
  have HQ : Hid (Q = quoteL L) := hQ
  rw [← hQ]
  clear hQ
  go_enter Tryd.func65, Tryd.ntmps65
  go_wp2_with (first | (at_make; refine wpList_make_own _ rfl _ _ 102 rfl w.heap.size 5 i0 (.int .u8 0) 1 Tryd.underlying102 hi hz0 hz1 .i64 .i64 _ (s.size + 2) rfl rfl (by simp) (by rw [hz2]; omega) (by unfold maxLen; omega) (Nat.le_refl _) ?_; intro w1 hown1 hgr1; have hsz1 : w.heap.size ≤ w1.heap.size := hgr1.size) | (at_builtin; refine wpList_append_own _ rfl _ _ 102 rfl w.heap.size 5 i0 (.int .u8 0) 1 1 Tryd.underlying102 hi hz0 hz1 hz2 rfl (by decide) _ _ _ rfl (hown1.alloc _) ⟨w1.heap.size, 0, none⟩ 1 1 [.int .u8 34] rfl rfl (cell_one_new _ _ _) (fun x hx => by simp at hx; subst hx; rfl) (by unfold maxLen; omega) (by omega) (by simp; omega) ?_; intro v2 w2 hown2 hgr2 _))
  have hb1 : Below w.heap.size w w1 := Below.grown (Below.refl _ _) hgr1 (Nat.le_refl _) (fun j hj => by cases hj)
  have hb2 : Below w.heap.size w w2 := Below.grown (hb1.alloc (by omega) _) hgr2 (by simp; omega) (fun j hj => by have := (hown1.lt _ hj).1; omega)
  clear hgr1 hgr2 hown1 hb1
  go_loopw [3, 14] (fun v i wr => ∃ k : Nat, k ≤ s.size ∧ i = .int .i64 k ∧ Below w.heap.size w wr ∧ Hid (wr.ownsRow w.heap.size 5 1 v (34 :: (L.take k).flatMap quoteB).length (Lib.byteCells (34 :: (L.take k).flatMap quoteB)))) (fun _ i _ => s.size - (intOf i).toNat)
  case atStart => exact ⟨0, Nat.zero_le _, rfl, hb2, hown2⟩
  case round =>
    obtain ⟨k, hk, rfl, hb, HO⟩ := hrel
    have hfl := flat_len (L.take k)
    have htk : (L.take k).length ≤ k := List.length_take_le _ _
    have hbs := hb.size
    have HAL : Hid ((34 :: (L.take k).flatMap quoteB).length ≤ 70368744177660) := by show _ ≤ _; rw [List.length_cons]; omega
    clear hfl htk
    by_cases hlt : k < s.size
    · have HB : Hid (s[k]'hlt = L.getD k 0) := by show _ = _; rw [HL.out, getD_byte s k hlt]
      go_wp2_with (go_at_call 83; refine (appendQuoted_any w.heap.size _ (34 :: (L.take k).flatMap quoteB) (s[k]'hlt) _ hbs HO.out (Nat.le_trans HAL.out (by decide))).mono ?_; rintro r w3 ⟨v', rfl, hown3, hb3⟩)
      go_roundw
      case rel =>
        refine ⟨k + 1, by omega, by go_num, hb.trans hb3, ?_⟩
        show World.ownsRow _ _ _ _ _ _ _
        rw [take_flat L k (by omega), ← HB.out]
        exact hown3
      case measure => simp [intOf]; omega
    · have hke : (L.take k) = L := List.take_of_length_le (by omega)
      rw [hke] at HO HAL
      clear hke
      have hown3 := HO.out
      have HM1 : Hid ((34 :: L.flatMap quoteB).length + 1 ≤ maxLen) := by have := HAL.out; show _ ≤ _; unfold maxLen; omega
      have HM2 : Hid (((34 :: L.flatMap quoteB).length + 1) * 1 ≤ 140737488355328) := by have := HAL.out; show _ ≤ _; omega
      go_wp2_with (at_builtin; refine wpList_append_own _ rfl _ _ 102 rfl w.heap.size 5 i0 (.int .u8 0) 1 1 Tryd.underlying102 hi hz0 hz1 hz2 rfl (by decide) _ _ _ rfl (hown3.alloc _) ⟨wr.heap.size, 0, none⟩ 1 1 [.int .u8 34] rfl rfl (cell_one_new _ _ _) (fun x hx => by simp at hx; subst hx; rfl) HM1.out HM2.out (by simp; omega) ?_; intro v4 w4 hown4 hgr4 _; have hcv := conv_own' (t := 34 :: (L.flatMap quoteB ++ [34])) (n := (34 :: L.flatMap quoteB).length + 1) (v := v4) (w := w4) (base := w.heap.size) (by have e : Lib.byteCells (34 :: (L.flatMap quoteB ++ [34])) = Lib.byteCells (34 :: L.flatMap quoteB) ++ [.int .u8 34] := (by rw [← List.cons_append, byteCells_append']; rfl); rw [e]; exact hown4))
      go_ret
      refine ⟨?_, Below.grown (hb.alloc (by omega) _) hgr4 (by simp; omega) (fun j hj => by have := (hown3.lt _ hj).1; omega)⟩
      rw [HQ.out]
      rfl

theorem wrap_small (n : Nat) (h : n < 16) : IntKind.u8.wrap (n : Int) = (n : Int) := by
  have : ∀ n : Fin 16, IntKind.u8.wrap (n.val : Int) = (n.val : Int) := by decide
  exact this ⟨n, h⟩

set_option maxRecDepth 100000 in
set_option maxHeartbeats 2000000 in
theorem refQuote_any (s : ByteArray) (w : World) (hlim : s.size ≤ 17592186044000) :
    Calls Tryd.prog 68 #[.string s] w fun e w' => e = .returned (.string ⟨(quoteL s.data.toList).toArray⟩) ∧ Below w.heap.size w w' := by
  obtain ⟨i0, hi, hz0, hz1, hz2⟩ := info_parts info5
  obtain ⟨L, hL⟩ : ∃ L, L = s.data.toList := ⟨_, rfl⟩
  have hLs : L.length = s.size := by rw [hL]; simp
  have HL : Hid (L = s.data.toList) := hL
  rw [← hL]
  clear hL
  obtain ⟨Q, hQ⟩ : ∃ Q, Q = quoteL L := ⟨_, rfl⟩
  have HQ : Hid (Q = quoteL L) := hQ
  rw [← hQ]
  clear hQ
  go_enter Tryd.func68, Tryd.ntmps68
  go_wp2
  go_loopw [4, 5] (fun v i wr => ∃ k : Nat, k ≤ s.size ∧ i = .int .i64 k ∧ Below w.heap.size w wr ∧ Hid (wr.ownsRow w.heap.size 5 1 v (34 :: (L.take k).flatMap quoteB).length (Lib.byteCells (34 :: (L.take k).flatMap quoteB)))) (fun _ i _ => s.size - (intOf i).toNat)
  case atStart => exact ⟨0, Nat.zero_le _, rfl, (Below.refl _ _).alloc (Nat.le_refl _) _, World.ownsRow_lit w _ 1 (Nat.le_refl _) (by unfold maxLen; omega) rfl⟩
  case round =>
    obtain ⟨k, hk, rfl, hb, HO⟩ := hrel
    have hfl := flat_len (L.take k)
    have htk : (L.take k).length ≤ k := List.length_take_le _ _
    have hbs := hb.size
    have HAL : Hid ((34 :: (L.take k).flatMap quoteB).length ≤ 70368744177660) := by show _ ≤ _; rw [List.length_cons]; omega
    have HM1 : Hid ((34 :: (L.take k).flatMap quoteB).length + 1 ≤ maxLen) := by have := HAL.out; show _ ≤ _; unfold maxLen; omega
    have HN1 : Hid (((34 :: (L.take k).flatMap quoteB).length + 1) * 1 ≤ 140737488355328) := by have := HAL.out; show _ ≤ _; omega
    have HM2 : Hid ((34 :: (L.take k).flatMap quoteB).length + 2 ≤ maxLen) := by have := HAL.out; show _ ≤ _; unfold maxLen; omega
    have HN2 : Hid (((34 :: (L.take k).flatMap quoteB).length + 2) * 1 ≤ 140737488355328) := by have := HAL.out; show _ ≤ _; omega
    have HM4 : Hid ((34 :: (L.take k).flatMap quoteB).length + 4 ≤ maxLen) := by have := HAL.out; show _ ≤ _; unfold maxLen; omega
    have HN4 : Hid (((34 :: (L.take k).flatMap quoteB).length + 4) * 1 ≤ 140737488355328) := by have := HAL.out; show _ ≤ _; omega
    clear hfl htk
    by_cases hlt : k < s.size
    · have HB : Hid (s[k]'hlt = L.getD k 0) := by show _ = _; rw [HL.out, getD_byte s k hlt]
      have hown := HO.out
      have hb256 := (s[k]'hlt).toNat_lt
      obtain ⟨B, hB⟩ : ∃ B, B = s[k]'hlt := ⟨_, rfl⟩
      have HBB : Hid (B = s[k]'hlt) := hB
      by_cases c34 : (s[k]'hlt).toNat = 34
      · have t34 : (((s[k]'hlt).toNat : Int) == 34) = true := by rw [c34]; rfl
        have HQB : Hid (quoteB (s[k]'hlt) = [92, s[k]'hlt]) := by show _ = _; unfold quoteB; rw [if_pos (.inl c34)]
        clear c34  hB
        go_wp2_with (at_builtin; refine wpList_append_own _ rfl _ _ 102 rfl w.heap.size 5 i0 (.int .u8 0) 1 1 Tryd.underlying102 hi hz0 hz1 hz2 rfl (by decide) _ _ _ rfl (hown.alloc _) ⟨wr.heap.size, 0, none⟩ 2 2 [.int .u8 92, .int .u8 (s[k]'hlt).toNat] rfl rfl (cell_two_new _ _ _ _) (fun x hx => by simp at hx; rcases hx with rfl | rfl <;> rfl) HM2.out HN2.out (by simp; omega) ?_; intro v' w3 hown3 hgr3 _; have HB3 : Hid (Below w.heap.size w w3) := (Below.grown (hb.alloc (by omega) _) hgr3 (by simp; omega) (fun j hj => by have := (hown.lt _ hj).1; omega)); have HO3 : Hid (w3.ownsRow w.heap.size 5 1 v' _ _) := hown3; clear hown3 hgr3)
        go_roundw
        case rel =>
          refine ⟨k + 1, by omega, by go_num, HB3.out, ?_⟩
          show World.ownsRow _ _ _ _ _ _ _
          rw [take_flat L k (by omega), ← HB.out, HQB.out, ← List.cons_append, byteCells_append', List.length_append]
          exact HO3.out
        case measure => simp [intOf]; omega
      have t34 : (((s[k]'hlt).toNat : Int) == 34) = false := beq_of_ne (k := 34) c34
      by_cases c92 : (s[k]'hlt).toNat = 92
      · have t92 : (((s[k]'hlt).toNat : Int) == 92) = true := by rw [c92]; rfl
        have HQB : Hid (quoteB (s[k]'hlt) = [92, s[k]'hlt]) := by show _ = _; unfold quoteB; rw [if_pos (.inr c92)]
        clear c92 c34 hB
        go_wp2_with (at_builtin; refine wpList_append_own _ rfl _ _ 102 rfl w.heap.size 5 i0 (.int .u8 0) 1 1 Tryd.underlying102 hi hz0 hz1 hz2 rfl (by decide) _ _ _ rfl (hown.alloc _) ⟨wr.heap.size, 0, none⟩ 2 2 [.int .u8 92, .int .u8 (s[k]'hlt).toNat] rfl rfl (cell_two_new _ _ _ _) (fun x hx => by simp at hx; rcases hx with rfl | rfl <;> rfl) HM2.out HN2.out (by simp; omega) ?_; intro v' w3 hown3 hgr3 _; have HB3 : Hid (Below w.heap.size w w3) := (Below.grown (hb.alloc (by omega) _) hgr3 (by simp; omega) (fun j hj => by have := (hown.lt _ hj).1; omega)); have HO3 : Hid (w3.ownsRow w.heap.size 5 1 v' _ _) := hown3; clear hown3 hgr3)
        go_roundw
        case rel =>
          refine ⟨k + 1, by omega, by go_num, HB3.out, ?_⟩
          show World.ownsRow _ _ _ _ _ _ _
          rw [take_flat L k (by omega), ← HB.out, HQB.out, ← List.cons_append, byteCells_append', List.length_append]
          exact HO3.out
        case measure => simp [intOf]; omega
      have t92 : (((s[k]'hlt).toNat : Int) == 92) = false := beq_of_ne (k := 92) c92
      by_cases c10 : (s[k]'hlt).toNat = 10
      · have t10 : (((s[k]'hlt).toNat : Int) == 10) = true := by rw [c10]; rfl
        have HQB : Hid (quoteB (s[k]'hlt) = [92, 110]) := by show _ = _; unfold quoteB; rw [if_neg (by omega), if_pos c10]
        clear c10 c92 c34 hB
        go_wp2_with (at_builtin; refine wpList_append_own _ rfl _ _ 102 rfl w.heap.size 5 i0 (.int .u8 0) 1 1 Tryd.underlying102 hi hz0 hz1 hz2 rfl (by decide) _ _ _ rfl (hown.alloc _) ⟨wr.heap.size, 0, none⟩ 2 2 [.int .u8 92, .int .u8 110] rfl rfl (cell_two_new _ _ _ _) (fun x hx => by simp at hx; rcases hx with rfl | rfl <;> rfl) HM2.out HN2.out (by simp; omega) ?_; intro v' w3 hown3 hgr3 _; have HB3 : Hid (Below w.heap.size w w3) := (Below.grown (hb.alloc (by omega) _) hgr3 (by simp; omega) (fun j hj => by have := (hown.lt _ hj).1; omega)); have HO3 : Hid (w3.ownsRow w.heap.size 5 1 v' _ _) := hown3; clear hown3 hgr3)
        go_roundw
        case rel =>
          refine ⟨k + 1, by omega, by go_num, HB3.out, ?_⟩
          show World.ownsRow _ _ _ _ _ _ _
          rw [take_flat L k (by omega), ← HB.out, HQB.out, ← List.cons_append, byteCells_append', List.length_append]
          exact HO3.out
        case measure => simp [intOf]; omega
      have t10 : (((s[k]'hlt).toNat : Int) == 10) = false := beq_of_ne (k := 10) c10
      by_cases c9 : (s[k]'hlt).toNat = 9
      · have t9 : (((s[k]'hlt).toNat : Int) == 9) = true := by rw [c9]; rfl
        have HQB : Hid (quoteB (s[k]'hlt) = [92, 116]) := by show _ = _; unfold quoteB; rw [if_neg (by omega), if_neg (by omega), if_pos c9]
        clear c9 c10 c92 c34 hB
        go_wp2_with (at_builtin; refine wpList_append_own _ rfl _ _ 102 rfl w.heap.size 5 i0 (.int .u8 0) 1 1 Tryd.underlying102 hi hz0 hz1 hz2 rfl (by decide) _ _ _ rfl (hown.alloc _) ⟨wr.heap.size, 0, none⟩ 2 2 [.int .u8 92, .int .u8 116] rfl rfl (cell_two_new _ _ _ _) (fun x hx => by simp at hx; rcases hx with rfl | rfl <;> rfl) HM2.out HN2.out (by simp; omega) ?_; intro v' w3 hown3 hgr3 _; have HB3 : Hid (Below w.heap.size w w3) := (Below.grown (hb.alloc (by omega) _) hgr3 (by simp; omega) (fun j hj => by have := (hown.lt _ hj).1; omega)); have HO3 : Hid (w3.ownsRow w.heap.size 5 1 v' _ _) := hown3; clear hown3 hgr3)
        go_roundw
        case rel =>
          refine ⟨k + 1, by omega, by go_num, HB3.out, ?_⟩
          show World.ownsRow _ _ _ _ _ _ _
          rw [take_flat L k (by omega), ← HB.out, HQB.out, ← List.cons_append, byteCells_append', List.length_append]
          exact HO3.out
        case measure => simp [intOf]; omega
      have t9 : (((s[k]'hlt).toNat : Int) == 9) = false := beq_of_ne (k := 9) c9
      by_cases c4 : (s[k]'hlt).toNat < 32 ∨ 126 < (s[k]'hlt).toNat
      · obtain ⟨hd, hhd⟩ : ∃ hd, hd = (s[k]'hlt).toNat / 16 := ⟨_, rfl⟩
        obtain ⟨ld, hld⟩ : ∃ ld, ld = (s[k]'hlt).toNat % 16 := ⟨_, rfl⟩
        have HQB : Hid (quoteB (s[k]'hlt) = [92, 120, hexD hd, hexD ld]) := by show _ = _; unfold quoteB; rw [if_neg (by omega), if_neg (by omega), if_neg (by omega), if_pos c4, ← hhd, ← hld]
        have y1 : ((s[k]'hlt).toNat : Int) / 16 = (hd : Int) := by omega
        have y2 : ((s[k]'hlt).toNat : Int).tmod 16 = (ld : Int) := by rw [Int.tmod_eq_emod_of_nonneg (by omega)]; omega
        have z1 : hd < 16 := by omega
        have z2 : ld < 16 := by omega
        have z1' : (hd : Int) < 16 := by omega
        have z2' : (ld : Int) < 16 := by omega
        have q1 := wrap_small hd z1
        have q2 := wrap_small ld z2
        have g1 := hex_get hd z1
        have g2 := hex_get ld z2
        clear hhd hld hB
        obtain ⟨d1, hd1⟩ : ∃ d1, d1 = hexD hd := ⟨_, rfl⟩
        obtain ⟨d2, hd2⟩ : ∃ d2, d2 = hexD ld := ⟨_, rfl⟩
        rw [← hd1] at g1 HQB
        rw [← hd2] at g2 HQB
        clear hd1 hd2
        by_cases l32 : ((s[k]'hlt).toNat : Int) < 32
        · go_wp2
          go_region_law (refine step_append_own rfl (.tmp 51) (.tmp 60) 102 rfl w.heap.size 5 i0 (.int .u8 0) 1 1 Tryd.underlying102 hi hz0 hz1 hz2 rfl (by decide) _ _ _ rfl (hown.alloc _) ⟨wr.heap.size, 0, none⟩ 4 4 [.int .u8 92, .int .u8 120, .int .u8 d1.toNat, .int .u8 d2.toNat] rfl rfl (four_new wr _ _ _ _ 5) (fun x hx => by simp at hx; rcases hx with rfl | rfl | rfl | rfl <;> rfl) HM4.out HN4.out (by simp; omega) ?_; intro v' w3 hown3 hgr3; have HB3 : Hid (Below w.heap.size w w3) := (Below.grown ((hb.alloc (by omega) _).drew) hgr3 (by simp; omega) (fun j hj => by have := (hown.lt _ hj).1; omega)); have HO3 : Hid (w3.ownsRow w.heap.size 5 1 v' _ _) := hown3; clear hown3 hgr3)
          all_goals go_wp2
          all_goals (
            go_roundw
            case rel =>
              refine ⟨k + 1, by omega, by go_num, HB3.out, ?_⟩
              show World.ownsRow _ _ _ _ _ _ _
              rw [take_flat L k (by omega), ← HB.out, HQB.out, ← List.cons_append, byteCells_append', List.length_append]
              exact HO3.out
            case measure => simp [intOf]; omega)
        · have l126 : (126 : Int) < (s[k]'hlt).toNat := by omega
          go_wp2
          go_region_law (refine step_append_own rfl (.tmp 51) (.tmp 60) 102 rfl w.heap.size 5 i0 (.int .u8 0) 1 1 Tryd.underlying102 hi hz0 hz1 hz2 rfl (by decide) _ _ _ rfl (hown.alloc _) ⟨wr.heap.size, 0, none⟩ 4 4 [.int .u8 92, .int .u8 120, .int .u8 d1.toNat, .int .u8 d2.toNat] rfl rfl (four_new wr _ _ _ _ 5) (fun x hx => by simp at hx; rcases hx with rfl | rfl | rfl | rfl <;> rfl) HM4.out HN4.out (by simp; omega) ?_; intro v' w3 hown3 hgr3; have HB3 : Hid (Below w.heap.size w w3) := (Below.grown ((hb.alloc (by omega) _).drew) hgr3 (by simp; omega) (fun j hj => by have := (hown.lt _ hj).1; omega)); have HO3 : Hid (w3.ownsRow w.heap.size 5 1 v' _ _) := hown3; clear hown3 hgr3)
          all_goals go_wp2
          all_goals (
            go_roundw
            case rel =>
              refine ⟨k + 1, by omega, by go_num, HB3.out, ?_⟩
              show World.ownsRow _ _ _ _ _ _ _
              rw [take_flat L k (by omega), ← HB.out, HQB.out, ← List.cons_append, byteCells_append', List.length_append]
              exact HO3.out
            case measure => simp [intOf]; omega)
      · have l32 : ¬ ((s[k]'hlt).toNat : Int) < 32 := by omega
        have l126 : ¬ (126 : Int) < (s[k]'hlt).toNat := by omega
        have HQB : Hid (quoteB (s[k]'hlt) = [s[k]'hlt]) := by show _ = _; unfold quoteB; rw [if_neg (by omega), if_neg (by omega), if_neg (by omega), if_neg c4]
        clear c4 c9 c10 c92 c34 hB
        go_wp2_with (at_builtin; refine wpList_append_own _ rfl _ _ 102 rfl w.heap.size 5 i0 (.int .u8 0) 1 1 Tryd.underlying102 hi hz0 hz1 hz2 rfl (by decide) _ _ _ rfl (hown.alloc _) ⟨wr.heap.size, 0, none⟩ 1 1 [.int .u8 (s[k]'hlt).toNat] rfl rfl (cell_one_new _ _ _) (fun x hx => by simp at hx; subst hx; rfl) HM1.out HN1.out (by simp; omega) ?_; intro v' w3 hown3 hgr3 _; have HB3 : Hid (Below w.heap.size w w3) := (Below.grown (hb.alloc (by omega) _) hgr3 (by simp; omega) (fun j hj => by have := (hown.lt _ hj).1; omega)); have HO3 : Hid (w3.ownsRow w.heap.size 5 1 v' _ _) := hown3; clear hown3 hgr3)
        go_roundw
        case rel =>
          refine ⟨k + 1, by omega, by go_num, HB3.out, ?_⟩
          show World.ownsRow _ _ _ _ _ _ _
          rw [take_flat L k (by omega), ← HB.out, HQB.out, ← List.cons_append, byteCells_append', List.length_append]
          exact HO3.out
        case measure => simp [intOf]; omega
    · have hke : (L.take k) = L := List.take_of_length_le (by omega)
      rw [hke] at HO HAL HM1 HN1
      clear hke HM2 HN2 HM4 HN4
      have hown3 := HO.out
      go_wp2_with (at_builtin; refine wpList_append_own _ rfl _ _ 102 rfl w.heap.size 5 i0 (.int .u8 0) 1 1 Tryd.underlying102 hi hz0 hz1 hz2 rfl (by decide) _ _ _ rfl (hown3.alloc _) ⟨wr.heap.size, 0, none⟩ 1 1 [.int .u8 34] rfl rfl (cell_one_new _ _ _) (fun x hx => by simp at hx; subst hx; rfl) HM1.out HN1.out (by simp; omega) ?_; intro v4 w4 hown4 hgr4 _; have hcv := conv_own' (t := 34 :: (L.flatMap quoteB ++ [34])) (n := (34 :: L.flatMap quoteB).length + 1) (v := v4) (w := w4) (base := w.heap.size) (by have e : Lib.byteCells (34 :: (L.flatMap quoteB ++ [34])) = Lib.byteCells (34 :: L.flatMap quoteB) ++ [.int .u8 34] := (by rw [← List.cons_append, byteCells_append']; rfl); rw [e]; exact hown4))
      go_ret
      refine ⟨?_, Below.grown (hb.alloc (by omega) _) hgr4 (by simp; omega) (fun j hj => by have := (hown3.lt _ hj).1; omega)⟩
      rw [HQ.out]
      rfl

end Go.Proofs.YtoplmbboaobahaaDoor
