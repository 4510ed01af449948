/-
  A text as a literal, by lex and by the document.
  Literals.
  What is known of a tree that is right.
-/
import Derived.Test.YthbnegggohegkaaGreatDoorGmJ
import Derived.Deep.RegionLaw
import Derived.WalkSmall
import Derived.Test.YthbnegggohegkaaGreatDoorWgJ
import Derived.Test.YthbnegggohegkaaGreatDoorWnJ
import Derived.Test.YthbnegggohegkaaGreatDoorVo
import Derived.Test.YthbnegggohegkaaGreatDoorVp
import Derived.Test.YthbnegggohegkaaGreatDoorVj
import Derived.Test.YthbnegggohegkaaGreatDoorVs
import Derived.Test.YthbnegggohegkaaGreatDoorVw
import Derived.Test.YthbnegggohegkaaGreatDoorWc
import Derived.Test.YthbnegggohegkaaGreatDoorGb
namespace Go.Proofs.YthbnegggohegkaaGreatDoor
open Go.RowKit

def hexD (n : Nat) : UInt8 := if n < 10 then UInt8.ofNat (48 + n) else UInt8.ofNat (87 + n)
theorem byteCells_append' (a b : List UInt8) : Lib.byteCells (a ++ b) = Lib.byteCells a ++ Lib.byteCells b := by simp [Lib.byteCells]
theorem beq_of_ne {c k : Nat} (h : ¬ c = k) : ((c : Int) == (k : Int)) = false := by simp; omega

/-- A byte within a literal. -/
def quoteB (b : UInt8) : List UInt8 :=
  if b.toNat = 34 ∨ b.toNat = 92 then [92, b] else if b.toNat = 10 then [92, 110] else if b.toNat = 9 then [92, 116]
  else if b.toNat < 32 ∨ 126 < b.toNat then [92, 120, hexD (b.toNat / 16), hexD (b.toNat % 16)] else [b]
def quoteL (l : List UInt8) : List UInt8 := 34 :: (l.flatMap quoteB ++ [34])

theorem own_bytes1 (w : World) (b : Nat) : ∀ j u, ([.int .u8 b] : List Value)[j]? = some u → (w.alloc (.cells #[.int .u8 b] 5)).cell? ((⟨w.heap.size, 0, none⟩ : Addr).add j) = some u := cell_one_new _ _ _

set_option maxRecDepth 100000 in
set_option maxHeartbeats 1000000 in
theorem appendQuoted_plain (B : Nat) (v : Value) (acc : List UInt8) (b : UInt8) (w : World) (hB : B ≤ w.heap.size) (hown : w.ownsRow B 5 1 v acc.length (Lib.byteCells acc)) (hn : acc.length ≤ 70368744177664) (hb : quoteB b = [b]) :
    Calls Tryz.prog 180 #[v, .int .u8 b.toNat] w fun e w' => ∃ v', e = .returned v' ∧ w'.ownsRow B 5 1 v' (acc ++ quoteB b).length (Lib.byteCells (acc ++ quoteB b)) ∧ Below B w w' := by
  obtain ⟨i0, hi, hz0, hz1, hz2⟩ := info_parts info5
  have hc : ¬ (b.toNat = 34 ∨ b.toNat = 92) ∧ b.toNat ≠ 10 ∧ b.toNat ≠ 9 ∧ ¬ (b.toNat < 32 ∨ 126 < b.toNat) := by
    unfold quoteB at hb
    repeat' split at hb
    all_goals simp_all
  obtain ⟨h1, h2, h3, h4⟩ := hc
  have e34 : ((b.toNat : Int) == 34) = false := by simp; omega
  have e92 : ((b.toNat : Int) == 92) = false := by simp; omega
  have e10 : ((b.toNat : Int) == 10) = false := by simp; omega
  have e9 : ((b.toNat : Int) == 9) = false := by simp; omega
  have l32 : ¬ (b.toNat : Int) < 32 := by omega
  have l126 : ¬ (126 : Int) < b.toNat := by omega
  rw [hb]
  clear h1 h2 h3 h4 hb
  go_enter Tryz.func180, Tryz.ntmps180
  go_wp2_with (at_builtin; refine wpList_append_own _ rfl _ _ 82 rfl B 5 i0 (.int .u8 0) 1 1 Tryz.underlying82 hi hz0 hz1 hz2 rfl (by decide) _ _ _ rfl (hown.alloc _) ⟨w.heap.size, 0, none⟩ 1 1 [.int .u8 b.toNat] rfl rfl (cell_one_new _ _ _) (fun x hx => by simp at hx; subst hx; rfl) (by unfold maxLen; omega) (by omega) (by simp; omega) ?_; intro v' w3 hown3 hgr3 _)
  go_ret
  refine ⟨_, rfl, ?_, Below.grown ((Below.refl _ _).alloc (by omega) _) hgr3 (by simp; omega) (fun j hj => by have := (hown.lt _ hj).1; omega)⟩
  rw [byteCells_append']
  exact hown3

theorem quoteB_len (b : UInt8) : (quoteB b).length ≤ 4 := by
  unfold quoteB
  repeat' split
  all_goals simp
theorem flat_len (l : List UInt8) : (l.flatMap quoteB).length ≤ 4 * l.length := by
  induction l with
  | nil => simp
  | cons b l ih => rw [List.flatMap_cons, List.length_append, List.length_cons]; have := quoteB_len b; omega
theorem take_flat (l : List UInt8) (k : Nat) (h : k < l.length) : (l.take (k + 1)).flatMap quoteB = (l.take k).flatMap quoteB ++ quoteB (l.getD k 0) := by
  rw [List.take_succ_eq_append_getElem h, List.flatMap_append, List.getD_eq_getElem?_getD, List.getElem?_eq_getElem h]
  simp



theorem step_append_own {P : Program} {ops : Array Oper} {o : Oper} {a : Act} {w : World} {K : Act → World → Prop} {Q : Exit → Act → World → Prop} {E : Prop}
    (hg : o.guard = none) (s x : Operand) (t : TypeId) (ho : o.op = .call { callee := .builtin .append, args := #[s, x], argTypes := #[t, t] })
    (base : Nat) (e : TypeId) (i : TypeInfo) (z : Value) (size bytes : Nat) (ht : P.underlying t = some (.slice e)) (hi : P.info? e = some i) (hz : i.zero = some z)
    (hsize : i.size = size) (hby : i.bytes = bytes) (hzs : z.cells.size = size) (hsz : 0 < size)
    (v : Value) (n : Nat) (xs : List Value) (hs : a.eval s = v) (hown : w.ownsRow base e size v n xs)
    (ad : Addr) (m c : Nat) (news : List Value) (hx : a.eval x = .slice (some ad) m c) (hl : news.length = m * size) (hnews : ∀ j u, news[j]? = some u → w.cell? (ad.add j) = some u) (h1 : ∀ u ∈ news, u.oneCell' = true)
    (h63 : n + m ≤ maxLen) (hbytes : (n + m) * bytes ≤ 140737488355328) (hbase : base ≤ w.heap.size)
    (h : ∀ v' w', w'.ownsRow base e size v' (n + m) (xs ++ news) → w.grownBy w' v.ownBlock → K (a.put o.dst v') w') :
    if Region.wanted o (yielded ops a.tmps) = true then Oper.wp P o a w K Q else E := by
  have hw : Region.wanted o (yielded ops a.tmps) = true := by simp [Region.wanted, hg]
  rw [if_pos hw]
  exact wp_append_own w s x t ho base e i z size bytes ht hi hz hsize hby hzs hsz v n xs hs hown ad m c news hx hl hnews h1 h63 hbytes hbase fun v' w' h2 h3 _ => h v' w' h2 h3

theorem four_new (w : World) (a b c d : Value) (t : TypeId) : ∀ j u, [a, b, c, d][j]? = some u → (w.alloc (.cells #[a, b, c, d] t)).cell? ((⟨w.heap.size, 0, none⟩ : Addr).add j) = some u := by
  intro j u hj
  match j with
  | 0 => simp at hj; subst hj; simp [Addr.add]
  | 1 => simp at hj; subst hj; simp [Addr.add]
  | 2 => simp at hj; subst hj; simp [Addr.add]
  | 3 => simp at hj; subst hj; simp [Addr.add]
  | j + 4 => simp at hj

theorem hex_get (n : Nat) (h : n < 16) : ((ByteArray.mk #[48, 49, 50, 51, 52, 53, 54, 55, 56, 57, 97, 98, 99, 100, 101, 102])[n]'h) = hexD n := by
  have : ∀ n : Fin 16, ((ByteArray.mk #[48, 49, 50, 51, 52, 53, 54, 55, 56, 57, 97, 98, 99, 100, 101, 102])[n.val]'n.isLt) = hexD n.val := by decide
  exact this ⟨n, h⟩
theorem and_low (b : Nat) (h : b < 256) : bits BinOp.and IntKind.u8 (b : Int) 15 = ((b % 16 : Nat) : Int) := by
  have : ∀ b : Fin 256, bits BinOp.and IntKind.u8 (b.val : Int) 15 = ((b.val % 16 : Nat) : Int) := by decide +kernel
  exact this ⟨b, h⟩

set_option maxRecDepth 100000 in
set_option maxHeartbeats 1000000 in
theorem appendQuoted_hex (B : Nat) (v : Value) (acc : List UInt8) (b : UInt8) (w : World) (hB : B ≤ w.heap.size) (hown : w.ownsRow B 5 1 v acc.length (Lib.byteCells acc)) (hn : acc.length ≤ 70368744177664)
    (h1 : ¬ (b.toNat = 34 ∨ b.toNat = 92)) (h2 : ¬ b.toNat = 10) (h3 : ¬ b.toNat = 9) (h4 : b.toNat < 32 ∨ 126 < b.toNat) :
    Calls Tryz.prog 180 #[v, .int .u8 b.toNat] w fun e w' => ∃ v', e = .returned v' ∧ w'.ownsRow B 5 1 v' (acc ++ quoteB b).length (Lib.byteCells (acc ++ quoteB b)) ∧ Below B w w' := by
  obtain ⟨i0, hi, hz0, hz1, hz2⟩ := info_parts info5
  have hqb : quoteB b = [92, 120, hexD (b.toNat / 16), hexD (b.toNat % 16)] := by unfold quoteB; rw [if_neg h1, if_neg h2, if_neg h3, if_pos h4]
  have e34 : ((b.toNat : Int) == 34) = false := by simp; omega
  have e92 : ((b.toNat : Int) == 92) = false := by simp; omega
  have e10 : ((b.toNat : Int) == 10) = false := by simp; omega
  have e9 : ((b.toNat : Int) == 9) = false := by simp; omega
  have hb256 := b.toNat_lt
  rw [hqb]
  obtain ⟨hd, hhd⟩ : ∃ hd, hd = b.toNat / 16 := ⟨_, rfl⟩
  obtain ⟨ld, hld⟩ : ∃ ld, ld = b.toNat % 16 := ⟨_, rfl⟩
  have y1 : (b.toNat : Int) / 16 = (hd : Int) := by omega
  have y2 : bits BinOp.and IntKind.u8 (b.toNat : Int) 15 = (ld : Int) := by rw [and_low _ hb256, hld]
  have z1 : hd < 16 := by omega
  have z2 : ld < 16 := by omega
  have z1' : (hd : Int) < 16 := by omega
  have z2' : (ld : Int) < 16 := by omega
  rw [← hhd, ← hld]
  have g1 := hex_get hd z1
  have g2 := hex_get ld z2
  clear h1 h2 h3 hqb hhd hld
  obtain ⟨c1, hc1⟩ : ∃ c1, c1 = hexD hd := ⟨_, rfl⟩
  obtain ⟨c2, hc2⟩ : ∃ c2, c2 = hexD ld := ⟨_, rfl⟩
  rw [← hc1] at g1 ⊢
  rw [← hc2] at g2 ⊢
  clear hc1 hc2
  have fin : ∀ (v' : Value) (w3 : World), w3.ownsRow B 5 1 v' (acc.length + 4) (Lib.byteCells acc ++ [.int .u8 92, .int .u8 120, .int .u8 c1.toNat, .int .u8 c2.toNat]) → w3.ownsRow B 5 1 v' (acc ++ [92, 120, c1, c2]).length (Lib.byteCells (acc ++ [92, 120, c1, c2])) := fun v' w3 h => by
    rw [byteCells_append', List.length_append]; exact h
  by_cases l32 : (b.toNat : Int) < 32
  · go_enter Tryz.func180, Tryz.ntmps180
    go_wp2
    go_region_law (refine step_append_own rfl (.tmp 35) (.tmp 42) 82 rfl B 5 i0 (.int .u8 0) 1 1 Tryz.underlying82 hi hz0 hz1 hz2 rfl (by decide) _ _ _ rfl (hown.alloc _) ⟨w.heap.size, 0, none⟩ 4 4 [.int .u8 92, .int .u8 120, .int .u8 c1.toNat, .int .u8 c2.toNat] rfl rfl (four_new w _ _ _ _ 5) (fun x hx => by simp at hx; rcases hx with rfl | rfl | rfl | rfl <;> rfl) (by unfold maxLen; omega) (by omega) (by simp; omega) ?_; intro v' w3 hown3 hgr3)
    all_goals go_wp2
    all_goals go_ret
    all_goals exact ⟨_, rfl, fin _ _ hown3, Below.grown (((Below.refl _ _).alloc (by omega) _).drew) hgr3 (by simp; omega) (fun j hj => by have := (hown.lt _ hj).1; omega)⟩
  · have l126 : (126 : Int) < b.toNat := by omega
    go_enter Tryz.func180, Tryz.ntmps180
    go_wp2
    go_region_law (refine step_append_own rfl (.tmp 35) (.tmp 42) 82 rfl B 5 i0 (.int .u8 0) 1 1 Tryz.underlying82 hi hz0 hz1 hz2 rfl (by decide) _ _ _ rfl (hown.alloc _) ⟨w.heap.size, 0, none⟩ 4 4 [.int .u8 92, .int .u8 120, .int .u8 c1.toNat, .int .u8 c2.toNat] rfl rfl (four_new w _ _ _ _ 5) (fun x hx => by simp at hx; rcases hx with rfl | rfl | rfl | rfl <;> rfl) (by unfold maxLen; omega) (by omega) (by simp; omega) ?_; intro v' w3 hown3 hgr3)
    all_goals go_wp2
    all_goals go_ret
    all_goals exact ⟨_, rfl, fin _ _ hown3, Below.grown (((Below.refl _ _).alloc (by omega) _).drew) hgr3 (by simp; omega) (fun j hj => by have := (hown.lt _ hj).1; omega)⟩

set_option maxRecDepth 100000 in
set_option maxHeartbeats 1000000 in
theorem appendQuoted_two (B : Nat) (v : Value) (acc : List UInt8) (b : UInt8) (w : World) (hB : B ≤ w.heap.size) (hown : w.ownsRow B 5 1 v acc.length (Lib.byteCells acc)) (hn : acc.length ≤ 70368744177664)
    (h : b.toNat = 34 ∨ b.toNat = 92 ∨ b.toNat = 10 ∨ b.toNat = 9) :
    Calls Tryz.prog 180 #[v, .int .u8 b.toNat] w fun e w' => ∃ v', e = .returned v' ∧ w'.ownsRow B 5 1 v' (acc ++ quoteB b).length (Lib.byteCells (acc ++ quoteB b)) ∧ Below B w w' := by
  obtain ⟨i0, hi, hz0, hz1, hz2⟩ := info_parts info5
  have key : ∀ (c : UInt8), quoteB b = [92, c] → ∀ (v' : Value) (w3 : World), w3.ownsRow B 5 1 v' (acc.length + 2) (Lib.byteCells acc ++ [.int .u8 92, .int .u8 c.toNat]) → w3.ownsRow B 5 1 v' (acc ++ quoteB b).length (Lib.byteCells (acc ++ quoteB b)) := fun c hc v' w3 h => by
    rw [hc, byteCells_append', List.length_append]; exact h
  have hex : ∃ c : UInt8, quoteB b = [92, c] ∧ (b.toNat = 34 ∧ c.toNat = 34 ∨ b.toNat = 92 ∧ c.toNat = 92 ∨ b.toNat = 10 ∧ c.toNat = 110 ∨ b.toNat = 9 ∧ c.toNat = 116) := by
    unfold quoteB
    rcases h with h | h | h | h
    · exact ⟨b, by rw [if_pos (.inl h)], .inl ⟨h, h⟩⟩
    · exact ⟨b, by rw [if_pos (.inr h)], .inr (.inl ⟨h, h⟩)⟩
    · exact ⟨110, by rw [if_neg (by omega), if_pos h], .inr (.inr (.inl ⟨h, rfl⟩))⟩
    · exact ⟨116, by rw [if_neg (by omega), if_neg (by omega), if_pos h], .inr (.inr (.inr ⟨h, rfl⟩))⟩
  obtain ⟨c, hq, hcs⟩ := hex
  have fin := key c hq
  clear key hq h
  obtain ⟨Q, hQ⟩ : ∃ Q, Q = acc ++ quoteB b := ⟨_, rfl⟩
  rw [← hQ] at fin ⊢
  have HF : Hid (∀ (v' : Value) (w3 : World), w3.ownsRow B 5 1 v' (acc.length + 2) (Lib.byteCells acc ++ [.int .u8 92, .int .u8 c.toNat]) → w3.ownsRow B 5 1 v' Q.length (Lib.byteCells Q)) := fin
  clear fin hQ
  rcases hcs with ⟨hb, hc⟩ | ⟨hb, hc⟩ | ⟨hb, hc⟩ | ⟨hb, hc⟩
  all_goals (
    rw [hb]
    rw [hc] at HF
    clear hb hc
    go_enter Tryz.func180, Tryz.ntmps180
    go_wp2_with (at_builtin; refine wpList_append_own _ rfl _ _ 82 rfl B 5 i0 (.int .u8 0) 1 1 Tryz.underlying82 hi hz0 hz1 hz2 rfl (by decide) _ _ _ rfl (hown.alloc _) ⟨w.heap.size, 0, none⟩ 2 2 [.int .u8 92, .int .u8 _] rfl rfl (cell_two_new _ _ _ _) (fun x hx => by simp at hx; rcases hx with rfl | rfl <;> rfl) (by unfold maxLen; omega) (by omega) (by simp; omega) ?_; intro v' w3 hown3 hgr3 _)
    go_ret
    exact ⟨_, rfl, HF.out _ _ hown3, Below.grown ((Below.refl _ _).alloc (by omega) _) hgr3 (by simp; omega) (fun j hj => by have := (hown.lt _ hj).1; omega)⟩)

theorem appendQuoted_any (B : Nat) (v : Value) (acc : List UInt8) (b : UInt8) (w : World) (hB : B ≤ w.heap.size) (hown : w.ownsRow B 5 1 v acc.length (Lib.byteCells acc)) (hn : acc.length ≤ 70368744177664) :
    Calls Tryz.prog 180 #[v, .int .u8 b.toNat] w fun e w' => ∃ v', e = .returned v' ∧ w'.ownsRow B 5 1 v' (acc ++ quoteB b).length (Lib.byteCells (acc ++ quoteB b)) ∧ Below B w w' := by
  by_cases h1 : b.toNat = 34 ∨ b.toNat = 92
  · exact appendQuoted_two B v acc b w hB hown hn (by omega)
  by_cases h2 : b.toNat = 10
  · exact appendQuoted_two B v acc b w hB hown hn (by omega)
  by_cases h3 : b.toNat = 9
  · exact appendQuoted_two B v acc b w hB hown hn (by omega)
  by_cases h4 : b.toNat < 32 ∨ 126 < b.toNat
  · exact appendQuoted_hex B v acc b w hB hown hn h1 h2 h3 h4
  · exact appendQuoted_plain B v acc b w hB hown hn (by unfold quoteB; rw [if_neg h1, if_neg h2, if_neg h3, if_neg h4])


set_option maxRecDepth 100000 in
set_option maxHeartbeats 1000000 in
theorem quote_any (s : ByteArray) (w : World) (hlim : s.size ≤ 17592186044000) :
    Calls Tryz.prog 163 #[.string s] w fun e w' => e = .returned (.string ⟨(quoteL s.data.toList).toArray⟩) ∧ Below w.heap.size w w' := by
  obtain ⟨i0, hi, hz0, hz1, hz2⟩ := info_parts info5
  obtain ⟨L, hL⟩ : ∃ L, L = s.data.toList := ⟨_, rfl⟩
  have hLs : L.length = s.size := by rw [hL]; simp
  have HL : Hid (L = s.data.toList) := hL
  rw [← hL]
  clear hL
  obtain ⟨Q, hQ⟩ : ∃ Q, Q = quoteL L := ⟨_, rfl⟩
  have HQ : Hid (Q = quoteL L) := hQ
  rw [← hQ]
  clear hQ
  go_enter Tryz.func163, Tryz.ntmps163
  go_wp2_with (first | (at_make; refine wpList_make_own _ rfl _ _ 82 rfl w.heap.size 5 i0 (.int .u8 0) 1 Tryz.underlying82 hi hz0 hz1 .i64 .i64 _ (s.size + 2) rfl rfl (by simp) (by rw [hz2]; omega) (by unfold maxLen; omega) (Nat.le_refl _) ?_; intro w1 hown1 hgr1; have hsz1 : w.heap.size ≤ w1.heap.size := hgr1.size) | (at_builtin; refine wpList_append_own _ rfl _ _ 82 rfl w.heap.size 5 i0 (.int .u8 0) 1 1 Tryz.underlying82 hi hz0 hz1 hz2 rfl (by decide) _ _ _ rfl (hown1.alloc _) ⟨w1.heap.size, 0, none⟩ 1 1 [.int .u8 34] rfl rfl (cell_one_new _ _ _) (fun x hx => by simp at hx; subst hx; rfl) (by unfold maxLen; omega) (by omega) (by simp; omega) ?_; intro v2 w2 hown2 hgr2 _))
  have hb1 : Below w.heap.size w w1 := Below.grown (Below.refl _ _) hgr1 (Nat.le_refl _) (fun j hj => by cases hj)
  have hb2 : Below w.heap.size w w2 := Below.grown (hb1.alloc (by omega) _) hgr2 (by simp; omega) (fun j hj => by have := (hown1.lt _ hj).1; omega)
  clear hgr1 hgr2 hown1 hb1
  go_loopw [3, 14] (fun v i wr => ∃ k : Nat, k ≤ s.size ∧ i = .int .i64 k ∧ Below w.heap.size w wr ∧ Hid (wr.ownsRow w.heap.size 5 1 v (34 :: (L.take k).flatMap quoteB).length (Lib.byteCells (34 :: (L.take k).flatMap quoteB)))) (fun _ i _ => s.size - (intOf i).toNat)
  case atStart => exact ⟨0, Nat.zero_le _, rfl, hb2, hown2⟩
  case round =>
    obtain ⟨k, hk, rfl, hb, HO⟩ := hrel
    have hfl := flat_len (L.take k)
    have htk : (L.take k).length ≤ k := List.length_take_le _ _
    have hbs := hb.size
    have HAL : Hid ((34 :: (L.take k).flatMap quoteB).length ≤ 70368744177660) := by show _ ≤ _; rw [List.length_cons]; omega
    clear hfl htk
    by_cases hlt : k < s.size
    · have HB : Hid (s[k]'hlt = L.getD k 0) := by show _ = _; rw [HL.out, getD_byte s k hlt]
      go_wp2_with (go_at_call 180; refine (appendQuoted_any w.heap.size _ (34 :: (L.take k).flatMap quoteB) (s[k]'hlt) _ hbs HO.out (Nat.le_trans HAL.out (by decide))).mono ?_; rintro r w3 ⟨v', rfl, hown3, hb3⟩)
      go_roundw
      case rel =>
        refine ⟨k + 1, by omega, by go_num, hb.trans hb3, ?_⟩
        show World.ownsRow _ _ _ _ _ _ _
        rw [take_flat L k (by omega), ← HB.out]
        exact hown3
      case measure => simp [intOf]; omega
    · have hke : (L.take k) = L := List.take_of_length_le (by omega)
      rw [hke] at HO HAL
      clear hke
      have hown3 := HO.out
      have HM1 : Hid ((34 :: L.flatMap quoteB).length + 1 ≤ maxLen) := by have := HAL.out; show _ ≤ _; unfold maxLen; omega
      have HM2 : Hid (((34 :: L.flatMap quoteB).length + 1) * 1 ≤ 140737488355328) := by have := HAL.out; show _ ≤ _; omega
      go_wp2_with (at_builtin; refine wpList_append_own _ rfl _ _ 82 rfl w.heap.size 5 i0 (.int .u8 0) 1 1 Tryz.underlying82 hi hz0 hz1 hz2 rfl (by decide) _ _ _ rfl (hown3.alloc _) ⟨wr.heap.size, 0, none⟩ 1 1 [.int .u8 34] rfl rfl (cell_one_new _ _ _) (fun x hx => by simp at hx; subst hx; rfl) HM1.out HM2.out (by simp; omega) ?_; intro v4 w4 hown4 hgr4 _; have hcv := conv_own (t := 34 :: (L.flatMap quoteB ++ [34])) (n := (34 :: L.flatMap quoteB).length + 1) (v := v4) (w := w4) (base := w.heap.size) (by have e : Lib.byteCells (34 :: (L.flatMap quoteB ++ [34])) = Lib.byteCells (34 :: L.flatMap quoteB) ++ [.int .u8 34] := (by rw [← List.cons_append, byteCells_append']; rfl); rw [e]; exact hown4))
      go_ret
      refine ⟨?_, Below.grown (hb.alloc (by omega) _) hgr4 (by simp; omega) (fun j hj => by have := (hown3.lt _ hj).1; omega)⟩
      rw [HQ.out]
      rfl
end Go.Proofs.YthbnegggohegkaaGreatDoor
namespace Go.Proofs.YthbnegggohegkaaGreatDoor
open Go.RowKit
variable {pb base L : Nat} {s : PS} {v : Value} {w w' : World}
def textG (t : ByteArray) (s : PS) : PS := if s.bs.length ≤ 60000 then putS [⟨(quoteL t.data.toList).toArray⟩] s else s
set_option maxRecDepth 100000 in
set_option maxHeartbeats 4000000 in
/-- A literal, where there is room for it. -/
theorem text_any {t : ByteArray} (hpb : pb < base) (ht : t.size ≤ 65536) : Wc 143 #[.pointer (some ⟨pb, 0, none⟩), .string t] pb base L (fun _ => True) (textG t) := by
  intro s v w hi hP hB _
  have hql : (quoteL t.data.toList).length ≤ 300000 := by
    have h1 := flat_len t.data.toList
    have h2 : t.data.toList.length = t.size := by simp
    unfold quoteL
    simp only [List.length_cons, List.length_append, List.length_nil]
    omega
  have HQ : Hid (∀ W, Calls Tryz.prog 163 #[.string t] W fun e w' => e = .returned (.string ⟨(quoteL t.data.toList).toArray⟩) ∧ Below W.heap.size W w') := fun W => quote_any t W (by omega)
  have HP : Hid _ := hP
  by_cases hf : s.bs.length ≤ 60000
  · have HE : Hid (textG t s = putS [⟨(quoteL t.data.toList).toArray⟩] s) := if_pos hf
    obtain ⟨q, hq⟩ : ∃ q : ByteArray, q = ⟨(quoteL t.data.toList).toArray⟩ := ⟨_, rfl⟩
    rw [← hq] at HQ HE
    have hqs : q.size ≤ 4000000000 := by rw [hq]; show (quoteL t.data.toList).toArray.size ≤ _; simp only [List.size_toArray]; omega
    clear hq hql hP
    go_enter Tryz.func143, Tryz.ntmps143
    go_wp2_with (first
      | (go_at_call 42; refine (full_any HP.out false (by simpa using hf)).mono ?_; rintro e w1 ⟨rfl, rfl⟩)
      | (go_at_call 163; refine (HQ.out _).mono ?_; rintro e w2 ⟨rfl, hb2⟩; have hz2 := hb2.size)
      | (go_at_call 96; refine (putc [q] (HP.out.below hb2) hpb (by omega) (al_cons hqs al_nil) (by simp) rfl).mono ?_; rintro e w3 ⟨⟨u3, rfl⟩, v3, hP3, hK3⟩))
    go_end0
    refine ⟨⟨_, rfl⟩, v3, ?_⟩
    rw [HE.out]
    exact ⟨hP3, putS_ind _ _, (PK.of (pb := pb) hb2 hB).trans hK3⟩
  · have HE : Hid (textG t s = s) := if_neg hf
    clear hql hP
    go_enter Tryz.func143, Tryz.ntmps143
    go_wp2_with (first
      | (go_at_call 42; refine (full_any HP.out true (by simpa using hf)).mono ?_; rintro e w1 ⟨rfl, rfl⟩))
    go_end0
    refine ⟨⟨_, rfl⟩, v, ?_⟩
    rw [HE.out]
    exact ⟨HP.out, rfl, PK.refl _ _ _⟩
end Go.Proofs.YthbnegggohegkaaGreatDoor
namespace Go.Proofs.YthbnegggohegkaaGreatDoor
open Go.RowKit
variable {f : Nat} {T : MT} {g : PS → PS}
theorem Wx.expr (h : Wx 132 f T g) : ∃ g', Wx 71 f T g' := by
  refine ⟨?g, ?h⟩
  case h =>
    intro L pb base hL hpb x hx
    have r := expr_any (h L pb base hL hpb x hx) hpb
    rw [hx.same.1] at r
    exact r
theorem Wx.first (h : Wx 132 f T g) : ∃ g', Wx 149 f T g' := by
  refine ⟨?g, ?h⟩
  case h =>
    intro L pb base hL hpb x hx
    have r := first_any (h L pb base hL hpb x hx) hpb
    rw [hx.same.1, hx.lev] at r
    exact r
theorem Wx.head (h : Wx 71 f T g) : ∃ g', Wx 134 f T g' := ⟨_, fun L pb base hL hpb x hx => head_any hpb (h L pb base hL hpb x hx)⟩
theorem Wx.citem (hk : (T.kind == 15) = false) (h : Wx 71 f T g) : ∃ g', Wx 138 f T g' := ⟨_, fun L pb base hL hpb x hx => caseItem_e (by rw [hx.same.1]; exact hk) (h L pb base hL hpb x hx) hpb⟩
theorem WK.list {fn : Nat} {ts : List MT} {gs : Nat → PS → PS} (h : WK fn f ts gs) (hE : Ent fn) (hfew : ts.length ≤ 20000) : ∀ L pb base, L + f ≤ 1000 → pb < base → ∀ ys : List MT, ys.length = ts.length → (∀ (i : Nat) (hi : i < ts.length) (hx : i < ys.length), Lk f ts[i] ys[i]) → ∀ p c, Wc 70 #[.pointer (some ⟨pb, 0, none⟩), .slice p ys.length c, .func (.func fn) #[.pointer (some ⟨pb, 0, none⟩)] #[]] pb base L (Kd pb p ys) (listG gs ts.length) := by
  intro L pb base hL hpb ys hl hk p c
  rw [← hl]
  exact listW_any hpb (by omega) (h L pb base hL hpb ys hl hk) hE
theorem WK.inside {fn : Nat} {ts : List MT} {gs : Nat → PS → PS} (h : WK fn f ts gs) (hE : Ent fn) (hfew : ts.length ≤ 20000) : ∃ g, ∀ L pb base, L + (f + 1) ≤ 1000 → pb < base → ∀ ys : List MT, ys.length = ts.length → (∀ (i : Nat) (hi : i < ts.length) (hx : i < ys.length), Lk f ts[i] ys[i]) → ∀ p c, Wc 97 #[.pointer (some ⟨pb, 0, none⟩), .slice p ys.length c, .func (.func fn) #[.pointer (some ⟨pb, 0, none⟩)] #[]] pb base L (Kd pb p ys) g := by
  refine ⟨fun s => putS [⟨#[125]⟩] (tabs s.ind { (linesG gs ts.length { (putS [⟨#[123, 10]⟩] s) with ind := s.ind + 1 }) with ind := s.ind }), ?_⟩
  intro L pb base hL hpb ys hl hk p c
  rw [← hl]
  exact inside_any hpb (by omega) (by omega) (h (L + 1) pb base (by omega) hpb ys hl hk) hE
/-- What is known of a tree that is right where it stands: its writers. -/
structure PP (f rl : Nat) (T : MT) : Prop where
  sm : T.text.size ≤ 65536
  few : T.kids.length ≤ 20000
  plain : takesB 18 T.kind = true → rl ≠ 24 → ∃ g, Wx 132 f T g
  stmt : takesB 12 T.kind = true → ∃ g, Wx 73 f T g
  block : T.kind = 17 → ∃ g, Wx 102 f T g
  stmts : T.kind = 17 → ∃ gs : Nat → PS → PS, ∀ L pb base, L + f ≤ 1001 → pb < base → ∀ x, Lk f T x → ∀ (i : Nat) (hi : i < x.kids.length), Wf 73 pb base L x.kids[i] (gs i)
  params : T.kind = 13 → ∃ g, ∀ L pb base, L + f ≤ 1000 → pb < base → ∀ x, Lk f T x → Wc 70 #[.pointer (some ⟨pb, 0, none⟩), .slice x.ptr x.kids.length x.cap, .func (.func 71) #[.pointer (some ⟨pb, 0, none⟩)] #[]] pb base L (Kd pb x.ptr x.kids) g
  decl : takesB 2 T.kind = true → ∃ g, Wx 65 f T g
  spart : takesB 3 T.kind = true → ∃ g, Wx 67 f T g
  ppart : takesB 4 T.kind = true → ∃ g, Wx 68 f T g
  recv : T.kind = 12 → ∃ g, Wx 69 f T g
  tname : takesB 7 T.kind = true → ∃ g, Wx 72 f T g
  case_ : T.kind = 27 → ∃ g, Wx 74 f T g
  pair : T.kind = 40 → ∃ g, Wx 75 f T g
  chead : takesB 23 T.kind = true → ∃ g, Wx 110 f T g
  citem : takesB 18 T.kind = true ∨ takesB 26 T.kind = true → rl ≠ 24 → ∃ g, Wx 138 f T g
  own : rl ≠ 24 → ∃ g, Wx 41 f T g
/-- What is known of a node's Kids. -/
def KP (f : Nat) (S : Shp) (ks : List MT) : Prop := ∀ (i : Nat) (hi : i < ks.length), PP f (roleAt S i) ks[i] ∧ takesB (roleAt S i) ks[i].kind = true
theorem sub_18 {r : Nat} (hr : r = 14 ∨ r = 15 ∨ r = 16 ∨ r = 17 ∨ r = 30 ∨ r = 9) {k : Int} (h : takesB r k = true) : takesB 18 k = true := by
  have h2 := takes_range h
  have : (kindsN 18).testBit k.toNat = true := by
    rcases hr with rfl | rfl | rfl | rfl | rfl | rfl
    all_goals exact takes_at _ (fun n => (kindsN 18).testBit n) (by decide +kernel) h
  unfold takesB
  rw [this]
  simp [h2.1, h2.2.1]
theorem sub_19 {k : Int} (h : takesB 19 k = true) (h16 : ¬ k = 16) : takesB 18 k = true := by
  have h2 := takes_range h
  have : (k.toNat == 16 || (kindsN 18).testBit k.toNat) = true := takes_at 19 (fun n => n == 16 || (kindsN 18).testBit n) (by decide +kernel) h
  have e : (k.toNat == 16) = false := by simp; omega
  rw [e, Bool.false_or] at this
  unfold takesB
  rw [this]
  simp [h2.1, h2.2.1]
theorem sub_13 {k : Int} (h : takesB 13 k = true) (h16 : ¬ k = 16) : takesB 12 k = true := by
  have h2 := takes_range h
  have : (k.toNat == 16 || (kindsN 12).testBit k.toNat) = true := takes_at 13 (fun n => n == 16 || (kindsN 12).testBit n) (by decide +kernel) h
  have e : (k.toNat == 16) = false := by simp; omega
  rw [e, Bool.false_or] at this
  unfold takesB
  rw [this]
  simp [h2.1, h2.2.1]
theorem sub_7 {r : Nat} (hr : r = 25 ∨ r = 26 ∨ r = 27 ∨ r = 9 ∨ r = 5) {k : Int} (h : takesB r k = true) : takesB 7 k = true := by
  have h2 := takes_range h
  have : (kindsN 7).testBit k.toNat = true := by
    rcases hr with rfl | rfl | rfl | rfl | rfl
    all_goals exact takes_at _ (fun n => (kindsN 7).testBit n) (by decide +kernel) h
  unfold takesB
  rw [this]
  simp [h2.1, h2.2.1]
theorem is_17 {k : Int} (h : takesB 11 k = true) : k = 17 := by
  have h2 := takes_range h
  have : (k.toNat == 17) = true := takes_at 11 (fun n => n == 17) (by decide +kernel) h
  simp at this; omega
theorem is_13 {k : Int} (h : takesB 8 k = true) : k = 13 := by
  have h2 := takes_range h
  have : (k.toNat == 13) = true := takes_at 8 (fun n => n == 13) (by decide +kernel) h
  simp at this; omega
theorem is_12 {k : Int} (h : takesB 6 k = true) : k = 12 := by
  have h2 := takes_range h
  have : (k.toNat == 12) = true := takes_at 6 (fun n => n == 12) (by decide +kernel) h
  simp at this; omega
theorem is_27 {r : Nat} (hr : r = 21 ∨ r = 22) {k : Int} (h : takesB r k = true) : k = 27 := by
  have h2 := takes_range h
  have : (k.toNat == 27) = true := by
    rcases hr with rfl | rfl
    all_goals exact takes_at _ (fun n => n == 27) (by decide +kernel) h
  simp at this; omega
theorem is_40 {r : Nat} (hr : r = 28 ∨ r = 29) {k : Int} (h : takesB r k = true) : k = 40 := by
  have h2 := takes_range h
  have : (k.toNat == 40) = true := by
    rcases hr with rfl | rfl
    all_goals exact takes_at _ (fun n => n == 40) (by decide +kernel) h
  simp at this; omega
theorem is_23 {r : Nat} (hr : r = 23 ∨ r = 24) {k : Int} (h : takesB r k = true) : takesB 23 k = true := by
  have h2 := takes_range h
  have : (kindsN 23).testBit k.toNat = true := by
    rcases hr with rfl | rfl
    all_goals exact takes_at _ (fun n => (kindsN 23).testBit n) (by decide +kernel) h
  unfold takesB
  rw [this]
  simp [h2.1, h2.2.1]
theorem al_least {n : Nat} {rs : List Nat} {m : Nat} (h : faultSh (shAl n rs) m = 0) : n ≤ m := by
  unfold faultSh shAl at h
  by_cases hc : m < n
  · rw [if_pos hc] at h; cases h
  · omega
/-- A node that has the role of an expression alone. -/
theorem small_of {t : ByteArray} (h : t.size ≤ 65536) : t.size ≤ 4000000000 := by omega
theorem item_small {y : MT} (h : y.text.size ≤ 65536) : (itemS y).size ≤ 4000000000 := by
  unfold itemS
  split
  · decide
  · omega

theorem no_ {a : Bool} {p : Prop} (h : a = false) (h2 : a = true) : p := by rw [h] at h2; cases h2
theorem ne_ {k : Int} (j : Int) {p : Prop} (h : (k == j) = false) (h2 : k = j) : p := absurd h2 (by simpa using h)
theorem PP.ofE {rl : Nat} {k : Int} {t : ByteArray} {n a : Int} {p : Option Addr} {c : Nat} {ks : List MT} (hq : ((k == 1) = false ∧ takesB 2 k = false ∧ takesB 3 k = false ∧ (k == 11) = false ∧ (k == 12) = false ∧ (k == 13) = false ∧ (k == 15) = false ∧ (k == 16) = false ∧ takesB 12 k = false ∧ (k == 27) = false ∧ (k == 40) = false) ∧ takesB 4 k = false ∧ takesB 7 k = false ∧ takesB 23 k = false ∧ (k == 17) = false) (hsm : t.size ≤ 65536) (hfew : ks.length ≤ 20000) (hp : ∃ g, Wx 132 (f + 1) (.node k t n a p c ks) g) : PP (f + 1) rl (.node k t n a p c ks) := by
  obtain ⟨g9, h9⟩ := hp
  obtain ⟨g8, h8⟩ := h9.expr
  obtain ⟨⟨q1, q2, q3, q11, q12, q13, q15, q16, q0, q27, q40⟩, q4, q7, q23, q17⟩ := hq
  refine { sm := hsm, few := hfew, plain := fun _ _ => ⟨g9, h9⟩, stmt := no_ q0, block := ne_ 17 q17, stmts := ne_ 17 q17, params := ne_ 13 q13, decl := no_ q2, spart := no_ q3, ppart := no_ q4, recv := ne_ 12 q12, tname := no_ q7, case_ := ne_ 27 q27, pair := ne_ 40 q40, chead := no_ q23, citem := fun _ _ => h8.citem q15, own := fun _ => ?_ }
  refine ⟨?g, ?h⟩
  case h =>
    intro L pb base hL hpb x hx
    have r := h8 L pb base hL hpb x hx
    obtain ⟨a', p', c', ys, rfl, _, _⟩ := hx.node
    exact ownW_E ⟨q1, q2, q3, q11, q12, q13, q15, q16, q0, q27, q40⟩ r hpb
theorem PP.ofS {rl : Nat} {k : Int} {t : ByteArray} {n a : Int} {p : Option Addr} {c : Nat} {ks : List MT} (hq : ((k == 1) = false ∧ takesB 2 k = false ∧ takesB 3 k = false ∧ (k == 11) = false ∧ (k == 12) = false ∧ (k == 13) = false ∧ (k == 15) = false ∧ (k == 16) = false ∧ takesB 12 k = true) ∧ takesB 4 k = false ∧ takesB 7 k = false ∧ takesB 23 k = false ∧ takesB 18 k = false ∧ takesB 26 k = false ∧ (k == 17) = false ∧ (k == 27) = false ∧ (k == 40) = false) (hsm : t.size ≤ 65536) (hfew : ks.length ≤ 20000) (hp : ∃ g, Wx 73 (f + 1) (.node k t n a p c ks) g) : PP (f + 1) rl (.node k t n a p c ks) := by
  obtain ⟨g8, h8⟩ := hp
  obtain ⟨⟨q1, q2, q3, q11, q12, q13, q15, q16, q0⟩, q4, q7, q23, q18, q26, q17, q27, q40⟩ := hq
  refine { sm := hsm, few := hfew, plain := fun h _ => no_ q18 h, stmt := fun _ => ⟨g8, h8⟩, block := ne_ 17 q17, stmts := ne_ 17 q17, params := ne_ 13 q13, decl := no_ q2, spart := no_ q3, ppart := no_ q4, recv := ne_ 12 q12, tname := no_ q7, case_ := ne_ 27 q27, pair := ne_ 40 q40, chead := no_ q23, citem := fun h _ => h.elim (no_ q18) (no_ q26), own := fun _ => ?_ }
  refine ⟨?g, ?h⟩
  case h =>
    intro L pb base hL hpb x hx
    have r := h8 L pb base hL hpb x hx
    obtain ⟨a', p', c', ys, rfl, _, _⟩ := hx.node
    exact ownW_S ⟨q1, q2, q3, q11, q12, q13, q15, q16, q0⟩ r hpb
theorem PP.ofD {rl : Nat} {k : Int} {t : ByteArray} {n a : Int} {p : Option Addr} {c : Nat} {ks : List MT} (hq : ((k == 1) = false ∧ takesB 2 k = true) ∧ takesB 3 k = false ∧ takesB 4 k = false ∧ takesB 7 k = false ∧ takesB 12 k = false ∧ takesB 23 k = false ∧ takesB 18 k = false ∧ takesB 26 k = false ∧ (k == 17) = false ∧ (k == 13) = false ∧ (k == 12) = false ∧ (k == 27) = false ∧ (k == 40) = false) (hsm : t.size ≤ 65536) (hfew : ks.length ≤ 20000) (hp : ∃ g, Wx 65 (f + 1) (.node k t n a p c ks) g) : PP (f + 1) rl (.node k t n a p c ks) := by
  obtain ⟨g8, h8⟩ := hp
  obtain ⟨q2, q3, q4, q7, q0, q23, q18, q26, q17, q13, q12, q27, q40⟩ := hq
  refine { sm := hsm, few := hfew, plain := fun h _ => no_ q18 h, stmt := no_ q0, block := ne_ 17 q17, stmts := ne_ 17 q17, params := ne_ 13 q13, decl := fun _ => ⟨g8, h8⟩, spart := no_ q3, ppart := no_ q4, recv := ne_ 12 q12, tname := no_ q7, case_ := ne_ 27 q27, pair := ne_ 40 q40, chead := no_ q23, citem := fun h _ => h.elim (no_ q18) (no_ q26), own := fun _ => ?_ }
  refine ⟨?g, ?h⟩
  case h =>
    intro L pb base hL hpb x hx
    have r := h8 L pb base hL hpb x hx
    obtain ⟨a', p', c', ys, rfl, _, _⟩ := hx.node
    exact ownW_D q2 r hpb
end Go.Proofs.YthbnegggohegkaaGreatDoor
