/-
  The walk of lex.appendQuoted at every byte.
-/
import Derived.Test.YtnpiicceafgioaaDoorN
import Derived.Deep.RegionLaw
namespace Go.Proofs.YtnpiicceafgioaaDoor
open Go.RowKit

theorem step_append_own {P : Program} {ops : Array Oper} {o : Oper} {a : Act} {w : World} {K : Act → World → Prop} {Q : Exit → Act → World → Prop} {E : Prop}
    (hg : o.guard = none) (s x : Operand) (t : TypeId) (ho : o.op = .call { callee := .builtin .append, args := #[s, x], argTypes := #[t, t] })
    (base : Nat) (e : TypeId) (i : TypeInfo) (z : Value) (size bytes : Nat) (ht : P.underlying t = some (.slice e)) (hi : P.info? e = some i) (hz : i.zero = some z)
    (hsize : i.size = size) (hby : i.bytes = bytes) (hzs : z.cells.size = size) (hsz : 0 < size)
    (v : Value) (n : Nat) (xs : List Value) (hs : a.eval s = v) (hown : w.ownsRow base e size v n xs)
    (ad : Addr) (m c : Nat) (news : List Value) (hx : a.eval x = .slice (some ad) m c) (hl : news.length = m * size) (hnews : ∀ j u, news[j]? = some u → w.cell? (ad.add j) = some u) (h1 : ∀ u ∈ news, u.oneCell' = true)
    (h63 : n + m ≤ maxLen) (hbytes : (n + m) * bytes ≤ 140737488355328) (hbase : base ≤ w.heap.size)
    (h : ∀ v' w', w'.ownsRow base e size v' (n + m) (xs ++ news) → w.grownBy w' v.ownBlock → K (a.put o.dst v') w') :
    if Region.wanted o (yielded ops a.tmps) = true then Oper.wp P o a w K Q else E := by
  have hw : Region.wanted o (yielded ops a.tmps) = true := by simp [Region.wanted, hg]
  rw [if_pos hw]
  exact wp_append_own w s x t ho base e i z size bytes ht hi hz hsize hby hzs hsz v n xs hs hown ad m c news hx hl hnews h1 h63 hbytes hbase fun v' w' h2 h3 _ => h v' w' h2 h3

theorem four_new (w : World) (a b c d : Value) (t : TypeId) : ∀ j u, [a, b, c, d][j]? = some u → (w.alloc (.cells #[a, b, c, d] t)).cell? ((⟨w.heap.size, 0, none⟩ : Addr).add j) = some u := by
  intro j u hj
  match j with
  | 0 => simp at hj; subst hj; simp [Addr.add]
  | 1 => simp at hj; subst hj; simp [Addr.add]
  | 2 => simp at hj; subst hj; simp [Addr.add]
  | 3 => simp at hj; subst hj; simp [Addr.add]
  | j + 4 => simp at hj

theorem hex_get (n : Nat) (h : n < 16) : ((ByteArray.mk #[48, 49, 50, 51, 52, 53, 54, 55, 56, 57, 97, 98, 99, 100, 101, 102])[n]'h) = hexD n := by
  have : ∀ n : Fin 16, ((ByteArray.mk #[48, 49, 50, 51, 52, 53, 54, 55, 56, 57, 97, 98, 99, 100, 101, 102])[n.val]'n.isLt) = hexD n.val := by decide
  exact this ⟨n, h⟩
theorem and_low (b : Nat) (h : b < 256) : bits BinOp.and IntKind.u8 (b : Int) 15 = ((b % 16 : Nat) : Int) := by
  have : ∀ b : Fin 256, bits BinOp.and IntKind.u8 (b.val : Int) 15 = ((b.val % 16 : Nat) : Int) := by decide +kernel
  exact this ⟨b, h⟩

set_option maxHeartbeats 1000000 in
theorem appendQuoted_hex (B : Nat) (v : Value) (acc : Bytes) (b : UInt8) (w : World) (hB : B ≤ w.heap.size) (hown : w.ownsRow B 5 1 v acc.length (Lib.byteCells acc)) (hn : acc.length ≤ 70368744177664)
    (h1 : ¬ (b.toNat = 34 ∨ b.toNat = 92)) (h2 : ¬ b.toNat = 10) (h3 : ¬ b.toNat = 9) (h4 : b.toNat < 32 ∨ 126 < b.toNat) :
    Calls Tryd.prog 39 #[v, .int .u8 b.toNat] w fun e w' => ∃ v', e = .returned v' ∧ w'.ownsRow B 5 1 v' (acc ++ quoteB b).length (Lib.byteCells (acc ++ quoteB b)) ∧ Below B w w' := by
  obtain ⟨i0, hi, hz0, hz1, hz2⟩ := info_parts info5
  have hqb : quoteB b = [92, 120, hexD (b.toNat / 16), hexD (b.toNat % 16)] := by unfold quoteB; rw [if_neg h1, if_neg h2, if_neg h3, if_pos h4]
  have e34 : ((b.toNat : Int) == 34) = false := by simp; omega
  have e92 : ((b.toNat : Int) == 92) = false := by simp; omega
  have e10 : ((b.toNat : Int) == 10) = false := by simp; omega
  have e9 : ((b.toNat : Int) == 9) = false := by simp; omega
  have hb256 := b.toNat_lt
  rw [hqb]
  obtain ⟨hd, hhd⟩ : ∃ hd, hd = b.toNat / 16 := ⟨_, rfl⟩
  obtain ⟨ld, hld⟩ : ∃ ld, ld = b.toNat % 16 := ⟨_, rfl⟩
  have y1 : (b.toNat : Int) / 16 = (hd : Int) := by omega
  have y2 : bits BinOp.and IntKind.u8 (b.toNat : Int) 15 = (ld : Int) := by rw [and_low _ hb256, hld]
  have z1 : hd < 16 := by omega
  have z2 : ld < 16 := by omega
  have z1' : (hd : Int) < 16 := by omega
  have z2' : (ld : Int) < 16 := by omega
  rw [← hhd, ← hld]
  have g1 := hex_get hd z1
  have g2 := hex_get ld z2
  clear h1 h2 h3 hqb hhd hld
  obtain ⟨c1, hc1⟩ : ∃ c1, c1 = hexD hd := ⟨_, rfl⟩
  obtain ⟨c2, hc2⟩ : ∃ c2, c2 = hexD ld := ⟨_, rfl⟩
  rw [← hc1] at g1 ⊢
  rw [← hc2] at g2 ⊢
  clear hc1 hc2
  have fin : ∀ (v' : Value) (w3 : World), w3.ownsRow B 5 1 v' (acc.length + 4) (Lib.byteCells acc ++ [.int .u8 92, .int .u8 120, .int .u8 c1.toNat, .int .u8 c2.toNat]) → w3.ownsRow B 5 1 v' (acc ++ [92, 120, c1, c2]).length (Lib.byteCells (acc ++ [92, 120, c1, c2])) := fun v' w3 h => by
    rw [byteCells_append, List.length_append]; exact h
  by_cases l32 : (b.toNat : Int) < 32
  · go_enter Tryd.func39, Tryd.ntmps39
    go_wp2
    go_region_law (refine step_append_own rfl (.tmp 35) (.tmp 42) 65 rfl B 5 i0 (.int .u8 0) 1 1 Tryd.underlying65 hi hz0 hz1 hz2 rfl (by decide) _ _ _ rfl (hown.alloc _) ⟨w.heap.size, 0, none⟩ 4 4 [.int .u8 92, .int .u8 120, .int .u8 c1.toNat, .int .u8 c2.toNat] rfl rfl (four_new w _ _ _ _ 5) (fun x hx => by simp at hx; rcases hx with rfl | rfl | rfl | rfl <;> rfl) (by unfold maxLen; omega) (by omega) (by simp; omega) ?_; intro v' w3 hown3 hgr3)
    all_goals go_wp2
    all_goals go_ret
    all_goals exact ⟨_, rfl, fin _ _ hown3, Below.grown (((Below.refl _ _).alloc (by omega) _).drew) hgr3 (by simp; omega) (fun j hj => by have := (hown.lt _ hj).1; omega)⟩
  · have l126 : (126 : Int) < b.toNat := by omega
    go_enter Tryd.func39, Tryd.ntmps39
    go_wp2
    go_region_law (refine step_append_own rfl (.tmp 35) (.tmp 42) 65 rfl B 5 i0 (.int .u8 0) 1 1 Tryd.underlying65 hi hz0 hz1 hz2 rfl (by decide) _ _ _ rfl (hown.alloc _) ⟨w.heap.size, 0, none⟩ 4 4 [.int .u8 92, .int .u8 120, .int .u8 c1.toNat, .int .u8 c2.toNat] rfl rfl (four_new w _ _ _ _ 5) (fun x hx => by simp at hx; rcases hx with rfl | rfl | rfl | rfl <;> rfl) (by unfold maxLen; omega) (by omega) (by simp; omega) ?_; intro v' w3 hown3 hgr3)
    all_goals go_wp2
    all_goals go_ret
    all_goals exact ⟨_, rfl, fin _ _ hown3, Below.grown (((Below.refl _ _).alloc (by omega) _).drew) hgr3 (by simp; omega) (fun j hj => by have := (hown.lt _ hj).1; omega)⟩

set_option maxHeartbeats 1000000 in
theorem appendQuoted_two (B : Nat) (v : Value) (acc : Bytes) (b : UInt8) (w : World) (hB : B ≤ w.heap.size) (hown : w.ownsRow B 5 1 v acc.length (Lib.byteCells acc)) (hn : acc.length ≤ 70368744177664)
    (h : b.toNat = 34 ∨ b.toNat = 92 ∨ b.toNat = 10 ∨ b.toNat = 9) :
    Calls Tryd.prog 39 #[v, .int .u8 b.toNat] w fun e w' => ∃ v', e = .returned v' ∧ w'.ownsRow B 5 1 v' (acc ++ quoteB b).length (Lib.byteCells (acc ++ quoteB b)) ∧ Below B w w' := by
  obtain ⟨i0, hi, hz0, hz1, hz2⟩ := info_parts info5
  have key : ∀ (c : UInt8), quoteB b = [92, c] → ∀ (v' : Value) (w3 : World), w3.ownsRow B 5 1 v' (acc.length + 2) (Lib.byteCells acc ++ [.int .u8 92, .int .u8 c.toNat]) → w3.ownsRow B 5 1 v' (acc ++ quoteB b).length (Lib.byteCells (acc ++ quoteB b)) := fun c hc v' w3 h => by
    rw [hc, byteCells_append, List.length_append]; exact h
  have hex : ∃ c : UInt8, quoteB b = [92, c] ∧ (b.toNat = 34 ∧ c.toNat = 34 ∨ b.toNat = 92 ∧ c.toNat = 92 ∨ b.toNat = 10 ∧ c.toNat = 110 ∨ b.toNat = 9 ∧ c.toNat = 116) := by
    unfold quoteB
    rcases h with h | h | h | h
    · exact ⟨b, by rw [if_pos (.inl h)], .inl ⟨h, h⟩⟩
    · exact ⟨b, by rw [if_pos (.inr h)], .inr (.inl ⟨h, h⟩)⟩
    · exact ⟨110, by rw [if_neg (by omega), if_pos h], .inr (.inr (.inl ⟨h, rfl⟩))⟩
    · exact ⟨116, by rw [if_neg (by omega), if_neg (by omega), if_pos h], .inr (.inr (.inr ⟨h, rfl⟩))⟩
  obtain ⟨c, hq, hcs⟩ := hex
  have fin := key c hq
  clear key hq h
  obtain ⟨Q, hQ⟩ : ∃ Q, Q = acc ++ quoteB b := ⟨_, rfl⟩
  rw [← hQ] at fin ⊢
  have HF : Hid (∀ (v' : Value) (w3 : World), w3.ownsRow B 5 1 v' (acc.length + 2) (Lib.byteCells acc ++ [.int .u8 92, .int .u8 c.toNat]) → w3.ownsRow B 5 1 v' Q.length (Lib.byteCells Q)) := fin
  clear fin hQ
  rcases hcs with ⟨hb, hc⟩ | ⟨hb, hc⟩ | ⟨hb, hc⟩ | ⟨hb, hc⟩
  all_goals (
    rw [hb]
    rw [hc] at HF
    clear hb hc
    go_enter Tryd.func39, Tryd.ntmps39
    go_wp2_with (at_builtin; refine wpList_append_own _ rfl _ _ 65 rfl B 5 i0 (.int .u8 0) 1 1 Tryd.underlying65 hi hz0 hz1 hz2 rfl (by decide) _ _ _ rfl (hown.alloc _) ⟨w.heap.size, 0, none⟩ 2 2 [.int .u8 92, .int .u8 _] rfl rfl (cell_two_new _ _ _ _) (fun x hx => by simp at hx; rcases hx with rfl | rfl <;> rfl) (by unfold maxLen; omega) (by omega) (by simp; omega) ?_; intro v' w3 hown3 hgr3 _)
    go_ret
    exact ⟨_, rfl, HF.out _ _ hown3, Below.grown ((Below.refl _ _).alloc (by omega) _) hgr3 (by simp; omega) (fun j hj => by have := (hown.lt _ hj).1; omega)⟩)

theorem appendQuoted_any (B : Nat) (v : Value) (acc : Bytes) (b : UInt8) (w : World) (hB : B ≤ w.heap.size) (hown : w.ownsRow B 5 1 v acc.length (Lib.byteCells acc)) (hn : acc.length ≤ 70368744177664) :
    Calls Tryd.prog 39 #[v, .int .u8 b.toNat] w fun e w' => ∃ v', e = .returned v' ∧ w'.ownsRow B 5 1 v' (acc ++ quoteB b).length (Lib.byteCells (acc ++ quoteB b)) ∧ Below B w w' := by
  by_cases h1 : b.toNat = 34 ∨ b.toNat = 92
  · exact appendQuoted_two B v acc b w hB hown hn (by omega)
  by_cases h2 : b.toNat = 10
  · exact appendQuoted_two B v acc b w hB hown hn (by omega)
  by_cases h3 : b.toNat = 9
  · exact appendQuoted_two B v acc b w hB hown hn (by omega)
  by_cases h4 : b.toNat < 32 ∨ 126 < b.toNat
  · exact appendQuoted_hex B v acc b w hB hown hn h1 h2 h3 h4
  · exact appendQuoted_plain B v acc b w hB hown hn (by unfold quoteB; rw [if_neg h1, if_neg h2, if_neg h3, if_neg h4])
end Go.Proofs.YtnpiicceafgioaaDoor
