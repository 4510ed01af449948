/-
  The walk of lex.endLine: the tokens, and an end behind them where the last one ends a line.
-/
import Derived.Test.YthbnegggohegkaaGreatDoorJ
namespace Go.Proofs.YthbnegggohegkaaGreatDoor
open Go.RowKit

abbrev Tok := Nat × Bytes × Nat
def tokCell (t : Tok) : List Value := [.int .i64 t.1, .string ⟨t.2.1.toArray⟩, .int .i64 t.2.2]
def tokCells (ts : List Tok) : List Value := ts.flatMap tokCell
theorem tokCells_length (ts : List Tok) : (tokCells ts).length = ts.length * 3 := by
  induction ts with
  | nil => rfl
  | cons t ts ih =>
    rw [tokCells, List.flatMap_cons, List.length_append]
    have : (List.flatMap tokCell ts).length = ts.length * 3 := ih
    rw [this]; simp [tokCell]; omega
theorem tokCells_append (a b : List Tok) : tokCells (a ++ b) = tokCells a ++ tokCells b := by simp [tokCells]
theorem tokCells_one (t : Tok) : tokCells [t] = tokCell t := by simp [tokCells]

theorem tokCells_last (init : List Tok) (t : Tok) (j : Nat) : (tokCells (init ++ [t]))[init.length * 3 + j]? = (tokCell t)[j]? := by
  rw [tokCells_append, tokCells_one, List.getElem?_append_right (by rw [tokCells_length]; omega), tokCells_length, Nat.add_sub_cancel_left]

theorem info48 : (Tryz.prog.info? 169).map (fun i => (i.zero, i.size, i.bytes)) = some (some (.agg #[.int .i64 0, .string ⟨#[]⟩, .int .i64 0]), 3, 32) := by kernel_rfl

/-- The end that a line feed, or the text's end, makes. -/
def feed (ts : List Tok) (a : Nat) : List Tok :=
  match ts.getLast? with
  | none => ts
  | some t => if endsB t.1 t.2.1 then ts ++ [(1, [], a)] else ts

theorem feed_nil (a : Nat) : feed [] a = [] := rfl
theorem feed_snoc (init : List Tok) (t : Tok) (a : Nat) : feed (init ++ [t]) a = if endsB t.1 t.2.1 then init ++ [t] ++ [(1, [], a)] else init ++ [t] := by
  simp [feed]

theorem tok_new (w : World) (k : Nat) (t : Bytes) (a : Nat) : ∀ j u, (tokCell (k, t, a))[j]? = some u → (w.alloc (.cells #[.int .i64 k, .string ⟨t.toArray⟩, .int .i64 a] 169)).cell? ((⟨w.heap.size, 0, none⟩ : Addr).add j) = some u := by
  intro j u hj
  match j with
  | 0 => simp [tokCell] at hj; subst hj; simp [Addr.add]
  | 1 => simp [tokCell] at hj; subst hj; simp [Addr.add]
  | 2 => simp [tokCell] at hj; subst hj; simp [Addr.add]
  | j + 3 => simp [tokCell] at hj

set_option maxRecDepth 100000 in
set_option maxHeartbeats 1000000 in
theorem endLine_any {gw ow gs os : Nat} (B : Nat) (v : Value) (ts : List Tok) (a : Nat) (w : World) (ht : TabsAt gw ow gs os w) (hB : B ≤ w.heap.size) (hown : w.ownsRow B 169 3 v ts.length (tokCells ts)) (hn : ts.length ≤ 70000) :
    Calls Tryz.prog 155 #[v, .int .i64 a] w fun e w' => ∃ v', e = .returned v' ∧ w'.ownsRow B 169 3 v' (feed ts a).length (tokCells (feed ts a)) ∧ Below B w w' := by
  obtain ⟨i0, hi, hz0, hz1, hz2⟩ := info_parts info48
  rcases List.eq_nil_or_concat ts with rfl | ⟨init, t, rfl⟩
  · rcases hown.2 with ⟨rfl, _⟩ | ⟨g, cap, cur, rfl, _⟩
    · go_enter Tryz.func155, Tryz.ntmps155
      go_wp2
      go_ret
      exact ⟨_, rfl, hown, Below.refl _ _⟩
    · simp only [List.length_nil] at hown ⊢
      go_enter Tryz.func155, Tryz.ntmps155
      go_wp2
      go_ret
      exact ⟨_, rfl, hown, Below.refl _ _⟩
  · rw [List.concat_eq_append] at hown hn ⊢
    obtain ⟨k, tx, at'⟩ := t
    have c0 : (tokCells (init ++ [(k, tx, at')]))[init.length * 3]? = some (.int .i64 k) := tokCells_last init (k, tx, at') 0
    have c1 : (tokCells (init ++ [(k, tx, at')]))[init.length * 3 + 1]? = some (.string ⟨tx.toArray⟩) := tokCells_last init (k, tx, at') 1
    have c2 : (tokCells (init ++ [(k, tx, at')]))[init.length * 3 + 2]? = some (.int .i64 at') := tokCells_last init (k, tx, at') 2
    have HO : Hid (w.ownsRow B 169 3 v (init ++ [(k, tx, at')]).length (tokCells (init ++ [(k, tx, at')]))) := hown
    have hlen : (init ++ [(k, tx, at')]).length = init.length + 1 := by simp
    rw [hlen] at hown hn
    rcases hown.2 with ⟨_, h0⟩ | ⟨g, cap, cur, rfl, hg, hh, hncap, hcapm, _, _⟩
    · omega
    have d0 := (hown.cellAt (init.length * 3) (by omega)).trans c0
    have d1 := (hown.cellAt (init.length * 3 + 1) (by omega)).trans c1
    have d2 := (hown.cellAt (init.length * 3 + 2) (by omega)).trans c2
    have HE : Hid (feed (init ++ [(k, tx, at')]) a = if endsB k tx then init ++ [(k, tx, at')] ++ [(1, [], a)] else init ++ [(k, tx, at')]) := feed_snoc init (k, tx, at') a
    have htx : (ByteArray.mk tx.toArray).toList = tx := by rw [ByteArray.toList_eq]
    have hg0 : (((init.length : Int) + 1) == 0) = false := by simp; omega
    have hwr : IntKind.i64.wrap (init.length : Int) = (init.length : Int) := by rw [IntKind.wrap_i64]; omega
    have hix1 : (init.length : Int) < (init.length : Int) + 1 := by omega
    have hix0 : (0 : Int) ≤ (init.length : Int) := by omega
    have cs48 : Tryz.prog.cellsOf 169 = 3 := by kernel_rfl
    go_enter Tryz.func155, Tryz.ntmps155
    go_wp2_with (first | (go_at_call 169; refine (endsLine_any _ _ _ _ ht).mono ?_; rintro r w1 ⟨rfl, hb1⟩; have hown1 := ownsRow_below hown hb1; have hB1 : B ≤ w1.heap.size := (by (have := hb1.size; omega))) | (at_builtin; refine wpList_append_own _ rfl _ _ 165 rfl B 169 i0 (.agg #[.int .i64 0, .string ⟨#[]⟩, .int .i64 0]) 3 32 Tryz.underlying165 hi hz0 hz1 hz2 rfl (by decide) _ _ _ rfl (hown1.alloc _) ⟨w1.heap.size, 0, none⟩ 1 1 (tokCell (1, [], a)) rfl rfl (tok_new _ _ _ _) (fun x hx => by simp [tokCell] at hx; rcases hx with rfl | rfl | rfl <;> rfl) (by unfold maxLen; omega) (by omega) (by simp; omega) ?_; intro v' w3 hown3 hgr3 _))
    · have he : endsB k tx = false := by have : ¬ endsB k (ByteArray.mk tx.toArray).toList = true := (by simp_all); rw [htx] at this; simpa using this
      go_ret
      refine ⟨_, rfl, ?_, hb1.mono (by omega)⟩
      rw [HE.out, he]
      have := ownsRow_below HO.out hb1
      exact this
    · have he : endsB k tx = true := by have : endsB k (ByteArray.mk tx.toArray).toList = true := (by simp_all); rw [htx] at this; exact this
      go_ret
      refine ⟨_, rfl, ?_, Below.grown ((hb1.mono (by omega)).alloc (by omega) _) hgr3 (by simp; omega) (fun j hj => by have := (hown1.lt _ hj).1; omega)⟩
      rw [HE.out, he, if_pos rfl, tokCells_append, tokCells_one, List.length_append, hlen]
      exact hown3
end Go.Proofs.YthbnegggohegkaaGreatDoor
