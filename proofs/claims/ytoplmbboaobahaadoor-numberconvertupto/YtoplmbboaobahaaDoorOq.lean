/-
  From the reading of an argument to a datum's value, with its path.
-/
import Derived.Test.YtoplmbboaobahaaDoorOd
import Derived.Test.YtoplmbboaobahaaDoorRows
import Derived.Test.YtoplmbboaobahaaDoorPt
namespace Go.Proofs.YtoplmbboaobahaaDoor
open Go.ChangeShapes Go.WideShapes Go.RowKit Go.Deep

theorem cells23 : Tryd.prog.cellsOf 23 = 1 := by kernel_rfl
theorem cells26 : Tryd.prog.cellsOf 26 = 1 := by kernel_rfl

theorem bulk_pos {H : Type} (d : DataW H) : 1 ≤ Rows.uptoBulk d := by
  cases d with
  | lit l => cases l <;> simp [Rows.uptoBulk]
  | _ => simp [Rows.uptoBulk]
theorem bulkAll_len {H : Type} : ∀ l : List (DataW H), l.length ≤ Rows.uptoBulkAll l
  | [] => by simp
  | d :: r => by
    have h1 := bulk_pos d
    have h2 := bulkAll_len r
    simp only [List.length_cons, Rows.uptoBulkAll]; omega

theorem add_block (a : Addr) (j : Nat) : (a.add j).block = a.block := by unfold Addr.add; split <;> rfl
theorem cell_lt {W : World} {a : Addr} {v : Value} (h : W.cell? a = some v) : a.block < W.heap.size := by
  unfold World.cell? at h
  by_cases hlt : a.block < W.heap.size
  · exact hlt
  · rw [Array.getElem?_eq_none (by omega)] at h; cases h

theorem open_path {H : Type} {enc : TypeId × Value → H} {W : World} {base : Nat} {spare : Nat → Bool} {held : Bool} {fuel : Nat} {cs : List Value} {x : DataW H × List MemPlace}
    (h : DataW.trod enc Tryd.prog W base spare held fuel 23 cs = some x) : ∃ (pp : Option Addr) (m c : Nat) (zs : List Int), cs = [.slice pp m c] ∧ PathAt W W.heap.size pp m zs ∧ m ≤ Rows.uptoBulk x.1 := by
  rcases open_ints Tryd.underlying23 Tryd.underlying3 cells3 h with ⟨rfl, rfl⟩ | ⟨a, len, cap, zs, rfl, _, hlc, _, hzl, rfl, hcell, _⟩
  · exact ⟨none, 0, 0, [], rfl, ⟨rfl, fun h => by omega⟩, by simp⟩
  · have hle : len ≤ zs.length := by rw [hzl]; split <;> omega
    refine ⟨some a, len, cap, zs.take len, rfl, ⟨by simp; omega, fun hpos => ⟨a, rfl, fun j u hj => ?_, fun j => ?_⟩⟩, ?_⟩
    · unfold nums at hj
      rw [List.getElem?_map] at hj
      cases hq : (zs.take len)[j]? with
      | none => rw [hq] at hj; cases hj
      | some z =>
        rw [hq] at hj
        obtain rfl : Value.int .i64 z = u := by simpa using hj
        have hjl : j < (zs.take len).length := (List.getElem?_eq_some_iff.1 hq).1
        have hj2 : j < zs.length := by simp at hjl; omega
        rw [hcell j hj2]
        have : zs[j]? = some z := by rw [List.getElem?_take] at hq; split at hq <;> simp_all
        simp [List.getD, this]
    · rw [add_block]
      have h0 := cell_lt (hcell 0 (by omega))
      rwa [add_block] at h0
    · have h1 := bulkAll_len (lits (H := H) .i64 (zs.take len))
      simp only [Rows.uptoBulk]
      have h2 : (lits (H := H) .i64 (zs.take len)).length = len := by simp [lits]; omega
      omega

set_option maxRecDepth 100000 in
/-- What reads as a datum is one. -/
theorem open_datumP {H : Type} {enc : TypeId × Value → H} {W : World} {base : Nat} {spare : Nat → Bool} {held : Bool} {v : Value} {d : DataW H} {ps : List MemPlace}
    (h : DataW.Trod enc Tryd.prog W base spare held 28 v d ps) : ∃ (k : Int) (t : ByteArray) (n f : Int) (s : ByteArray) (r0 r1 r2 r3 : Int) (pp : Option Addr) (m c : Nat) (zs : List Int) (ip : Option Addr) (il ic : Nat), v = D k t n f s r0 r1 r2 r3 (.slice pp m c) (.slice ip il ic) ∧
      (-9223372036854775808 ≤ n ∧ n ≤ 9223372036854775807) ∧ (0 ≤ f ∧ f ≤ 18446744073709551615) ∧ PathAt W W.heap.size pp m zs ∧
      (Rows.uptoBulk d ≤ 1048576 → t.size ≤ 1048576 ∧ s.size ≤ 1048576 ∧ m ≤ 1048576) := by
  obtain ⟨fuel, hf⟩ := h
  obtain ⟨xs, m, rfl, hxy, hlen, hxl, hfl⟩ := DataW.trod_struct Tryd.underlying28 hf
  rw [cells28] at hlen
  have hxl' : xs.length = 7 := hxl
  clear hxl
  generalize hcv : v.cells.toList = cs at hlen hfl hf
  match cs, hlen, xs, hxl' with
  | [v0, v1, v2, v3, v4, v5, v6, v7, v8, v9, v10], _, [y0, y1, y2, y3, y4, y5, y6], _ =>
    have g0 := hfl 0 _ rfl
    have g1 := hfl 1 _ rfl
    have g2 := hfl 2 _ rfl
    have g3 := hfl 3 _ rfl
    have g4 := hfl 4 _ rfl
    have g5 := hfl 5 _ rfl
    have g6 := hfl 6 _ rfl
    simp [cells3, cells9, cells22, cells25, cells26] at g0 g1 g2 g3 g4 g5 g6
    obtain ⟨k, hk, _, _⟩ := DataW.trod_int Tryd.underlying3 g0
    obtain ⟨t, ht, hy1, _⟩ := DataW.trod_string Tryd.underlying9 g1
    obtain ⟨n, hn, _, hnw⟩ := DataW.trod_int Tryd.underlying3 g2
    obtain ⟨f, hff, _, hfw⟩ := DataW.trod_int Tryd.underlying22 g3
    obtain ⟨s, hs, hy4, _⟩ := DataW.trod_string Tryd.underlying9 g4
    obtain ⟨zs, m2, rfl, hzy, _, hzl, hfl2⟩ := DataW.trod_struct Tryd.underlying25 g5
    obtain ⟨ip, il, ic, hi⟩ : ∃ ip il ic, v10 = .slice ip il ic := by
      rcases open_slice Tryd.underlying26 g6 with ⟨e, _⟩ | ⟨a, len, cap, _, _, _, _, e, _⟩
      · simp at e; exact ⟨_, _, _, e⟩
      · simp at e; exact ⟨_, _, _, e⟩
    have hzl' : zs.length = 5 := hzl
    match zs, hzl' with
    | [z0, z1, z2, z3, z4], _ =>
      have e0 := hfl2 0 _ rfl
      have e1 := hfl2 1 _ rfl
      have e2 := hfl2 2 _ rfl
      have e3 := hfl2 3 _ rfl
      have e4 := hfl2 4 _ rfl
      simp [cells3, cells23] at e0 e1 e2 e3 e4
      obtain ⟨r0, hr0, _, _⟩ := DataW.trod_int Tryd.underlying3 e0
      obtain ⟨r1, hr1, _, _⟩ := DataW.trod_int Tryd.underlying3 e1
      obtain ⟨r2, hr2, _, _⟩ := DataW.trod_int Tryd.underlying3 e2
      obtain ⟨r3, hr3, _, _⟩ := DataW.trod_int Tryd.underlying3 e3
      obtain ⟨pp, pm, pc, pz, hpp, hpath, hpm⟩ := open_path e4
      simp only [List.cons.injEq, and_true] at hk ht hn hff hs hr0 hr1 hr2 hr3 hpp
      subst hk ht hn hff hs hr0 hr1 hr2 hr3 hpp hi
      refine ⟨k, t, n, f, s, r0, r1, r2, r3, pp, pm, pc, pz, ip, il, ic, ?_, ?_, ?_, hpath, ?_⟩
      · have hc : v.cells = #[.int .i64 k, .string t, .int .i64 n, .int .u64 f, .string s, .int .i64 r0, .int .i64 r1, .int .i64 r2, .int .i64 r3, .slice pp pm pc, .slice ip il ic] := Array.toList_inj.1 hcv
        cases v <;> simp [Value.cells] at hc
        rename_i cs
        rw [hc]; rfl
      · simp [Lit.wf, show IntKind.i64.min = -9223372036854775808 by decide, show IntKind.i64.max = 9223372036854775807 by decide] at hnw; exact hnw
      · simp [Lit.wf, show IntKind.u64.min = 0 by decide, show IntKind.u64.max = 18446744073709551615 by decide] at hfw; exact hfw
      · intro hw
        have hd : d = .agg ([y0, y1, y2, y3, y4, y5, y6].map (·.1)) := congrArg Prod.fst hxy
        have hd5 : y5.1 = .agg ([z0, z1, z2, z3, z4].map (·.1)) := congrArg Prod.fst hzy
        subst hd
        simp only [List.map_cons, List.map_nil, Rows.uptoBulk, Rows.uptoBulkAll, hy1, hy4, hd5] at hw
        have e1 : t.data.toList.length = t.size := by simp
        have e2 : s.data.toList.length = s.size := by simp
        omega
end Go.Proofs.YtoplmbboaobahaaDoor
