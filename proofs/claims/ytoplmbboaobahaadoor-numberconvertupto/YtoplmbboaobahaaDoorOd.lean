/-
  From the reading of an argument to a datum's value.
-/
import Derived.Test.YtoplmbboaobahaaDoorA
import Derived.Deep.Slices
import GoSem.ClaimJoined
namespace Go.Proofs.YtoplmbboaobahaaDoor
open Go.ChangeShapes Go.WideShapes Go.RowKit Go.Deep

theorem cells28 : Tryd.prog.cellsOf 28 = 11 := by kernel_rfl
theorem cells25 : Tryd.prog.cellsOf 25 = 5 := by kernel_rfl
theorem cells22 : Tryd.prog.cellsOf 22 = 1 := by kernel_rfl
theorem cells3 : Tryd.prog.cellsOf 3 = 1 := by kernel_rfl
theorem cells9 : Tryd.prog.cellsOf 9 = 1 := by kernel_rfl

set_option maxRecDepth 100000 in
/-- What reads as a datum is one. -/
theorem open_datum {H : Type} {enc : TypeId × Value → H} {W : World} {base : Nat} {spare : Nat → Bool} {held : Bool} {v : Value} {d : DataW H} {ps : List MemPlace}
    (h : DataW.Trod enc Tryd.prog W base spare held 28 v d ps) : ∃ (k : Int) (t : ByteArray) (n f : Int) (s : ByteArray) (r0 r1 r2 r3 : Int) (p i : Value), v = D k t n f s r0 r1 r2 r3 p i ∧
      (-9223372036854775808 ≤ n ∧ n ≤ 9223372036854775807) ∧ (0 ≤ f ∧ f ≤ 18446744073709551615) ∧
      ((d.weights Tryd.prog 28).all (· ≤ reachBytes) = true → t.size ≤ 140737488351232 ∧ s.size ≤ 140737488351232) := by
  obtain ⟨fuel, hf⟩ := h
  obtain ⟨xs, m, rfl, hxy, hlen, hxl, hfl⟩ := DataW.trod_struct Tryd.underlying28 hf
  rw [cells28] at hlen
  have hxl' : xs.length = 7 := hxl
  clear hxl
  generalize hcv : v.cells.toList = cs at hlen hfl hf
  match cs, hlen, xs, hxl' with
  | [v0, v1, v2, v3, v4, v5, v6, v7, v8, v9, v10], _, [y0, y1, y2, y3, y4, y5, y6], _ =>
    have g0 := hfl 0 _ rfl
    have g1 := hfl 1 _ rfl
    have g2 := hfl 2 _ rfl
    have g3 := hfl 3 _ rfl
    have g4 := hfl 4 _ rfl
    have g5 := hfl 5 _ rfl
    simp [cells3, cells9, cells22, cells25] at g0 g1 g2 g3 g4 g5
    obtain ⟨k, hk, _, _⟩ := DataW.trod_int Tryd.underlying3 g0
    obtain ⟨t, ht, hy1, _⟩ := DataW.trod_string Tryd.underlying9 g1
    obtain ⟨n, hn, _, hnw⟩ := DataW.trod_int Tryd.underlying3 g2
    obtain ⟨f, hff, _, hfw⟩ := DataW.trod_int Tryd.underlying22 g3
    obtain ⟨s, hs, hy4, _⟩ := DataW.trod_string Tryd.underlying9 g4
    obtain ⟨zs, m2, rfl, _, _, hzl, hfl2⟩ := DataW.trod_struct Tryd.underlying25 g5
    have hzl' : zs.length = 5 := hzl
    match zs, hzl' with
    | [z0, z1, z2, z3, z4], _ =>
      have e0 := hfl2 0 _ rfl
      have e1 := hfl2 1 _ rfl
      have e2 := hfl2 2 _ rfl
      have e3 := hfl2 3 _ rfl
      simp [cells3] at e0 e1 e2 e3
      obtain ⟨r0, hr0, _, _⟩ := DataW.trod_int Tryd.underlying3 e0
      obtain ⟨r1, hr1, _, _⟩ := DataW.trod_int Tryd.underlying3 e1
      obtain ⟨r2, hr2, _, _⟩ := DataW.trod_int Tryd.underlying3 e2
      obtain ⟨r3, hr3, _, _⟩ := DataW.trod_int Tryd.underlying3 e3
      simp only [List.cons.injEq, and_true] at hk ht hn hff hs hr0 hr1 hr2 hr3
      subst hk ht hn hff hs hr0 hr1 hr2 hr3
      refine ⟨k, t, n, f, s, r0, r1, r2, r3, v9, v10, ?_, ?_, ?_, ?_⟩
      · have hc : v.cells = #[.int .i64 k, .string t, .int .i64 n, .int .u64 f, .string s, .int .i64 r0, .int .i64 r1, .int .i64 r2, .int .i64 r3, v9, v10] := Array.toList_inj.1 hcv
        cases v <;> simp [Value.cells] at hc
        rename_i cs
        rw [hc]; rfl
      · simp [Lit.wf, show IntKind.i64.min = -9223372036854775808 by decide, show IntKind.i64.max = 9223372036854775807 by decide] at hnw; exact hnw
      · simp [Lit.wf, show IntKind.u64.min = 0 by decide, show IntKind.u64.max = 18446744073709551615 by decide] at hfw; exact hfw
      · intro hw
        have hd : d = .agg ([y0, y1, y2, y3, y4, y5, y6].map (·.1)) := congrArg Prod.fst hxy
        subst hd
        simp only [DataW.weights, Tryd.underlying28, List.map_cons, List.map_nil, DataW.weightsEach, List.all_append, Bool.and_eq_true] at hw
        have w1 := hw.2.1
        have w4 := hw.2.2.2.2.1
        rw [hy1] at w1
        rw [hy4] at w4
        simp [DataW.weights, reachBytes] at w1 w4
        exact ⟨of_decide_eq_true w1, of_decide_eq_true w4⟩
end Go.Proofs.YtoplmbboaobahaaDoor
