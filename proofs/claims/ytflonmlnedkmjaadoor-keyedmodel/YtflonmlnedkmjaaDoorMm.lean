/-
  clear, at a row of heads; what stays of a map.
-/
import Derived.Test.YtflonmlnedkmjaaDoorMlJ
import Derived.Test.YtflonmlnedkmjaaDoorMk
import Derived.Test.YtflonmlnedkmjaaDoorMiJ
namespace Go.Proofs.YtflonmlnedkmjaaDoor
open Go.RowKit Go.Shelf
theorem infoR : (Tryd.prog.info? 112).map (fun i => (i.zero, i.size, i.bytes)) = some (some (.agg #[.pointer none, .pointer none, .pointer none, .pointer none, .pointer none, .pointer none, .pointer none, .pointer none]), 8, 64) := by kernel_rfl
theorem infoR_parts : ∃ i, Tryd.prog.info? 112 = some i ∧ i.zero = some (.agg #[.pointer none, .pointer none, .pointer none, .pointer none, .pointer none, .pointer none, .pointer none, .pointer none]) ∧ i.size = 8 ∧ i.bytes = 64 := by
  have h := infoR
  cases hi : Tryd.prog.info? 112 with
  | none => rw [hi] at h; cases h
  | some i => rw [hi] at h; simp at h; exact ⟨i, rfl, h.1, h.2.1, h.2.2⟩
theorem zeros_row (n : Nat) : (Builtin.zeroCells #[.pointer none, .pointer none, .pointer none, .pointer none, .pointer none, .pointer none, .pointer none, .pointer none] n).toList = List.replicate (n * 8) (.pointer none) := by
  apply List.ext_getElem
  · simp [Builtin.zeroCells]
  · intro i h1 h2
    have hm : i % 8 < 8 := Nat.mod_lt _ (by decide)
    simp [Builtin.zeroCells]
    match i % 8, hm with
    | 0, _ => rfl
    | 1, _ => rfl
    | 2, _ => rfl
    | 3, _ => rfl
    | 4, _ => rfl
    | 5, _ => rfl
    | 6, _ => rfl
    | 7, _ => rfl
theorem run_clear (w : World) (g k cap : Nat) (cur : Array Value) (ty : TypeId) (hg : w.heap[g]? = some (.cells cur 112 (0, 0))) (hn : (k + 1) * 8 ≤ cur.size) :
    (Builtin.clear_ #[63] ty #[.slice (some ⟨g, 0, none⟩) (k + 1) cap]).run Tryd.prog w = .ok (.tuple #[]) (w.setRow g (List.replicate ((k + 1) * 8) (Value.pointer none) ++ cur.toList.drop ((k + 1) * 8)).toArray) := by
  obtain ⟨i, hi, hz, _, _⟩ := infoR_parts
  have hs := run_storeCells_at (P := Tryd.prog) g 0 112 (List.replicate ((k + 1) * 8) (.pointer none)) 0 cur w hg (by simpa using hn) (fun v hv => by rw [List.eq_of_mem_replicate hv]; rfl)
  simp only [Builtin.clear_]
  simp [run_underlying Tryd.underlying63, zeroValue, typeInfo, hi, hz, Value.cells]
  rw [zeros_row]
  simp at hs
  simp [hs]
theorem wpListIn_clear {F : Fence} {n : Nat} {P : Program} {w w' : World} {ops : Array Oper} {rest : List Oper} {o : Oper} {a : Act} {Q : Exit → Act → World → Prop}
    (hg : o.guard = none) (s : Operand) (t : TypeId) (hop : o.op = Op.call { callee := Callee.builtin Builtin.clear, args := #[s], argTypes := #[t] })
    (v r : Value) (hs : a.eval s = v) (hrun : (Builtin.clear_ #[t] o.type #[v]).run P w = .ok r w') (hK : wpListIn F n P ops Q rest (a.put o.dst r) w') :
    wpListIn F n P ops Q (o :: rest) a w := by
  refine wpListIn_plain hg fun K hK' => ?_
  unfold Oper.wpIn
  refine ⟨?_, ?_⟩
  · simp [Oper.about, hop, resolve, Target.leads, Sem.run_pure]
  · rw [Oper.semAt_plain F _ _ (by rw [hop]; intro c hc'; cases hc')]
    simp [execOp, hop, resolve, invoke, builtin, hs, hrun, Result.andThen]
    exact hK' _ _ hK
variable {n : Nat} {w w' : World} {m : Nat} {es : List Ent} {G : KG} {S : Nat → Prop}
theorem KMp.keep (h : KMp n w m es G S) (k : Below w.heap.size w w') : KMp n w' m es G S := by
  have kk : KeepS (fun _ => False) w w' := Below.keepS _ k
  have hs : ∀ (g : Nat) (c : Array Value) (t : TypeId), (t = 3 ∨ t = 39) → w.heap[g]? = some (.cells c t (0, 0)) → ¬ (fun _ : Nat => False) g := fun _ _ _ _ _ h => h
  obtain ⟨ct, hm⟩ := h.map
  obtain ⟨cur, h1, h2, h3⟩ := h.heads
  exact ⟨⟨ct, kk.cells hm (fun h => h)⟩, h.L1, h.Lc, h.Lm, h.capm, ⟨cur, kk.cells h1 (fun h => h), h2, h3⟩, kk.cells h.ring (fun h => h), fun e he => kk.cells (h.ent e he) (fun h => h), fun e he => ⟨(h.box e he).1.keep kk hs, (h.box e he).2.keep kk hs⟩, h.adj, h.nod, h.chain, h.key, h.apart⟩
theorem Below.setBoth {B : Nat} {a b : World} (h : Below B a b) (g o : Nat) (v : Value) (_hg : g < B) : Below B (a.setCell ⟨g, o, none⟩ v) (b.setCell ⟨g, o, none⟩ v) := by
  refine ⟨h.os, h.tape, h.output, by simpa using h.size, fun k hk => ?_⟩
  by_cases hkg : k = g
  · subst hkg
    have := h.block k hk
    simp only [World.setCell, Array.getElem?_modify]
    rw [this]
  · rw [heap_setCell_other _ _ _ _ _ hkg, heap_setCell_other _ _ _ _ _ hkg]
    exact h.block k hk
end Go.Proofs.YtflonmlnedkmjaaDoor
