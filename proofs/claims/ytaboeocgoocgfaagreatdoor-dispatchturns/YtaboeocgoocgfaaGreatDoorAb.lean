/-
  A cache asked three times.
-/
import Derived.Test.YtaboeocgoocgfaaGreatDoorAa
namespace Go.Proofs.YtaboeocgoocgfaaGreatDoor
open Go.RowKit Go.ChangeMaps

section
variable {w : World} {b : Nat} {es : Array MapEntry} {clk : Nat} {key : Value}
theorem lookQ_yes (hb : w.heap[b]? = some (.map es clk)) (hc : ∀ q, (Instr.checkKey q 10000 69 key).run Tryz.prog w = .ok () w) {i : Nat} {v : Value} (hf : (Instr.findKey 69 key es.toList).run Tryz.prog w = .ok (some (i, v)) w) :
    (Instr.lookup 67 (.map (some b)) key true).run Tryz.prog w = .ok (.tuple #[v, .bool true]) w := by
  simp [Instr.lookup, run_underlying Tryz.underlying67, MapKept.run_getObj_map hb, hc, hf, Result.andThen]
theorem lookQ_no (hb : w.heap[b]? = some (.map es clk)) (hc : ∀ q, (Instr.checkKey q 10000 69 key).run Tryz.prog w = .ok () w) (hf : (Instr.findKey 69 key es.toList).run Tryz.prog w = .ok none w) :
    (Instr.lookup 67 (.map (some b)) key true).run Tryz.prog w = .ok (.tuple #[.pointer none, .bool false]) w := by
  simp [Instr.lookup, run_underlying Tryz.underlying67, MapKept.run_getObj_map hb, hc, hf, Tryz.zeroValue70, Result.andThen]
theorem updQ (hb : w.heap[b]? = some (.map es clk)) (hc : ∀ q, (Instr.checkKey q 10000 69 key).run Tryz.prog w = .ok () w) (hf : (Instr.findKey 69 key es.toList).run Tryz.prog w = .ok none w) (v : Value) :
    (Instr.mapUpdate 67 (.map (some b)) key v).run Tryz.prog w = .ok () (ChangeMaps.setBlock w b (.map (es.push ⟨key, v, clk⟩) (clk + 1))) := by
  simp [Instr.mapUpdate, run_underlying Tryz.underlying67, MapKept.run_getObj_map hb, hc, hf, MapKept.run_setObj_map _ hb, Result.andThen, ChangeMaps.setBlock]
end
theorem ck1 (W : World) (q : Bool) : (Instr.checkKey q 10000 69 (.agg #[.int .i64 0, .string ⟨#[65]⟩, .bool false, .string ⟨#[120]⟩])).run Tryz.prog W = .ok () W := by kernel_rfl
theorem ck2 (W : World) (q : Bool) : (Instr.checkKey q 10000 69 (.agg #[.int .i64 1, .string ⟨#[65]⟩, .bool false, .string ⟨#[101, 114, 114, 111, 114]⟩])).run Tryz.prog W = .ok () W := by kernel_rfl
theorem fk0 (W : World) : (Instr.findKey 69 (.agg #[.int .i64 0, .string ⟨#[65]⟩, .bool false, .string ⟨#[120]⟩]) []).run Tryz.prog W = .ok none W := by kernel_rfl
theorem fk1 (W : World) (eb : Nat) : (Instr.findKey 69 (.agg #[.int .i64 0, .string ⟨#[65]⟩, .bool false, .string ⟨#[120]⟩]) [⟨.agg #[.int .i64 0, .string ⟨#[65]⟩, .bool false, .string ⟨#[120]⟩], .pointer (some ⟨eb, 0, none⟩), 0⟩]).run Tryz.prog W = .ok (some (0, .pointer (some ⟨eb, 0, none⟩))) W := by kernel_rfl
theorem fk2 (W : World) (eb : Nat) : (Instr.findKey 69 (.agg #[.int .i64 1, .string ⟨#[65]⟩, .bool false, .string ⟨#[101, 114, 114, 111, 114]⟩]) [⟨.agg #[.int .i64 0, .string ⟨#[65]⟩, .bool false, .string ⟨#[120]⟩], .pointer (some ⟨eb, 0, none⟩), 0⟩]).run Tryz.prog W = .ok none W := by kernel_rfl
theorem lenQ (W : World) (b : Nat) (es : Array MapEntry) (clk ty : Nat) (hb : W.heap[b]? = some (.map es clk)) (_hl : es.size ≤ 100) : (Builtin.len_ #[67] ty #[.map (some b)]).run Tryz.prog W = .ok (.int .i64 (es.size : Int)) W := by
  simp [Builtin.len_, MapKept.run_getObj_map hb, Result.andThen]
  rfl
end Go.Proofs.YtaboeocgoocgfaaGreatDoor
