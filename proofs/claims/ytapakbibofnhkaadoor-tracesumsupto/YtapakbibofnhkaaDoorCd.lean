/-
  What every card of this seat needs: the listed variables, that the program's own text lays them, the table that Itoa reads; from an argument's reading to events in memory.
-/
import Derived.Test.YtapakbibofnhkaaDoorCards
import Derived.Test.YtapakbibofnhkaaDoorT
import Derived.SevenTiedAt
import Derived.Carry
import Derived.ProofKit
import Derived.LaidMore
import Derived.OpenShut
import Derived.LaidHandle
import Derived.Stop.Joined
import Derived.Deep.SlicePairs
import Derived.Stop.LaidErr
import Derived.SizedLaws
namespace Go.Proofs.YtapakbibofnhkaaDoor
open Go.ChangeShapes Go.WideShapes Go.ChangeAt Go.WideMaps Go.WideElems Go.RowKit Go.Deep

theorem Tryd.own : ownKnob Tryd.prog.godebug = none := by kernel_rfl
theorem Tryd.laidOut : laidOutB Tryd.prog = true := by kernel_rfl

/-- What all rows of this seat list. -/
def laidList : List (String × DataW Unit) := [("math/bits.deBruijn32tab", Rows.laid_math_bits_deBruijn32tab), ("math/bits.deBruijn64tab", Rows.laid_math_bits_deBruijn64tab), ("internal/strconv.uint64pow10", Rows.laid_internal_strconv_uint64pow10)]

/-- The heap that the program's own text leaves meets the condition. -/
theorem door_met (os : Os) (args : Array Value) : laidMetH Tryd.prog laidList ((World.doorLaid Tryd.prog 400 os).forCall (fun _ _ => 0) ⟨#[], args, []⟩).memory := by
  rw [MakeChecks.laidMetH_plain _ _ _ (by kernel_rfl)]
  exact laidMet_of_run' 8 (by kernel_rfl) (by kernel_rfl)
theorem tTab : (Tryd.prog.globals[0]?).map (·.type) = some 96 := by kernel_rfl
theorem tab_of_laid0 {W : World} (h0 : laidMet Tryd.prog laidList W) : Tab W :=
  Lib.tabIs_of_head (zs := Lib.pow10Tab) gTab tTab Tryd.underlying96 Tryd.underlying89 (by kernel_rfl) (by kernel_rfl) h0.tail.tail
theorem tab_of_laid {W : World} (h0 : laidMetH Tryd.prog laidList W) : Tab W := by
  rw [MakeChecks.laidMetH_plain _ _ _ (by kernel_rfl)] at h0
  exact tab_of_laid0 h0

theorem cells33 : Tryd.prog.cellsOf 33 = 3 := by kernel_rfl
theorem cells3 : Tryd.prog.cellsOf 3 = 1 := by kernel_rfl
theorem cells9 : Tryd.prog.cellsOf 9 = 1 := by kernel_rfl
theorem bytes33 : Tryd.prog.bytesOf 33 = 32 := by kernel_rfl
theorem spot_of_cell {w : World} {a : Addr} {v : Value} (h : w.cell? a = some v) : a = ⟨a.block, a.off, none⟩ := by
  obtain ⟨b, o, sp⟩ := a
  cases sp with
  | none => rfl
  | some x =>
    unfold World.cell? at h
    split at h
    · simp at h
    · cases h
theorem block_of_cell {w : World} {a : Addr} {v : Value} (h : w.cell? a = some v) : a.block < w.heap.size := by
  unfold World.cell? at h
  split at h
  · rename_i h1; exact (Array.getElem?_eq_some_iff.1 h1).1
  · cases h
theorem add_flat {W : World} {a : Addr} {k : Nat} {v : Value} (h : W.cell? (a.add k) = some v) : W.cell? ⟨a.block, a.off + k, none⟩ = some v := by
  by_cases h0 : k = 0
  · have e : a.add k = a := by unfold Addr.add; rw [if_pos h0]
    rw [e] at h
    have hsp := spot_of_cell h
    rw [hsp] at h
    rw [h0]
    exact h
  · have e : a.add k = ⟨a.block, a.off + k, none⟩ := by unfold Addr.add; rw [if_neg h0]
    rw [e] at h
    exact h
set_option maxRecDepth 100000 in
/-- What reads as an event is one. -/
theorem open_ev {H : Type} {enc : TypeId × Value → H} {W : World} {base : Nat} {spare : Nat → Bool} {held : Bool} {fuel : Nat} {cs : List Value} {x : DataW H × List MemPlace}
    (h : DataW.trod enc Tryd.prog W base spare held fuel 33 cs = some x) : ∃ e : Ev, cs = [.int .i64 e.k, .int .i64 e.a, .string e.t] := by
  obtain ⟨xs, n, rfl, hxy, hlen, hxl, hfl⟩ := DataW.trod_struct Tryd.underlying33 h
  rw [cells33] at hlen
  have hxl' : xs.length = 3 := hxl
  clear hxl
  match cs, hlen, xs, hxl' with
  | [v0, v1, v2], _, [y0, y1, y2], _ =>
    have g0 := hfl 0 _ rfl
    have g1 := hfl 1 _ rfl
    have g2 := hfl 2 _ rfl
    simp [cells3, cells9] at g0 g1 g2
    obtain ⟨a, ha, _, haw⟩ := DataW.trod_int Tryd.underlying3 g0
    obtain ⟨b, hb, _, hbw⟩ := DataW.trod_int Tryd.underlying3 g1
    obtain ⟨c, hc, _, hcw⟩ := DataW.trod_string Tryd.underlying9 g2
    simp only [List.cons.injEq, and_true] at ha hb hc
    subst ha hb hc
    exact ⟨⟨a, b, c⟩, rfl⟩
theorem bulk_pos {H : Type} : ∀ d : DataW H, 1 ≤ Rows.uptoBulk d
  | .lit (.string _) => by simp [Rows.uptoBulk]
  | .lit (.int _ _) => by simp [Rows.uptoBulk]
  | .lit (.bool _) => by simp [Rows.uptoBulk]
  | .lit (.float _ _) => by simp [Rows.uptoBulk]
  | .lit .nil => by simp [Rows.uptoBulk]
  | .nil => by simp [Rows.uptoBulk]
  | .ptr _ => by simp [Rows.uptoBulk]
  | .slice _ _ => by simp [Rows.uptoBulk]
  | .agg _ => by simp [Rows.uptoBulk]
  | .iface _ _ => by simp [Rows.uptoBulk]
  | .map _ => by simp [Rows.uptoBulk]
  | .held _ => by simp [Rows.uptoBulk]
theorem bulk_all {H : Type} : ∀ l : List (DataW H), l.length ≤ Rows.uptoBulkAll l
  | [] => Nat.zero_le _
  | d :: l => by
    have h1 := bulk_pos d
    have h2 := bulk_all l
    simp only [Rows.uptoBulkAll, List.length_cons]; omega
set_option maxRecDepth 100000 in
/-- What reads as a list of events is one; how long it is, by its weight and by its bulk. -/
theorem open_evs_row {H : Type} {enc : TypeId × Value → H} {W : World} {base : Nat} {spare : Nat → Bool} {held : Bool} {fuel : Nat} {cs : List Value} {x : DataW H × List MemPlace}
    (h : DataW.trod enc Tryd.prog W base spare held fuel 22 cs = some x) : ∃ (pp : Option Addr) (l : List Ev) (c : Nat), cs = [.slice pp l.length c] ∧ l.length ≤ c ∧ EvsAt W pp l ∧ (∀ R, (x.1.weights Tryd.prog 22).all (· ≤ R) = true → l.length * 32 ≤ R) ∧ l.length ≤ Rows.uptoBulk x.1 := by
  rcases DataW.trod_slice Tryd.underlying22 h with ⟨hv, hx⟩ | ⟨a, len, cap, elems, rest, m, hm, hcs, hx, _, hl, hcap, hel, hall, _, _⟩
  · exact ⟨none, [], 0, hv, Nat.le_refl _, .inl rfl, fun _ _ => Nat.zero_le _, Nat.zero_le _⟩
  · have each : ∀ i, i < len → ∃ z : Ev, (W.cell? ⟨a.block, a.off + i * 3, none⟩ = some (.int .i64 z.k) ∧ W.cell? ⟨a.block, a.off + i * 3 + 1, none⟩ = some (.int .i64 z.a) ∧ W.cell? ⟨a.block, a.off + i * 3 + 2, none⟩ = some (.string z.t)) ∧ (i = 0 → a = ⟨a.block, a.off, none⟩ ∧ a.block < W.heap.size) := by
      intro i hi
      have key := hall i hi
      rw [List.getElem?_eq_getElem (by omega), cells33] at key
      obtain ⟨cs', h1, h2⟩ := Option.bind_eq_some_iff.1 key
      obtain ⟨z, rfl⟩ := open_ev h2
      obtain ⟨_, _, hcell⟩ := World.cells?_some h1
      have e0 := hcell 0 (by omega)
      have e1 := hcell 1 (by omega)
      have e2 := hcell 2 (by omega)
      rw [add_add] at e0 e1 e2
      simp only [Nat.add_zero, List.getElem?_cons_zero, List.getElem?_cons_succ] at e0 e1 e2
      refine ⟨z, ⟨add_flat e0, by have := add_flat e1; rwa [← Nat.add_assoc] at this, by have := add_flat e2; rwa [← Nat.add_assoc] at this⟩, fun h0 => ?_⟩
      subst h0
      have e3 : a.add (0 * 3) = a := by unfold Addr.add; rw [if_pos rfl]
      rw [e3] at e0
      exact ⟨spot_of_cell e0, block_of_cell e0⟩
    obtain ⟨f, hf⟩ := choose_lt each
    refine ⟨some a, (List.range len).map f, cap, by simpa using hcs, by simpa using hl, ?_, fun R hR => ?_, ?_⟩
    · rcases Nat.eq_zero_or_pos len with h0 | h0
      · subst h0; exact .inl rfl
      · obtain ⟨hs0, hb0⟩ := (hf 0 h0).2 rfl
        refine .inr ⟨a.block, a.off, by rw [← hs0], hb0, fun i hi => ?_⟩
        have hi' : i < len := by simpa using hi
        simpa using (hf i hi').1
    · rw [hx] at hR
      simp only [DataW.weights, Tryd.underlying22, List.all_cons, Bool.and_eq_true, decide_eq_true_eq, List.length_map, bytes33] at hR
      simp only [List.length_map, List.length_range]
      have h7 := hR.1
      have h8 : len * 32 ≤ (elems.length + rest.length) * 32 := Nat.mul_le_mul_right _ (by omega)
      omega
    · rw [hx]
      have h9 := bulk_all (elems.map (·.1))
      simp only [Rows.uptoBulk, List.length_map, List.length_range] at h9 ⊢
      omega
set_option maxRecDepth 100000 in
theorem open_evs {H : Type} {enc : TypeId × Value → H} {W : World} {base : Nat} {spare : Nat → Bool} {held : Bool} {v : Value} {x : DataW H} {ps : List MemPlace} {r : Reach} {b0 : Nat} (hval : Value.okWide Tryd.prog W r b0 22 v)
    (h : DataW.Trod enc Tryd.prog W base spare held 22 v x ps) : ∃ (pp : Option Addr) (l : List Ev) (c : Nat), v = .slice pp l.length c ∧ l.length ≤ c ∧ EvsAt W pp l ∧ (∀ R, (x.weights Tryd.prog 22).all (· ≤ R) = true → l.length * 32 ≤ R) ∧ l.length ≤ Rows.uptoBulk x := by
  obtain ⟨fuel, hf⟩ := h
  obtain ⟨pp, l, c, hv, h1, h2, h3, h4⟩ := open_evs_row hf
  refine ⟨pp, l, c, ?_, h1, h2, h3, h4⟩
  obtain ⟨ad, len, cap, rfl⟩ := okWide_slice Tryd.underlying22 hval
  simpa [Value.cells] using hv
theorem weights_small {ts : List TypeId} {H : Type} {ds : List (DataW H)} (h : (DataW.weightsEach Tryd.prog ts ds).all (· ≤ reachBytes) = true) {j : Nat} {d : DataW H} (ht : ts[j]? = some 22) (hd : ds[j]? = some d) : (d.weights Tryd.prog 22).all (· ≤ 140737488355328) = true := by
  rw [List.all_eq_true] at h ⊢
  intro n hn
  have h1 := h n (DataW.weights_mem_each ht hd n hn)
  have h2 : n ≤ reachBytes := by simpa using h1
  have h3 : reachBytes ≤ 140737488355328 := by decide
  simp only [decide_eq_true_eq]; omega
end Go.Proofs.YtapakbibofnhkaaDoor
