/-
  The law TreeAll is proved: at any tree and any two numbers the call returns true, and all three read afterwards as they read before; the six package-level variables that it reads start as the program's text lays them.
-/
import Derived.Test.YthbnegggohegkaaGreatDoorCards
import Derived.Test.YthbnegggohegkaaGreatDoorTie
import Derived.Test.YthbnegggohegkaaGreatDoorLaid
import Derived.SevenTiedAt
import Derived.Test.YthbnegggohegkaaGreatDoorOs
import Derived.Test.YthbnegggohegkaaGreatDoorAw
namespace Go.Proofs.YthbnegggohegkaaGreatDoor
open Go.ChangeShapes Go.WideShapes Go.ChangeAt Go.WideMaps Go.WideElems Go.RowKit

theorem Tryz.laidOut : laidOutB Tryz.prog = true := by kernel_rfl

/-- The heap that the program's own text leaves meets the condition. -/
theorem door_met (os : Os) (args : Array Value) : laidMetH Tryz.prog laidList ((World.doorLaid Tryz.prog 400 os).forCall (fun _ _ => 0) ⟨#[], args, []⟩).memory :=
  laidMetH_of_parts (laidMet_of_run' (l := laidRest) 8 (by kernel_rfl) (by kernel_rfl)) (by kernel_rfl)

def node0 : Value := .agg #[.int .i64 0, .string ⟨#[]⟩, .int .i64 0, .int .i64 0, .slice none 0 0]

end Go.Proofs.YthbnegggohegkaaGreatDoor

namespace Go.Proofs.YthbnegggohegkaaGreatDoor
open Go.ChangeShapes Go.WideShapes Go.ChangeAt Go.WideMaps Go.WideElems Go.RowKit

set_option maxRecDepth 100000 in
theorem treeAll_lifted (os : Os) (started : os.Started) (H : Type) (enc : TypeId × Value → H) :
    ReturnsInHanded {} Tryz.checked os 5 .any (fun w args => (Rows.treeAllSpec.pre enc Tryz.prog Tryz.f5 [] false w args ∧ laidMetH Tryz.prog laidList w) ∧ sizedMet enc Tryz.prog Tryz.f5 (OpenSpec.ofChange Rows.treeAllSpec) false w args)
      (Rows.treeAllSpec.post enc Tryz.prog Tryz.f5 false true false false) := by
  refine returnsInHanded_of_change_and (C := Tryz.checked) (X := fun w _ => laidMetH Tryz.prog laidList w) (fun _ _ _ hh h => h.of_heap hh) Tryz.own started (by kernel_rfl) Tryz.func5
    (ChangeSpec.witness_shaped (enc := enc) (C := Tryz.checked) (os := os) (X := fun w _ => laidMetH Tryz.prog laidList w) false (World.doorLaid Tryz.prog 400 os) #[node0, .int .i64 0, .int .i64 0] 8 rfl (World.shaped_of_RefB (by kernel_rfl) (by kernel_rfl)) (by kernel_rfl) (by kernel_rfl) (by kernel_rfl) (door_met os _)) ?_
  intro W base args ds gs before hval0 hW _ hwt hL _
  have hval : ∀ (j : Nat) t v, Tryz.f5.params[j]? = some t → args[j]? = some v → Value.okWide Tryz.prog W .any base t v := hval0
  have hW' := hW
  obtain ⟨p, q, hA0, hV, rfl, hfz, hnd⟩ := hW
  have hA : DataW.TrodAll enc Tryz.prog W 0 (fun _ => true) true Tryz.f5.params.toList args.toList ds p := hA0
  rw [Tryz.params5] at hA hval
  obtain ⟨v0, v1, v2, d0, d1, d2, p0, p1, p2, rfl, rfl, rfl, h0, h1, h2⟩ := trodAll_three hA
  obtain ⟨rfl, rfl⟩ := trodVars_none hV
  obtain ⟨t, rfl, ht, hsm⟩ := open_tree_small h0
  obtain ⟨mo, rfl, rfl, rfl, hmo⟩ := open_int Tryz.underlying3 (hval 1 3 v1 rfl rfl) h1
  obtain ⟨at', rfl, rfl, rfl, hat⟩ := open_int Tryz.underlying3 (hval 2 3 v2 rfl rfl) h2
  obtain ⟨gw, ow, gs', os', htab⟩ := tabs_of_laid hL
  have hg := handle_of_laid hL
  have hwt' : (d0.weights Tryz.prog 24 ++ (DataW.weights Tryz.prog 3 (.lit (.int .i64 mo) : DataW H) ++ (DataW.weights Tryz.prog 3 (.lit (.int .i64 at') : DataW H) ++ []))).all (· ≤ reachBytes) = true := hwt
  rw [List.all_append, Bool.and_eq_true] at hwt'
  have hts := hsm reachBytes hwt'.1 1
  have hm2 : IntKind.i64.min ≤ mo ∧ mo ≤ 9223372036854775807 := by simpa [Lit.wf] using hmo
  have ha2 : IntKind.i64.min ≤ at' ∧ at' ≤ 9223372036854775807 := by simpa [Lit.wf] using hat
  rw [show IntKind.i64.min = -9223372036854775808 from rfl] at hm2 ha2
  clear hA0 hval0
  simp only [List.append_nil] at hW'
  have hlt0 : ∀ x ∈ p0, x.block < W.heap.size := fun x hx => hW'.lt x (by simp [hx])
  refine (allLaw_any t mo at' hm2.1 hm2.2 ha2.1 ha2.2 W htab hg ht hts).mono fun e W' ⟨he, hn⟩ => ?_
  subst he
  have k0 := Below.trod Tryz.laidOut (by kernel_rfl) (of_decide_eq_true (by kernel_rfl)) h0 hn hlt0
  have k2 := trodAll_mk3 k0 (shut_int (enc := enc) (w := W') (base := 0) (spare := fun b => decide (b < W.heap.size)) (held := true) Tryz.underlying3 hmo) (shut_int (enc := enc) (w := W') (base := 0) (spare := fun b => decide (b < W.heap.size)) (held := true) Tryz.underlying3 hat)
  rw [List.append_nil, List.append_nil] at k2
  exact ⟨_, rfl, _, _, _, [], p0, [], hW', trodAll_mk1 (shut_bool Tryz.underlying4 _), k2, rfl, hn.frame _, fun h => by cases h⟩

theorem treeAll_said : Rows.TreeAllSaid :=
  OpenClaim.holds_of_wide 5 Tryz.f5 rfl rfl rfl rfl rfl rfl rfl ⟨rfl, rfl, rfl, rfl, rfl⟩ rfl rfl rfl rfl rfl (by kernel_rfl) Tryz.func5 (by kernel_rfl)
    (of_decide_eq_true (by kernel_rfl)) (by unfold Func.isWrapper; first | (rw [if_pos (by decide +kernel)]; kernel_rfl) | (rw [if_neg (by decide +kernel)]; exact ⟨rfl, rfl⟩))
    (fun os started H enc _ => treeAll_lifted os started H enc)

theorem treeAll_plain (f : FuncId) (fn : Func) (hf : Tryz.pinned.checked.prog.funcNamed "guise/guiselaw2.TreeAll" = some f) (hfn : Tryz.pinned.checked.prog.funcs[f]? = some fn) :
    true = Tryz.pinned.checked.prog.looks [] ∧ ∀ (j : Nat) t, fn.params[j]? = some t → Tryz.pinned.checked.prog.wantsStandIn t = false := by
  obtain rfl : f = 5 := Option.some.inj ((show Tryz.prog.funcNamed "guise/guiselaw2.TreeAll" = some 5 by kernel_rfl).symm.trans hf) |>.symm
  obtain rfl : fn = Tryz.f5 := (Option.some.inj (Tryz.func5.symm.trans hfn)).symm
  refine ⟨by kernel_rfl, fun j t ht => ?_⟩
  rw [Tryz.params5] at ht
  have hm : t = 24 ∨ t = 3 := by simpa using Array.mem_of_getElem? ht
  rcases hm with rfl | rfl
  · exact (show Tryz.prog.wantsStandIn 24 = false by kernel_rfl)
  · exact (show Tryz.prog.wantsStandIn 3 = false by kernel_rfl)

/-- The card of TreeAll. -/
theorem treeAll_card : Rows.TreeAllCardSaid :=
  Claim7.holds_tied_plain_at .later [] _ _ _ _ treeAll_said (fun _ h => by cases h) (by kernel_rfl) (fun _ h => by cases h) treeAll_row_tie rfl ⟨rfl, rfl⟩ (by kernel_rfl) rfl treeAll_plain (by kernel_rfl)
#print axioms treeAll_card
end Go.Proofs.YthbnegggohegkaaGreatDoor
