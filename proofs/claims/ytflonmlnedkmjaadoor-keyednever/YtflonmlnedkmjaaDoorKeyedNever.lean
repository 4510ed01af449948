/-
  The law KeyedNever is proved: at any list of ints and any bool the call returns true, and both read afterwards as they read before; the one package-level variable that the row lists starts as the text of the program lays it.
-/
import Derived.Test.YtflonmlnedkmjaaDoorCards
import Derived.Test.YtflonmlnedkmjaaDoorTie
import Derived.Test.YtflonmlnedkmjaaDoorNm
import Derived.Test.YtflonmlnedkmjaaDoorPh2J
import Derived.Test.YtflonmlnedkmjaaDoorCd
import Derived.Stop.LaidErr
import Derived.SizedLaws
namespace Go.Proofs.YtflonmlnedkmjaaDoor
open Go.ChangeShapes Go.WideShapes Go.ChangeAt Go.WideMaps Go.WideElems Go.RowKit

set_option maxRecDepth 100000 in
theorem keyedNever_lifted (os : Os) (started : os.Started) (H : Type) (enc : TypeId × Value → H) :
    ReturnsInHanded {} Tryd.checked os 4 .any (fun w args => (Rows.keyedNeverSpec.pre enc Tryd.prog Tryd.f4 [] false w args ∧ laidMetH Tryd.prog laidList w) ∧ sizedMet enc Tryd.prog Tryd.f4 (OpenSpec.ofChange Rows.keyedNeverSpec) false w args)
      (Rows.keyedNeverSpec.post enc Tryd.prog Tryd.f4 false true false false) := by
  refine returnsInHanded_of_change_and (C := Tryd.checked) (X := fun w _ => laidMetH Tryd.prog laidList w) (fun _ _ _ hh h => h.of_heap hh) Tryd.own started (by kernel_rfl) Tryd.func4
    (ChangeSpec.witness_shaped (enc := enc) (C := Tryd.checked) (os := os) (X := fun w _ => laidMetH Tryd.prog laidList w) false (World.doorLaid Tryd.prog 400 os) #[.slice none 0 0, .bool false] 8 rfl (World.shaped_of_RefB (by kernel_rfl) (by kernel_rfl)) (by kernel_rfl) (by kernel_rfl) (by kernel_rfl) (door_met os _)) ?_
  intro W base args ds gs before hval0 hW _ hwt hL _
  have hval : ∀ (j : Nat) t v, Tryd.f4.params[j]? = some t → args[j]? = some v → Value.okWide Tryd.prog W .any base t v := hval0
  have hW' := hW
  obtain ⟨p, q, hA0, hV, rfl, hfz, hnd⟩ := hW
  have hA : DataW.TrodAll enc Tryd.prog W 0 (fun _ => true) true Tryd.f4.params.toList args.toList ds p := hA0
  rw [Tryd.params4] at hA hval
  obtain ⟨v0, v1, d0, d1, p0, p1, rfl, rfl, rfl, h0, h1⟩ := trodAll_two hA
  obtain ⟨rfl, rfl⟩ := trodVars_none hV
  obtain ⟨pp, zs, c, rfl, hc1, hc2, hzb, hzc⟩ := open_nums (hval 0 27 v0 rfl rfl) h0
  obtain ⟨dp, rfl, rfl, rfl⟩ := open_bool Tryd.underlying4 (hval 1 4 v1 rfl rfl) h1
  clear hA0 hval0
  simp only [List.append_nil] at hW'
  have hlt1 : ∀ x ∈ p0, x.block < W.heap.size := fun x hx => hW'.lt x (by simp [hx])
  refine (neverLaw_any pp zs c dp W (names_of_laid hL) hzb (by unfold maxLen at hc2; simp at hc2; omega) hzc).mono fun e W' ⟨he, hb⟩ => ?_
  subst he
  have k1 := Below.trod Tryd.laidOut (by kernel_rfl) (of_decide_eq_true (by kernel_rfl)) h0 hb hlt1
  exact ⟨_, rfl, _, _, _, [], p0, [], hW', trodAll_mk1 (shut_bool Tryd.underlying4 _), (by have := trodAll_mk2 k1 (shut_bool Tryd.underlying4 dp); rw [List.append_nil] at this; exact this), rfl, hb.frame _, fun h => by cases h⟩

theorem keyedNever_said : Rows.KeyedNeverSaid :=
  OpenClaim.holds_of_wide 4 Tryd.f4 rfl rfl rfl rfl rfl rfl rfl ⟨rfl, rfl, rfl, rfl, rfl⟩ rfl rfl rfl rfl rfl (by kernel_rfl) Tryd.func4 (by kernel_rfl)
    (of_decide_eq_true (by kernel_rfl)) (by unfold Func.isWrapper; first | (rw [if_pos (by decide +kernel)]; kernel_rfl) | (rw [if_neg (by decide +kernel)]; exact ⟨rfl, rfl⟩))
    (fun os started H enc _ => keyedNever_lifted os started H enc)

theorem keyedNever_plain (f : FuncId) (fn : Func) (hf : Tryd.pinned.checked.prog.funcNamed "guise/guiselaw9.KeyedNever" = some f) (hfn : Tryd.pinned.checked.prog.funcs[f]? = some fn) :
    true = Tryd.pinned.checked.prog.looks [] ∧ ∀ (j : Nat) t, fn.params[j]? = some t → Tryd.pinned.checked.prog.wantsStandIn t = false := by
  obtain rfl : f = 4 := Option.some.inj ((show Tryd.prog.funcNamed "guise/guiselaw9.KeyedNever" = some 4 by kernel_rfl).symm.trans hf) |>.symm
  obtain rfl : fn = Tryd.f4 := (Option.some.inj (Tryd.func4.symm.trans hfn)).symm
  refine ⟨by kernel_rfl, fun j t ht => ?_⟩
  rw [Tryd.params4] at ht
  have hall : ([27, 4] : List TypeId).all (fun t => !Tryd.prog.wantsStandIn t) = true := by kernel_rfl
  have hm : t ∈ ([27, 4] : List TypeId) := by simpa using Array.mem_of_getElem? ht
  have he : Tryd.prog.wantsStandIn t = false := by simpa using List.all_eq_true.1 hall t hm
  exact he

/-- The card of KeyedNever. -/
theorem keyedNever_card : Rows.KeyedNeverCardSaid :=
  Claim7.holds_tied_plain_at .later [] _ _ _ _ keyedNever_said (fun _ h => by cases h) (by kernel_rfl) (fun _ h => by cases h) keyedNever_row_tie rfl ⟨rfl, rfl⟩ (by kernel_rfl) rfl keyedNever_plain (by kernel_rfl)
#print axioms keyedNever_card
end Go.Proofs.YtflonmlnedkmjaaDoor
