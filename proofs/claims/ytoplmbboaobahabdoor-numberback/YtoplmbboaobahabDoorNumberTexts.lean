/-
  The law NumberTexts is proved: at any four texts the call returns true, and all four read afterwards as they read before; the three package-level variables that the row lists start as the program's text lays them.
-/
import Derived.Test.YtoplmbboaobahabDoorCards
import Derived.Test.YtoplmbboaobahabDoorTie
import Derived.Test.YtoplmbboaobahabDoorT
import Derived.Test.YtoplmbboaobahabDoorCd
import Derived.Stop.LaidErr
namespace Go.Proofs.YtoplmbboaobahabDoor
open Go.ChangeShapes Go.WideShapes Go.ChangeAt Go.WideMaps Go.WideElems Go.RowKit
open Go.ChangeMaps (open_string shut_string)

theorem tTab : (Tryd.prog.globals[2]?).map (·.type) = some 113 := by kernel_rfl

theorem tab_of_laid {W : World} (h0 : laidMetH Tryd.prog laidList W) : Lib.TabIs Tryd.prog W "internal/strconv.uint64pow10" .u64 Lib.pow10Tab := by
  rw [MakeChecks.laidMetH_plain _ _ _ (by kernel_rfl)] at h0
  exact Lib.tabIs_of_head (zs := Lib.pow10Tab) gTab tTab Tryd.underlying113 Tryd.underlying22 (by kernel_rfl) (by kernel_rfl) h0.tail.tail

set_option maxRecDepth 100000 in
theorem numberTexts_lifted (os : Os) (started : os.Started) (H : Type) (enc : TypeId × Value → H) :
    ReturnsInHanded {} Tryd.checked os 4 .any (fun w args => (Rows.numberTextsSpec.pre enc Tryd.prog Tryd.f4 [] false w args ∧ laidMetH Tryd.prog laidList w) ∧ sizedMet enc Tryd.prog Tryd.f4 (OpenSpec.ofChange Rows.numberTextsSpec) false w args)
      (Rows.numberTextsSpec.post enc Tryd.prog Tryd.f4 false true false false) := by
  refine returnsInHanded_of_change_and (C := Tryd.checked) (X := fun w _ => laidMetH Tryd.prog laidList w) (fun _ _ _ hh h => h.of_heap hh) Tryd.own started (by kernel_rfl) Tryd.func4
    (ChangeSpec.witness_shaped (enc := enc) (C := Tryd.checked) (os := os) (X := fun w _ => laidMetH Tryd.prog laidList w) false (World.doorLaid Tryd.prog 400 os) #[.string ⟨#[]⟩, .string ⟨#[]⟩, .string ⟨#[]⟩, .string ⟨#[]⟩] 8 rfl (World.shaped_of_RefB (by kernel_rfl) (by kernel_rfl)) (by kernel_rfl) (by kernel_rfl) (by kernel_rfl) (door_met os _)) ?_
  intro W base args ds gs before hval0 hW _ hwt hL _
  have hval : ∀ (j : Nat) t v, Tryd.f4.params[j]? = some t → args[j]? = some v → Value.okWide Tryd.prog W .any base t v := hval0
  have hW' := hW
  obtain ⟨p, q, hA0, hV, rfl, hfz, hnd⟩ := hW
  have hA : DataW.TrodAll enc Tryd.prog W 0 (fun _ => true) true Tryd.f4.params.toList args.toList ds p := hA0
  rw [Tryd.params4] at hA hval
  obtain ⟨v0, v1, v2, v3, d0, d1, d2, d3, p0, p1, p2, p3, rfl, rfl, rfl, h0, h1, h2, h3⟩ := trodAll_four hA
  obtain ⟨rfl, rfl⟩ := trodVars_none hV
  obtain ⟨t, rfl, rfl, rfl, ht⟩ := open_string Tryd.underlying9 (hval 0 9 v0 rfl rfl) h0
  obtain ⟨a, rfl, rfl, rfl, ha⟩ := open_string Tryd.underlying9 (hval 1 9 v1 rfl rfl) h1
  obtain ⟨b, rfl, rfl, rfl, hb⟩ := open_string Tryd.underlying9 (hval 2 9 v2 rfl rfl) h2
  obtain ⟨c, rfl, rfl, rfl, hc⟩ := open_string Tryd.underlying9 (hval 3 9 v3 rfl rfl) h3
  rw [Tryd.params4] at hwt
  have hts : t.data.toList.length ≤ reachBytes := sized_string hwt (j := 0) (t := 9) rfl rfl
  have has : a.data.toList.length ≤ reachBytes := sized_string hwt (j := 1) (t := 9) rfl rfl
  have hbs : b.data.toList.length ≤ reachBytes := sized_string hwt (j := 2) (t := 9) rfl rfl
  have hcs : c.data.toList.length ≤ reachBytes := sized_string hwt (j := 3) (t := 9) rfl rfl
  clear hA0 hval0
  simp only [List.append_nil] at hW'
  refine (textsLaw_any t a b c W (by rw [Lib.size_eq]; exact hts) (by rw [Lib.size_eq]; exact has) (by rw [Lib.size_eq]; exact hbs) (by rw [Lib.size_eq]; exact hcs) (tab_of_laid hL)).mono fun e W' ⟨he, hn⟩ => ?_
  subst he
  exact ⟨_, rfl, _, _, _, [], [], [], hW', trodAll_mk1 (shut_bool Tryd.underlying4 _), trodAll_mk4 (shut_string Tryd.underlying9 ht) (shut_string Tryd.underlying9 ha) (shut_string Tryd.underlying9 hb) (shut_string Tryd.underlying9 hc), rfl, hn.frame _, fun h => by cases h⟩

theorem numberTexts_said : Rows.NumberTextsSaid :=
  OpenClaim.holds_of_wide 4 Tryd.f4 rfl rfl rfl rfl rfl rfl rfl ⟨rfl, rfl, rfl, rfl, rfl⟩ rfl rfl rfl rfl rfl (by kernel_rfl) Tryd.func4 (by kernel_rfl)
    (of_decide_eq_true (by kernel_rfl)) (by unfold Func.isWrapper; first | (rw [if_pos (by decide +kernel)]; kernel_rfl) | (rw [if_neg (by decide +kernel)]; exact ⟨rfl, rfl⟩))
    (fun os started H enc _ => numberTexts_lifted os started H enc)

theorem numberTexts_plain (f : FuncId) (fn : Func) (hf : Tryd.pinned.checked.prog.funcNamed "guise/guiselaw6.NumberTexts" = some f) (hfn : Tryd.pinned.checked.prog.funcs[f]? = some fn) :
    true = Tryd.pinned.checked.prog.looks [] ∧ ∀ (j : Nat) t, fn.params[j]? = some t → Tryd.pinned.checked.prog.wantsStandIn t = false := by
  obtain rfl : f = 4 := Option.some.inj ((show Tryd.prog.funcNamed "guise/guiselaw6.NumberTexts" = some 4 by kernel_rfl).symm.trans hf) |>.symm
  obtain rfl : fn = Tryd.f4 := (Option.some.inj (Tryd.func4.symm.trans hfn)).symm
  refine ⟨by kernel_rfl, fun j t ht => ?_⟩
  rw [Tryd.params4] at ht
  obtain rfl : t = 9 := by simpa using Array.mem_of_getElem? ht
  exact (show Tryd.prog.wantsStandIn 9 = false by kernel_rfl)

/-- The card of NumberTexts. -/
theorem numberTexts_card : Rows.NumberTextsCardSaid :=
  Claim7.holds_tied_plain_at .later [] _ _ _ _ numberTexts_said (fun _ h => by cases h) (by kernel_rfl) (fun _ h => by cases h) numberTexts_row_tie rfl ⟨rfl, rfl⟩ (by kernel_rfl) rfl numberTexts_plain (by kernel_rfl)
#print axioms numberTexts_card
end Go.Proofs.YtoplmbboaobahabDoor
