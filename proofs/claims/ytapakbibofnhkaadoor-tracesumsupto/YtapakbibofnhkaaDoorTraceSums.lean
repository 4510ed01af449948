/-
  The law TraceSums is proved, where what it reads is of bulk at most 1048576: at any such text and lists of events the call returns true, and what was handed in reads afterwards as it read before; the three package-level variables that the row lists start as the program's text lays them.
-/
import Derived.Test.YtapakbibofnhkaaDoorCards
import Derived.Test.YtapakbibofnhkaaDoorTie
import Derived.Test.YtapakbibofnhkaaDoorLs
import Derived.Test.YtapakbibofnhkaaDoorCd
import Derived.Stop.LaidErr
import Derived.Deep.DeepHandedRow
import Derived.Deep.DeepWitnessRowRef
import Derived.SevenTiedAt
namespace Go.Proofs.YtapakbibofnhkaaDoor
open Go.ChangeShapes Go.WideShapes Go.ChangeAt Go.WideMaps Go.WideElems Go.RowKit
open Go.ChangeMaps (open_string shut_string)

theorem traceSums_met (os : Os) (args : Array Value) : laidMet Tryd.prog Rows.traceSumsUptoRow.laid ((World.doorLaid Tryd.prog 400 os).forCall (fun _ _ => 0) ⟨#[], args, []⟩).memory :=
  laidMet_of_run' 8 (by kernel_rfl) (by kernel_rfl)
theorem traceSums_reads (os : Os) {H : Type} (enc : TypeId × Value → H) : ∃ ds places, DataW.whole enc Tryd.prog ((World.doorLaid Tryd.prog 400 os).forCall (fun _ _ => 0) ⟨#[], #[.string ⟨#[]⟩, .slice none 0 0, .slice none 0 0], []⟩).memory Tryd.f6.params.toList Rows.traceSumsSpec.vars false #[Value.string ⟨#[]⟩, .slice none 0 0, .slice none 0 0].toList 8 = some (ds, [], places) ∧ Rows.uptoSmall H (ds ++ []) = true :=
  ⟨[.lit (.string []), .nil, .nil], [], by kernel_rfl, by kernel_rfl⟩

set_option maxRecDepth 100000 in
theorem traceSums_lifted (os : Os) (started : os.Started) (H : Type) (enc : TypeId × Value → H) (F : Stop.Interp) :
    ReturnsInHanded {} Tryd.checked os 6 .any ((Rows.OpenSpec.upto Rows.traceSumsSpec).preRow enc Tryd.prog Tryd.f6 Rows.traceSumsUptoRow.domain false Rows.traceSumsUptoRow.laid) (((Rows.OpenSpec.upto Rows.traceSumsSpec).at F).post enc Tryd.prog Tryd.f6 false true false false) := by
  obtain ⟨ds0, places, hx, hsm⟩ := traceSums_reads os enc
  refine returnsInHanded_of_row (C := Tryd.checked) (s := Rows.OpenSpec.upto Rows.traceSumsSpec) Tryd.own started (by kernel_rfl) Tryd.func6
    (witness_row_atRef (enc := enc) (C := Tryd.checked) false (World.doorLaid Tryd.prog 400 os) #[.string ⟨#[]⟩, .slice none 0 0, .slice none 0 0] rfl (by kernel_rfl) (by kernel_rfl) (by kernel_rfl)
      (OpenSpec.preRow_of_cond 8 hx (by kernel_rfl) (fun k hk => by cases hk; exact hsm) (by kernel_rfl) (traceSums_met os _))) ?_
  intro W base args ds gs before hval0 hW0 _ hcond _ hL _ _
  have hval : ∀ (j : Nat) t v, Tryd.f6.params[j]? = some t → args[j]? = some v → Value.okWide Tryd.prog W .any base t v := hval0
  have hW : DataW.Whole enc Tryd.prog Tryd.f6.params.toList Rows.traceSumsSpec.vars false W args.toList ds gs before := hW0
  have hW' := hW
  have hbulk : Rows.uptoBulkAll (ds ++ gs) ≤ 1048576 := of_decide_eq_true (hcond _ rfl)
  obtain ⟨p, q, hA0, hV, rfl, hfz, hnd⟩ := hW
  have hA : DataW.TrodAll enc Tryd.prog W 0 (fun _ => true) true Tryd.f6.params.toList args.toList ds p := hA0
  rw [Tryd.params6] at hA hval
  obtain ⟨v0, v1, v2, d0, d1, d2, p0, p1, p2, rfl, rfl, rfl, h0, h1, h2⟩ := trodAll_three hA
  obtain ⟨rfl, rfl⟩ := trodVars_none hV
  obtain ⟨u, rfl, rfl, rfl, hu⟩ := open_string Tryd.underlying9 (hval 0 9 v0 rfl rfl) h0
  obtain ⟨pp1, l1, c1, rfl, _, he1, _, hw1⟩ := open_evs (hval 1 22 v1 rfl rfl) h1
  obtain ⟨pp2, l2, c2, rfl, _, he2, _, hw2⟩ := open_evs (hval 2 22 v2 rfl rfl) h2
  have hb3 : Rows.uptoBulk d1 + Rows.uptoBulk d2 ≤ 1048576 := by
    simp only [List.cons_append, List.nil_append, Rows.uptoBulkAll] at hbulk
    omega
  clear hA0 hval0 hbulk hcond
  simp only [List.append_nil, List.nil_append] at hW'
  have hlt1 : ∀ x ∈ p1, x.block < W.heap.size := fun x hx => hW'.lt x (by simp [hx])
  have hlt2 : ∀ x ∈ p2, x.block < W.heap.size := fun x hx => hW'.lt x (by simp [hx])
  refine (sumsLaw_any u l1 l2 pp1 pp2 c1 c2 W he1 he2 (by omega) (by omega) (tab_of_laid0 hL)).mono fun e W' ⟨he, hb⟩ => ?_
  subst he
  have k1 := Below.trod Tryd.laidOut (by kernel_rfl) (of_decide_eq_true (by kernel_rfl)) h1 hb hlt1
  have k2 := Below.trod Tryd.laidOut (by kernel_rfl) (of_decide_eq_true (by kernel_rfl)) h2 hb hlt2
  have k3 := trodAll_mk3 (shut_string (enc := enc) (w := W') (base := 0) (sp := fun b => decide (b < W.heap.size)) (held := true) Tryd.underlying9 hu) k1 k2
  rw [List.nil_append] at k3
  exact ⟨_, rfl, _, _, _, [], p1 ++ p2, [], hW', trodAll_mk1 (shut_bool Tryd.underlying4 _), k3, rfl, hb.frame _, fun h => by cases h⟩

theorem traceSums_said : Rows.TraceSumsUptoSaid :=
  OpenClaim.holds_of_cond 6 Tryd.f6 rfl rfl rfl rfl rfl rfl rfl ⟨rfl, rfl, rfl, rfl, rfl⟩ rfl rfl rfl rfl rfl (by kernel_rfl) Tryd.func6 (by kernel_rfl)
    (of_decide_eq_true (by kernel_rfl)) (by unfold Func.isWrapper; first | (rw [if_pos (by decide +kernel)]; kernel_rfl) | (rw [if_neg (by decide +kernel)]; exact ⟨rfl, rfl⟩))
    (fun os started H enc _ F => by rw [OpenClaim.pre_eq_preRow]; exact traceSums_lifted os started H enc F)

theorem traceSums_plain (f : FuncId) (fn : Func) (hf : Tryd.pinned.checked.prog.funcNamed "guise/guiselaw17.TraceSums" = some f) (hfn : Tryd.pinned.checked.prog.funcs[f]? = some fn) :
    false = Tryd.pinned.checked.prog.looks [] ∧ ∀ (j : Nat) t, fn.params[j]? = some t → Tryd.pinned.checked.prog.wantsStandIn t = false := by
  obtain rfl : f = 6 := Option.some.inj ((show Tryd.prog.funcNamed "guise/guiselaw17.TraceSums" = some 6 by kernel_rfl).symm.trans hf) |>.symm
  obtain rfl : fn = Tryd.f6 := (Option.some.inj (Tryd.func6.symm.trans hfn)).symm
  refine ⟨by kernel_rfl, fun j t ht => ?_⟩
  rw [Tryd.params6] at ht
  have hall : ([9, 22, 22] : List TypeId).all (fun t => !Tryd.prog.wantsStandIn t) = true := by kernel_rfl
  have hm : t ∈ ([9, 22, 22] : List TypeId) := by simpa using Array.mem_of_getElem? ht
  have he : Tryd.prog.wantsStandIn t = false := by simpa using List.all_eq_true.1 hall t hm
  exact he

/-- The second form's card of TraceSums. -/
theorem traceSums_card : Rows.TraceSumsUptoCardSaid :=
  Claim7.holds_tied_plain_at .later [] _ _ _ _ traceSums_said (fun _ h => by cases h) (by kernel_rfl) (fun _ h => by cases h) traceSumsUpto_row_tie rfl ⟨rfl, rfl⟩ (by kernel_rfl) rfl traceSums_plain (by kernel_rfl)
#print axioms traceSums_card
end Go.Proofs.YtapakbibofnhkaaDoor
