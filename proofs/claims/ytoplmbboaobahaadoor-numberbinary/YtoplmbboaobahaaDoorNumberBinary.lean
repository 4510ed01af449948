/-
  The law NumberBinary is proved: at any text and any two data the call returns true, and all three read afterwards as they read before; the three package-level variables that the row lists start as the program's text lays them.
-/
import Derived.Test.YtoplmbboaobahaaDoorCards
import Derived.Test.YtoplmbboaobahaaDoorTie
import Derived.Test.YtoplmbboaobahaaDoorBk
import Derived.Test.YtoplmbboaobahaaDoorOd
import Derived.Test.YtoplmbboaobahaaDoorNumberRing
import Derived.Stop.LaidErr
namespace Go.Proofs.YtoplmbboaobahaaDoor
open Go.ChangeShapes Go.WideShapes Go.ChangeAt Go.WideMaps Go.WideElems Go.RowKit
open Go.ChangeMaps (open_string shut_string)

theorem tTab : (Tryd.prog.globals[2]?).map (·.type) = some 134 := by kernel_rfl

theorem tab_of_laid {W : World} (h0 : laidMetH Tryd.prog laidList W) : Lib.TabIs Tryd.prog W "internal/strconv.uint64pow10" .u64 Lib.pow10Tab := by
  rw [MakeChecks.laidMetH_plain _ _ _ (by kernel_rfl)] at h0
  exact Lib.tabIs_of_head (zs := Lib.pow10Tab) gTab tTab Tryd.underlying134 Tryd.underlying22 (by kernel_rfl) (by kernel_rfl) h0.tail.tail

def datum0b : Value := .agg #[.int .i64 0, .string ⟨#[]⟩, .int .i64 0, .int .u64 0, .string ⟨#[]⟩, .int .i64 0, .int .i64 0, .int .i64 0, .int .i64 0, .slice none 0 0, .slice none 0 0]

set_option maxRecDepth 100000 in
theorem numberBinary_lifted (os : Os) (started : os.Started) (H : Type) (enc : TypeId × Value → H) :
    ReturnsInHanded {} Tryd.checked os 4 .any (fun w args => (Rows.numberBinarySpec.pre enc Tryd.prog Tryd.f4 [] false w args ∧ laidMetH Tryd.prog laidList w) ∧ sizedMet enc Tryd.prog Tryd.f4 (OpenSpec.ofChange Rows.numberBinarySpec) false w args)
      (Rows.numberBinarySpec.post enc Tryd.prog Tryd.f4 false true false false) := by
  refine returnsInHanded_of_change_and (C := Tryd.checked) (X := fun w _ => laidMetH Tryd.prog laidList w) (fun _ _ _ hh h => h.of_heap hh) Tryd.own started (by kernel_rfl) Tryd.func4
    (ChangeSpec.witness_shaped (enc := enc) (C := Tryd.checked) (os := os) (X := fun w _ => laidMetH Tryd.prog laidList w) false (World.doorLaid Tryd.prog 400 os) #[.string ⟨#[]⟩, datum0b, datum0b] 8 rfl (World.shaped_of_RefB (by kernel_rfl) (by kernel_rfl)) (by kernel_rfl) (by kernel_rfl) (by kernel_rfl) (door_met os _)) ?_
  intro W base args ds gs before hval0 hW _ hwt hL _
  have hval : ∀ (j : Nat) t v, Tryd.f4.params[j]? = some t → args[j]? = some v → Value.okWide Tryd.prog W .any base t v := hval0
  have hW' := hW
  obtain ⟨p, q, hA0, hV, rfl, hfz, hnd⟩ := hW
  have hA : DataW.TrodAll enc Tryd.prog W 0 (fun _ => true) true Tryd.f4.params.toList args.toList ds p := hA0
  rw [Tryd.params4] at hA hval
  obtain ⟨v0, v1, v2, d0, d1, d2, p0, p1, p2, rfl, rfl, rfl, h0, h1, h2⟩ := trodAll_three hA
  obtain ⟨rfl, rfl⟩ := trodVars_none hV
  obtain ⟨u, rfl, rfl, rfl, hu⟩ := open_string Tryd.underlying9 (hval 0 9 v0 rfl rfl) h0
  obtain ⟨k, t, n, f, s, r0, r1, r2, r3, pp, ii, rfl, hn, hf, hsz⟩ := open_datum h1
  obtain ⟨k', t', n', f', s', r0', r1', r2', r3', pp', ii', rfl, hn', hf', hsz'⟩ := open_datum h2
  have hwt' : (DataW.weights Tryd.prog 9 (.lit (.string u.data.toList) : DataW H) ++ (d1.weights Tryd.prog 28 ++ (d2.weights Tryd.prog 28 ++ []))).all (· ≤ reachBytes) = true := hwt
  rw [List.all_append, Bool.and_eq_true, List.append_nil, List.all_append, Bool.and_eq_true] at hwt'
  have hus : u.size ≤ 140737488351232 := by
    have h9 := hwt'.1
    simp [DataW.weights, reachBytes] at h9
    exact of_decide_eq_true h9
  obtain ⟨hts, hss⟩ := hsz hwt'.2.1
  obtain ⟨hts', hss'⟩ := hsz' hwt'.2.2
  clear hA0 hval0
  simp only [List.append_nil, List.nil_append] at hW'
  have hlt1 : ∀ x ∈ p1, x.block < W.heap.size := fun x hx => hW'.lt x (by simp [hx])
  have hlt2 : ∀ x ∈ p2, x.block < W.heap.size := fun x hx => hW'.lt x (by simp [hx])
  refine (binaryLaw_any u k t n f s r0 r1 r2 r3 pp ii k' t' n' f' s' r0' r1' r2' r3' pp' ii' W hus hts hts' hss hss' hn.1 hn.2 hn'.1 hn'.2 (tab_of_laid hL)).mono fun e W' ⟨he, hb⟩ => ?_
  subst he
  have k1 := Below.trod Tryd.laidOut (by kernel_rfl) (of_decide_eq_true (by kernel_rfl)) h1 hb hlt1
  have k2 := Below.trod Tryd.laidOut (by kernel_rfl) (of_decide_eq_true (by kernel_rfl)) h2 hb hlt2
  have k3 := trodAll_mk3 (shut_string (enc := enc) (w := W') (base := 0) (sp := fun b => decide (b < W.heap.size)) (held := true) Tryd.underlying9 hu) k1 k2
  rw [List.nil_append] at k3
  exact ⟨_, rfl, _, _, _, [], p1 ++ p2, [], hW', trodAll_mk1 (shut_bool Tryd.underlying4 _), k3, rfl, hb.frame _, fun h => by cases h⟩

theorem numberBinary_said : Rows.NumberBinarySaid :=
  OpenClaim.holds_of_wide 4 Tryd.f4 rfl rfl rfl rfl rfl rfl rfl ⟨rfl, rfl, rfl, rfl, rfl⟩ rfl rfl rfl rfl rfl (by kernel_rfl) Tryd.func4 (by kernel_rfl)
    (of_decide_eq_true (by kernel_rfl)) (by unfold Func.isWrapper; first | (rw [if_pos (by decide +kernel)]; kernel_rfl) | (rw [if_neg (by decide +kernel)]; exact ⟨rfl, rfl⟩))
    (fun os started H enc _ => numberBinary_lifted os started H enc)

theorem numberBinary_plain (f : FuncId) (fn : Func) (hf : Tryd.pinned.checked.prog.funcNamed "guise/guiselaw6.NumberBinary" = some f) (hfn : Tryd.pinned.checked.prog.funcs[f]? = some fn) :
    true = Tryd.pinned.checked.prog.looks [] ∧ ∀ (j : Nat) t, fn.params[j]? = some t → Tryd.pinned.checked.prog.wantsStandIn t = false := by
  obtain rfl : f = 4 := Option.some.inj ((show Tryd.prog.funcNamed "guise/guiselaw6.NumberBinary" = some 4 by kernel_rfl).symm.trans hf) |>.symm
  obtain rfl : fn = Tryd.f4 := (Option.some.inj (Tryd.func4.symm.trans hfn)).symm
  refine ⟨by kernel_rfl, fun j t ht => ?_⟩
  rw [Tryd.params4] at ht
  have hall : ([9, 28, 28] : List TypeId).all (fun t => !Tryd.prog.wantsStandIn t) = true := by kernel_rfl
  have hm : t ∈ ([9, 28, 28] : List TypeId) := by simpa using Array.mem_of_getElem? ht
  have he : Tryd.prog.wantsStandIn t = false := by simpa using List.all_eq_true.1 hall t hm
  exact he

/-- The card of NumberBinary. -/
theorem numberBinary_card : Rows.NumberBinaryCardSaid :=
  Claim7.holds_tied_plain_at .later [] _ _ _ _ numberBinary_said (fun _ h => by cases h) (by kernel_rfl) (fun _ h => by cases h) numberBinary_row_tie rfl ⟨rfl, rfl⟩ (by kernel_rfl) rfl numberBinary_plain (by kernel_rfl)
#print axioms numberBinary_card
end Go.Proofs.YtoplmbboaobahaaDoor
