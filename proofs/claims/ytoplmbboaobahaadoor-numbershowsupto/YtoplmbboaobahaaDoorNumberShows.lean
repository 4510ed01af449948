/-
  The law NumberShows is proved, where what it reads is of bulk at most 1048576: at any such datum the call returns true, and the datum reads afterwards as it read before; the three package-level variables that the row lists start as the program's text lays them.
-/
import Derived.Test.YtoplmbboaobahaaDoorCards
import Derived.Test.YtoplmbboaobahaaDoorTie
import Derived.Test.YtoplmbboaobahaaDoorSy
import Derived.Test.YtoplmbboaobahaaDoorOd
import Derived.Test.YtoplmbboaobahaaDoorNumberRing
import Derived.Stop.LaidErr
import Derived.Deep.DeepHandedRow
import Derived.Deep.DeepWitnessRowRef
import Derived.SevenTiedAt
namespace Go.Proofs.YtoplmbboaobahaaDoor
open Go.ChangeShapes Go.WideShapes Go.RowKit Go.Deep

set_option maxRecDepth 100000 in
/-- What reads as a datum is one. -/
theorem open_datumU {H : Type} {enc : TypeId × Value → H} {W : World} {base : Nat} {spare : Nat → Bool} {held : Bool} {v : Value} {d : DataW H} {ps : List MemPlace}
    (h : DataW.Trod enc Tryd.prog W base spare held 28 v d ps) : ∃ (k : Int) (t : ByteArray) (n f : Int) (s : ByteArray) (r0 r1 r2 r3 : Int) (p i : Value), v = D k t n f s r0 r1 r2 r3 p i ∧
      (-9223372036854775808 ≤ n ∧ n ≤ 9223372036854775807) ∧ (0 ≤ f ∧ f ≤ 18446744073709551615) ∧
      (Rows.uptoBulk d ≤ 1048576 → t.size ≤ 1048576 ∧ s.size ≤ 1048576) := by
  obtain ⟨fuel, hf⟩ := h
  obtain ⟨xs, m, rfl, hxy, hlen, hxl, hfl⟩ := DataW.trod_struct Tryd.underlying28 hf
  rw [cells28] at hlen
  have hxl' : xs.length = 7 := hxl
  clear hxl
  generalize hcv : v.cells.toList = cs at hlen hfl hf
  match cs, hlen, xs, hxl' with
  | [v0, v1, v2, v3, v4, v5, v6, v7, v8, v9, v10], _, [y0, y1, y2, y3, y4, y5, y6], _ =>
    have g0 := hfl 0 _ rfl
    have g1 := hfl 1 _ rfl
    have g2 := hfl 2 _ rfl
    have g3 := hfl 3 _ rfl
    have g4 := hfl 4 _ rfl
    have g5 := hfl 5 _ rfl
    simp [cells3, cells9, cells22, cells25] at g0 g1 g2 g3 g4 g5
    obtain ⟨k, hk, _, _⟩ := DataW.trod_int Tryd.underlying3 g0
    obtain ⟨t, ht, hy1, _⟩ := DataW.trod_string Tryd.underlying9 g1
    obtain ⟨n, hn, _, hnw⟩ := DataW.trod_int Tryd.underlying3 g2
    obtain ⟨f, hff, _, hfw⟩ := DataW.trod_int Tryd.underlying22 g3
    obtain ⟨s, hs, hy4, _⟩ := DataW.trod_string Tryd.underlying9 g4
    obtain ⟨zs, m2, rfl, _, _, hzl, hfl2⟩ := DataW.trod_struct Tryd.underlying25 g5
    have hzl' : zs.length = 5 := hzl
    match zs, hzl' with
    | [z0, z1, z2, z3, z4], _ =>
      have e0 := hfl2 0 _ rfl
      have e1 := hfl2 1 _ rfl
      have e2 := hfl2 2 _ rfl
      have e3 := hfl2 3 _ rfl
      simp [cells3] at e0 e1 e2 e3
      obtain ⟨r0, hr0, _, _⟩ := DataW.trod_int Tryd.underlying3 e0
      obtain ⟨r1, hr1, _, _⟩ := DataW.trod_int Tryd.underlying3 e1
      obtain ⟨r2, hr2, _, _⟩ := DataW.trod_int Tryd.underlying3 e2
      obtain ⟨r3, hr3, _, _⟩ := DataW.trod_int Tryd.underlying3 e3
      simp only [List.cons.injEq, and_true] at hk ht hn hff hs hr0 hr1 hr2 hr3
      subst hk ht hn hff hs hr0 hr1 hr2 hr3
      refine ⟨k, t, n, f, s, r0, r1, r2, r3, v9, v10, ?_, ?_, ?_, ?_⟩
      · have hc : v.cells = #[.int .i64 k, .string t, .int .i64 n, .int .u64 f, .string s, .int .i64 r0, .int .i64 r1, .int .i64 r2, .int .i64 r3, v9, v10] := Array.toList_inj.1 hcv
        cases v <;> simp [Value.cells] at hc
        rename_i cs
        rw [hc]; rfl
      · simp [Lit.wf, show IntKind.i64.min = -9223372036854775808 by decide, show IntKind.i64.max = 9223372036854775807 by decide] at hnw; exact hnw
      · simp [Lit.wf, show IntKind.u64.min = 0 by decide, show IntKind.u64.max = 18446744073709551615 by decide] at hfw; exact hfw
      · intro hw
        have hd : d = .agg ([y0, y1, y2, y3, y4, y5, y6].map (·.1)) := congrArg Prod.fst hxy
        subst hd
        simp only [List.map_cons, List.map_nil, Rows.uptoBulk, Rows.uptoBulkAll, hy1, hy4] at hw
        have e1 : t.data.toList.length = t.size := by simp
        have e2 : s.data.toList.length = s.size := by simp
        omega
end Go.Proofs.YtoplmbboaobahaaDoor
namespace Go.Proofs.YtoplmbboaobahaaDoor
open Go.ChangeShapes Go.WideShapes Go.ChangeAt Go.WideMaps Go.WideElems Go.RowKit

theorem tTabS : (Tryd.prog.globals[2]?).map (·.type) = some 134 := by kernel_rfl
theorem gTabZ : Tryd.prog.globalNamed "math/bits.deBruijn64tab" = some 4 := by kernel_rfl
theorem tTabZ : (Tryd.prog.globals[4]?).map (·.type) = some 143 := by kernel_rfl
/-- The table of trailing zeros. -/
def zTab : List Int := [0, 1, 56, 2, 57, 49, 28, 3, 61, 58, 42, 50, 38, 29, 17, 4, 62, 47, 59, 36, 45, 43, 51, 22, 53, 39, 33, 30, 24, 18, 12, 5, 63, 55, 48, 27, 60, 41, 37, 16, 46, 35, 44, 21, 52, 32, 23, 11, 54, 26, 40, 15, 34, 20, 31, 10, 25, 14, 19, 9, 13, 8, 7, 6]

theorem tabS_of_laid {W : World} (h0 : laidMet Tryd.prog laidList W) : Lib.TabIs Tryd.prog W "internal/strconv.uint64pow10" .u64 Lib.pow10Tab :=
  Lib.tabIs_of_head (zs := Lib.pow10Tab) gTab tTabS Tryd.underlying134 Tryd.underlying22 (by kernel_rfl) (by kernel_rfl) h0.tail.tail
theorem tabZ_of_laid {W : World} (h0 : laidMet Tryd.prog laidList W) : zAt W := by
  have h : Lib.TabIs Tryd.prog W "math/bits.deBruijn64tab" .u8 zTab := Lib.tabIs_of_head (zs := zTab) gTabZ tTabZ Tryd.underlying143 Tryd.underlying5 (by kernel_rfl) (by kernel_rfl) h0.tail
  unfold Lib.TabIs World.var? at h
  rw [gTabZ, Option.bind_some] at h
  split at h
  · rename_i e
    have hc := Option.some.inj h
    refine ⟨(Array.getElem?_eq_some_iff.1 e).1, ?_⟩
    unfold World.cell?
    rw [e]
    dsimp only
    rw [hc]
    rfl
  · cases h

def datum0s : Value := .agg #[.int .i64 0, .string ⟨#[]⟩, .int .i64 0, .int .u64 0, .string ⟨#[]⟩, .int .i64 0, .int .i64 0, .int .i64 0, .int .i64 0, .slice none 0 0, .slice none 0 0]

theorem numberShows_met (os : Os) (args : Array Value) : laidMet Tryd.prog Rows.numberShowsUptoRow.laid ((World.doorLaid Tryd.prog 400 os).forCall (fun _ _ => 0) ⟨#[], args, []⟩).memory :=
  laidMet_of_run' 8 (by kernel_rfl) (by kernel_rfl)
theorem numberShows_reads (os : Os) {H : Type} (enc : TypeId × Value → H) : ∃ ds places, DataW.whole enc Tryd.prog ((World.doorLaid Tryd.prog 400 os).forCall (fun _ _ => 0) ⟨#[], #[datum0s], []⟩).memory Tryd.f7.params.toList Rows.numberShowsSpec.vars false #[datum0s].toList 8 = some (ds, [], places) ∧ Rows.uptoSmall H (ds ++ []) = true :=
  ⟨[.agg [.lit (.int .i64 0), .lit (.string []), .lit (.int .i64 0), .lit (.int .u64 0), .lit (.string []), .agg [.lit (.int .i64 0), .lit (.int .i64 0), .lit (.int .i64 0), .lit (.int .i64 0), .nil], .nil]], [], by kernel_rfl, by kernel_rfl⟩

set_option maxRecDepth 100000 in
theorem numberShows_lifted (os : Os) (started : os.Started) (H : Type) (enc : TypeId × Value → H) (F : Stop.Interp) :
    ReturnsInHanded {} Tryd.checked os 7 .any ((Rows.OpenSpec.upto Rows.numberShowsSpec).preRow enc Tryd.prog Tryd.f7 Rows.numberShowsUptoRow.domain false Rows.numberShowsUptoRow.laid) (((Rows.OpenSpec.upto Rows.numberShowsSpec).at F).post enc Tryd.prog Tryd.f7 false true false false) := by
  obtain ⟨ds0, places, hx, hsm⟩ := numberShows_reads os enc
  refine returnsInHanded_of_row (C := Tryd.checked) (s := Rows.OpenSpec.upto Rows.numberShowsSpec) Tryd.own started (by kernel_rfl) Tryd.func7
    (witness_row_atRef (enc := enc) (C := Tryd.checked) false (World.doorLaid Tryd.prog 400 os) #[datum0s] rfl (by kernel_rfl) (by kernel_rfl) (by kernel_rfl)
      (OpenSpec.preRow_of_cond 8 hx (by kernel_rfl) (fun k hk => by cases hk; exact hsm) (by kernel_rfl) (numberShows_met os _))) ?_
  intro W base args ds gs before hval0 hW0 _ hcond _ hL _ _
  have hval : ∀ (j : Nat) t v, Tryd.f7.params[j]? = some t → args[j]? = some v → Value.okWide Tryd.prog W .any base t v := hval0
  have hW : DataW.Whole enc Tryd.prog Tryd.f7.params.toList Rows.numberShowsSpec.vars false W args.toList ds gs before := hW0
  have hW' := hW
  have hbulk : Rows.uptoBulkAll (ds ++ gs) ≤ 1048576 := of_decide_eq_true (hcond _ rfl)
  obtain ⟨p, q, hA0, hV, rfl, hfz, hnd⟩ := hW
  have hA : DataW.TrodAll enc Tryd.prog W 0 (fun _ => true) true Tryd.f7.params.toList args.toList ds p := hA0
  rw [Tryd.params7] at hA hval
  obtain ⟨v0, d0, rfl, rfl, h0⟩ := trodAll_one hA
  obtain ⟨rfl, rfl⟩ := trodVars_none hV
  obtain ⟨k, t, n, f, s, r0, r1, r2, r3, pp, ii, rfl, hn, hf, hsz⟩ := open_datumU h0
  have hb1 : Rows.uptoBulk d0 ≤ 1048576 := by
    simp only [List.cons_append, List.nil_append, Rows.uptoBulkAll] at hbulk
    omega
  obtain ⟨hts, hss⟩ := hsz hb1
  clear hA0 hval0 hbulk hcond
  simp only [List.append_nil] at hW'
  have hlt1 : ∀ x ∈ p, x.block < W.heap.size := fun x hx => hW'.lt x (by simp [hx])
  refine (showsLaw_any k t n f s r0 r1 r2 r3 pp ii W (by omega) (by omega) hn.1 hn.2 hf.1 hf.2 (tabS_of_laid hL) (tabZ_of_laid hL)).mono fun e W' ⟨he, hb⟩ => ?_
  subst he
  have k1 := Below.trod Tryd.laidOut (by kernel_rfl) (of_decide_eq_true (by kernel_rfl)) h0 hb hlt1
  exact ⟨_, rfl, _, _, _, [], p, [], hW', trodAll_mk1 (shut_bool Tryd.underlying4 _), trodAll_mk1 k1, rfl, hb.frame _, fun h => by cases h⟩

theorem numberShows_said : Rows.NumberShowsUptoSaid :=
  OpenClaim.holds_of_cond 7 Tryd.f7 rfl rfl rfl rfl rfl rfl rfl ⟨rfl, rfl, rfl, rfl, rfl⟩ rfl rfl rfl rfl rfl (by kernel_rfl) Tryd.func7 (by kernel_rfl)
    (of_decide_eq_true (by kernel_rfl)) (by unfold Func.isWrapper; first | (rw [if_pos (by decide +kernel)]; kernel_rfl) | (rw [if_neg (by decide +kernel)]; exact ⟨rfl, rfl⟩))
    (fun os started H enc _ F => by rw [OpenClaim.pre_eq_preRow]; exact numberShows_lifted os started H enc F)

theorem numberShows_plain (f : FuncId) (fn : Func) (hf : Tryd.pinned.checked.prog.funcNamed "guise/guiselaw6.NumberShows" = some f) (hfn : Tryd.pinned.checked.prog.funcs[f]? = some fn) :
    true = Tryd.pinned.checked.prog.looks [] ∧ ∀ (j : Nat) t, fn.params[j]? = some t → Tryd.pinned.checked.prog.wantsStandIn t = false := by
  obtain rfl : f = 7 := Option.some.inj ((show Tryd.prog.funcNamed "guise/guiselaw6.NumberShows" = some 7 by kernel_rfl).symm.trans hf) |>.symm
  obtain rfl : fn = Tryd.f7 := (Option.some.inj (Tryd.func7.symm.trans hfn)).symm
  refine ⟨by kernel_rfl, fun j t ht => ?_⟩
  rw [Tryd.params7] at ht
  obtain rfl : t = 28 := by simpa using Array.mem_of_getElem? ht
  exact (show Tryd.prog.wantsStandIn 28 = false by kernel_rfl)

/-- The second form's card of NumberShows. -/
theorem numberShows_card : Rows.NumberShowsUptoCardSaid :=
  Claim7.holds_tied_plain_at .later [] _ _ _ _ numberShows_said (fun _ h => by cases h) (by kernel_rfl) (fun _ h => by cases h) numberShowsUpto_row_tie rfl ⟨rfl, rfl⟩ (by kernel_rfl) rfl numberShows_plain (by kernel_rfl)
#print axioms numberShows_card
end Go.Proofs.YtoplmbboaobahaaDoor
