/-
  The law NumberUnary is proved: at any text and any datum the call returns true, and both read afterwards as they read before; the three package-level variables that the row lists start as the program's text lays them.
-/
import Derived.Test.YtoplmbboaobahaaDoorCards
import Derived.Test.YtoplmbboaobahaaDoorTie
import Derived.Test.YtoplmbboaobahaaDoorZ
import Derived.Test.YtoplmbboaobahaaDoorOd
import Derived.Test.YtoplmbboaobahaaDoorNumberRing
namespace Go.Proofs.YtoplmbboaobahaaDoor
open Go.RowKit

theorem of_toList (u : ByteArray) (l : List UInt8) (h : u.toList = l) : u = ⟨l.toArray⟩ := by
  rw [ByteArray.toList_eq] at h
  subst h
  rfl

theorem unaryLaw_any (u : ByteArray) (k : Int) (t : ByteArray) (a f : Int) (s : ByteArray) (r0 r1 r2 r3 : Int) (p i : Value) (w : World) (hu : u.size ≤ 140737488351232) (ht : t.size ≤ 140737488351232) (ha0 : -9223372036854775808 ≤ a) (ha1 : a ≤ 9223372036854775807) :
    Calls Tryd.prog 3 #[.string u, D k t a f s r0 r1 r2 r3 p i] w fun r w' => r = .returned (.bool true) ∧ Below w.heap.size w w' := by
  have bad : noUn u k → Calls Tryd.prog 3 #[.string u, D k t a f s r0 r1 r2 r3 p i] w fun r w' => r = .returned (.bool true) ∧ Below w.heap.size w w' := fun h =>
    unaryLaw_bad u k t a f s r0 r1 r2 r3 p i w (opd u k t) (fun W => unary_bad u k t a f s r0 r1 r2 r3 p i W ht hu h) (fun W => refUnary_bad u k t a f s r0 r1 r2 r3 p i W ht hu h)
  by_cases e45 : u.toList = [45]
  · by_cases k2 : k = 2
    · subst k2
      obtain rfl := of_toList u _ e45
      exact unaryLaw_good _ 2 t a f s r0 r1 r2 r3 p i w 2 t (wr (-a)) 0 (fun W => unary_int true t a f s r0 r1 r2 r3 p i W ht) (fun W => refUnary_neg t a f s r0 r1 r2 r3 p i W ha0 ha1)
    · by_cases k3 : k = 3
      · subst k3
        obtain rfl := of_toList u _ e45
        exact unaryLaw_good _ 3 t a f s r0 r1 r2 r3 p i w 3 t 0 (canon (flip f)) (fun W => unary_float t a f s r0 r1 r2 r3 p i W ht) (fun W => refUnary_flt t a f s r0 r1 r2 r3 p i W)
      · exact bad ⟨fun _ => ⟨k2, k3⟩, (fun h => by rw [e45] at h; cases h), (fun h => by rw [e45] at h; cases h)⟩
  · by_cases e94 : u.toList = [94]
    · by_cases k2 : k = 2
      · subst k2
        obtain rfl := of_toList u _ e94
        exact unaryLaw_good _ 2 t a f s r0 r1 r2 r3 p i w 2 t (bits BinOp.xor .i64 (-1) a) 0 (fun W => unary_int false t a f s r0 r1 r2 r3 p i W ht) (fun W => refUnary_xor t a f s r0 r1 r2 r3 p i W ha0 ha1)
      · exact bad ⟨fun h => absurd h e45, fun _ => k2, (fun h => by rw [e94] at h; cases h)⟩
    · by_cases e33 : u.toList = [33]
      · by_cases k1 : k = 1
        · subst k1
          obtain rfl := of_toList u _ e33
          exact unaryLaw_good _ 1 t a f s r0 r1 r2 r3 p i w 1 t (b01 (a == 0)) 0 (fun W => unary_bool t a f s r0 r1 r2 r3 p i W ht) (fun W => refUnary_bool t a f s r0 r1 r2 r3 p i W)
        · exact bad ⟨fun h => absurd h e45, fun h => absurd h e94, fun _ => k1⟩
      · exact bad ⟨fun h => absurd h e45, fun h => absurd h e94, fun h => absurd h e33⟩
end Go.Proofs.YtoplmbboaobahaaDoor
namespace Go.Proofs.YtoplmbboaobahaaDoor
open Go.ChangeShapes Go.WideShapes Go.ChangeAt Go.WideMaps Go.WideElems Go.RowKit
open Go.ChangeMaps (open_string shut_string)

def datum0 : Value := .agg #[.int .i64 0, .string ⟨#[]⟩, .int .i64 0, .int .u64 0, .string ⟨#[]⟩, .int .i64 0, .int .i64 0, .int .i64 0, .int .i64 0, .slice none 0 0, .slice none 0 0]

set_option maxRecDepth 100000 in
theorem numberUnary_lifted (os : Os) (started : os.Started) (H : Type) (enc : TypeId × Value → H) :
    ReturnsInHanded {} Tryd.checked os 3 .any (fun w args => (Rows.numberUnarySpec.pre enc Tryd.prog Tryd.f3 [] false w args ∧ laidMetH Tryd.prog laidList w) ∧ sizedMet enc Tryd.prog Tryd.f3 (OpenSpec.ofChange Rows.numberUnarySpec) false w args)
      (Rows.numberUnarySpec.post enc Tryd.prog Tryd.f3 false true false false) := by
  refine returnsInHanded_of_change_and (C := Tryd.checked) (X := fun w _ => laidMetH Tryd.prog laidList w) (fun _ _ _ hh h => h.of_heap hh) Tryd.own started (by kernel_rfl) Tryd.func3
    (ChangeSpec.witness_shaped (enc := enc) (C := Tryd.checked) (os := os) (X := fun w _ => laidMetH Tryd.prog laidList w) false (World.doorLaid Tryd.prog 400 os) #[.string ⟨#[]⟩, datum0] 8 rfl (World.shaped_of_RefB (by kernel_rfl) (by kernel_rfl)) (by kernel_rfl) (by kernel_rfl) (by kernel_rfl) (door_met os _)) ?_
  intro W base args ds gs before hval0 hW _ hwt _ _
  have hval : ∀ (j : Nat) t v, Tryd.f3.params[j]? = some t → args[j]? = some v → Value.okWide Tryd.prog W .any base t v := hval0
  have hW' := hW
  obtain ⟨p, q, hA0, hV, rfl, hfz, hnd⟩ := hW
  have hA : DataW.TrodAll enc Tryd.prog W 0 (fun _ => true) true Tryd.f3.params.toList args.toList ds p := hA0
  rw [Tryd.params3] at hA hval
  obtain ⟨v0, v1, d0, d1, p0, p1, rfl, rfl, rfl, h0, h1⟩ := trodAll_two hA
  obtain ⟨rfl, rfl⟩ := trodVars_none hV
  obtain ⟨u, rfl, rfl, rfl, hu⟩ := open_string Tryd.underlying9 (hval 0 9 v0 rfl rfl) h0
  obtain ⟨k, t, n, f, s, r0, r1, r2, r3, pp, ii, rfl, hn, hf, hsz⟩ := open_datum h1
  have hwt' : (DataW.weights Tryd.prog 9 (.lit (.string u.data.toList) : DataW H) ++ (d1.weights Tryd.prog 28 ++ [])).all (· ≤ reachBytes) = true := hwt
  rw [List.all_append, Bool.and_eq_true, List.append_nil] at hwt'
  have hus : u.size ≤ 140737488351232 := by
    have h9 := hwt'.1
    simp [DataW.weights, reachBytes] at h9
    exact of_decide_eq_true h9
  obtain ⟨hts, _⟩ := hsz hwt'.2
  clear hA0 hval0
  simp only [List.append_nil, List.nil_append] at hW'
  have hlt1 : ∀ x ∈ p1, x.block < W.heap.size := fun x hx => hW'.lt x (by simp [hx])
  refine (unaryLaw_any u k t n f s r0 r1 r2 r3 pp ii W hus hts hn.1 hn.2).mono fun e W' ⟨he, hb⟩ => ?_
  subst he
  have k1 := Below.trod Tryd.laidOut (by kernel_rfl) (of_decide_eq_true (by kernel_rfl)) h1 hb hlt1
  have k2 := trodAll_mk2 (shut_string (enc := enc) (w := W') (base := 0) (sp := fun b => decide (b < W.heap.size)) (held := true) Tryd.underlying9 hu) k1
  rw [List.nil_append] at k2
  exact ⟨_, rfl, _, _, _, [], p1, [], hW', trodAll_mk1 (shut_bool Tryd.underlying4 _), k2, rfl, hb.frame _, fun h => by cases h⟩

theorem numberUnary_said : Rows.NumberUnarySaid :=
  OpenClaim.holds_of_wide 3 Tryd.f3 rfl rfl rfl rfl rfl rfl rfl ⟨rfl, rfl, rfl, rfl, rfl⟩ rfl rfl rfl rfl rfl (by kernel_rfl) Tryd.func3 (by kernel_rfl)
    (of_decide_eq_true (by kernel_rfl)) (by unfold Func.isWrapper; first | (rw [if_pos (by decide +kernel)]; kernel_rfl) | (rw [if_neg (by decide +kernel)]; exact ⟨rfl, rfl⟩))
    (fun os started H enc _ => numberUnary_lifted os started H enc)

theorem numberUnary_plain (f : FuncId) (fn : Func) (hf : Tryd.pinned.checked.prog.funcNamed "guise/guiselaw6.NumberUnary" = some f) (hfn : Tryd.pinned.checked.prog.funcs[f]? = some fn) :
    true = Tryd.pinned.checked.prog.looks [] ∧ ∀ (j : Nat) t, fn.params[j]? = some t → Tryd.pinned.checked.prog.wantsStandIn t = false := by
  obtain rfl : f = 3 := Option.some.inj ((show Tryd.prog.funcNamed "guise/guiselaw6.NumberUnary" = some 3 by kernel_rfl).symm.trans hf) |>.symm
  obtain rfl : fn = Tryd.f3 := (Option.some.inj (Tryd.func3.symm.trans hfn)).symm
  refine ⟨by kernel_rfl, fun j t ht => ?_⟩
  rw [Tryd.params3] at ht
  have hall : ([9, 28] : List TypeId).all (fun t => !Tryd.prog.wantsStandIn t) = true := by kernel_rfl
  have hm : t ∈ ([9, 28] : List TypeId) := by simpa using Array.mem_of_getElem? ht
  have he : Tryd.prog.wantsStandIn t = false := by simpa using List.all_eq_true.1 hall t hm
  exact he

/-- The card of NumberUnary. -/
theorem numberUnary_card : Rows.NumberUnaryCardSaid :=
  Claim7.holds_tied_plain_at .later [] _ _ _ _ numberUnary_said (fun _ h => by cases h) (by kernel_rfl) (fun _ h => by cases h) numberUnary_row_tie rfl ⟨rfl, rfl⟩ (by kernel_rfl) rfl numberUnary_plain (by kernel_rfl)
#print axioms numberUnary_card
end Go.Proofs.YtoplmbboaobahaaDoor
