/-
  NARROWER THAN 'FOR EVERY INPUT', by the rows' own cells (each row's printed sentence says how): ValueAlike: laid · ValueOrder: laid · ValueNone: laid.
  DERIVED. THE GIVEN ROWS OF THIS SEAT. 3 by the template 'for every input the law returns true; each argument reads behind the call as it read before'; 0 by the template 'total and deterministic' (their statements: YtnhbpcmiolkllabDoorTotals.lean).
  GIVEN WITH THE SEED: the statements are not yours to turn. If you find one false, say at which input.
  Laid BY PROGRAM, IN A SANDBOX (cutbox-rows.mjs): the forced cells as the released guide's own fill.sh prints them over the translation ef8e4d941401a160… (all of the seat's roots in one cut). By AI agents, Wed Nov 11 2026. No macro, syntax, notation, axiom, sorry.
-/
import Derived.Test.YtnhbpcmiolkllabDoorChecked
import GoSem.Claim
import GoSem.ClaimJoined
import GoSem.ClaimMapViews
import Derived.JoinedTies
import Derived.KernelRfl
namespace Go.Proofs.YtnhbpcmiolkllabDoor
/- THE CELL 'sum', in the pinned program and in every row, IS THE sha256 OF THE DUMP (.gsa) THAT YtnhbpcmiolkllabDoorProg.lean LOADS. Nothing in Lean hashes anything: it is a label: what it is worth is what the hold of that sum in a sandbox is worth. -/
noncomputable def Tryd.pinned : Pinned := { name := "ytnhbpcmiolkllabdoor", sum := "ef8e4d941401a160b3bdfa9bddfa5d1bb583aa8cf8b1b54022611e6a81256638", checked := Tryd.checked }
namespace Rows
def none {H : Type} : Left H := { results := [], args := [] }

/- WHAT THE LISTED PACKAGE-LEVEL VARIABLES READ AS WHEN THE CALL BEGINS. Each datum BY PROGRAM (the guide's laid-datum.mjs) off the statement by which the dump's own 'gosem.cut.vars' lays the variable. In a bare row this is a premise. The card (YtnhbpcmiolkllabDoorCards.lean) ties it to the program's text. -/
def laid_guise_value_ownNames {H : Type} : DataW H := .agg [.lit (.string []), .lit (.string [98, 111, 111, 108]), .lit (.string [105, 110, 116]), .lit (.string [102, 108, 111, 97, 116]), .lit (.string [116, 101, 120, 116]), .lit (.string [108, 105, 115, 116]), .lit (.string [109, 97, 112]), .lit (.string [102, 117, 110, 99])]

/-- 'guiselaw7.ValueAlike': WHATEVER THE INPUT: true; the input reads as it did. -/
def valueAlikeSpec : ChangeSpec := { name := "valueAlike", fn := fun _ => fun
  | [d1, d2, d3] => { results := [.lit (.bool true)], args := [d1, d2, d3] }
  | _ => none }
def valueAlikeRow : OpenClaim := { program := "ytnhbpcmiolkllabdoor", sum := "ef8e4d941401a160b3bdfa9bddfa5d1bb583aa8cf8b1b54022611e6a81256638", func := "guise/guiselaw7.ValueAlike", spec := "valueAlike", inPlace := ["math.Float64frombits"], unfollowed := true, recurses := true, named := ["guise/value.ownNames"], apart := false, laid := [("guise/value.ownNames", laid_guise_value_ownNames)] }
def ValueAlikeSaid : Prop := valueAlikeRow.holds Tryd.pinned (OpenSpec.ofChange valueAlikeSpec)

/-- ITS FALSE NEIGHBOUR: 'it returns false'. Refute it at one input. -/
def valueAlikeWrong : ChangeSpec := { name := "valueAlike", fn := fun _ => fun
  | [d1, d2, d3] => { results := [.lit (.bool false)], args := [d1, d2, d3] }
  | _ => none }
def ValueAlikeWrongFalsely : Prop := valueAlikeRow.holds Tryd.pinned (OpenSpec.ofChange valueAlikeWrong)

/-- 'guiselaw7.ValueOrder': WHATEVER THE INPUT: true; the input reads as it did. -/
def valueOrderSpec : ChangeSpec := { name := "valueOrder", fn := fun _ => fun
  | [d1, d2] => { results := [.lit (.bool true)], args := [d1, d2] }
  | _ => none }
def valueOrderRow : OpenClaim := { program := "ytnhbpcmiolkllabdoor", sum := "ef8e4d941401a160b3bdfa9bddfa5d1bb583aa8cf8b1b54022611e6a81256638", func := "guise/guiselaw7.ValueOrder", spec := "valueOrder", inPlace := ["math.Float64frombits"], unfollowed := true, recurses := true, named := ["guise/value.ownNames"], apart := false, laid := [("guise/value.ownNames", laid_guise_value_ownNames)] }
def ValueOrderSaid : Prop := valueOrderRow.holds Tryd.pinned (OpenSpec.ofChange valueOrderSpec)

/-- ITS FALSE NEIGHBOUR: 'it returns false'. Refute it at one input. -/
def valueOrderWrong : ChangeSpec := { name := "valueOrder", fn := fun _ => fun
  | [d1, d2] => { results := [.lit (.bool false)], args := [d1, d2] }
  | _ => none }
def ValueOrderWrongFalsely : Prop := valueOrderRow.holds Tryd.pinned (OpenSpec.ofChange valueOrderWrong)

/-- 'guiselaw7.ValueNone': WHATEVER THE INPUT: true; the input reads as it did. -/
def valueNoneSpec : ChangeSpec := { name := "valueNone", fn := fun _ => fun
  | [d1, d2] => { results := [.lit (.bool true)], args := [d1, d2] }
  | _ => none }
def valueNoneRow : OpenClaim := { program := "ytnhbpcmiolkllabdoor", sum := "ef8e4d941401a160b3bdfa9bddfa5d1bb583aa8cf8b1b54022611e6a81256638", func := "guise/guiselaw7.ValueNone", spec := "valueNone", inPlace := ["math.Float64frombits"], unfollowed := true, recurses := true, named := ["guise/value.ownNames"], apart := false, laid := [("guise/value.ownNames", laid_guise_value_ownNames)] }
def ValueNoneSaid : Prop := valueNoneRow.holds Tryd.pinned (OpenSpec.ofChange valueNoneSpec)

/-- ITS FALSE NEIGHBOUR: 'it returns false'. Refute it at one input. -/
def valueNoneWrong : ChangeSpec := { name := "valueNone", fn := fun _ => fun
  | [d1, d2] => { results := [.lit (.bool false)], args := [d1, d2] }
  | _ => none }
def ValueNoneWrongFalsely : Prop := valueNoneRow.holds Tryd.pinned (OpenSpec.ofChange valueNoneWrong)

/- THE SECOND FORM. 'bulk': how many values and letters a reading holds, each counted each time it is reached (what is shared counts as often as it is met; a slice's spare places count too). A statement '..UptoSaid' is the law's where the arguments, and the package variables that the reading takes, are together of bulk at most 1048576: NARROWER than '..Said'. Prove '..Said' where nothing that the law and all that it calls make is longer than what came in: it says more and counts as full. Else prove '..UptoSaid'. A law counts once. -/
mutual
def uptoBulk {H : Type} : DataW H → Nat
  | .lit (.string bytes) => bytes.length + 1
  | .lit _ => 1
  | .nil => 1
  | .ptr d => uptoBulk d + 1
  | .slice elems spare => uptoBulkAll elems + uptoBulkAll spare + 1
  | .agg parts => uptoBulkAll parts + 1
  | .iface _ d => uptoBulk d + 1
  | .map entries => uptoBulkEntries entries + 1
  | .held _ => 1
def uptoBulkAll {H : Type} : List (DataW H) → Nat
  | [] => 0
  | d :: r => uptoBulk d + uptoBulkAll r
def uptoBulkEntries {H : Type} : List (Lit × DataW H) → Nat
  | [] => 0
  | x :: r => uptoBulkEntry x + uptoBulkEntries r
def uptoBulkEntry {H : Type} : Lit × DataW H → Nat
  | (.string bytes, d) => bytes.length + uptoBulk d + 1
  | (_, d) => uptoBulk d + 1
 end
def uptoSmall : (H : Type) → List (DataW H) → Bool := fun _ ds => decide (uptoBulkAll ds ≤ 1048576)
def OpenSpec.upto (s : _root_.Go.ChangeSpec) : _root_.Go.OpenSpec := { _root_.Go.OpenSpec.ofChange s with cond := some uptoSmall }

/-- 'guiselaw7.ValueAlike', WHERE WHAT IT READS IS OF BULK AT MOST 1048576: true; the input reads as it did. -/
def valueAlikeUptoRow : OpenClaim := { program := "ytnhbpcmiolkllabdoor", sum := "ef8e4d941401a160b3bdfa9bddfa5d1bb583aa8cf8b1b54022611e6a81256638", func := "guise/guiselaw7.ValueAlike", spec := "valueAlike", inPlace := ["math.Float64frombits"], unfollowed := true, recurses := true, named := ["guise/value.ownNames"], apart := false, laid := [("guise/value.ownNames", laid_guise_value_ownNames)], narrowed := true }
def ValueAlikeUptoSaid : Prop := valueAlikeUptoRow.holds Tryd.pinned (OpenSpec.upto valueAlikeSpec)

/-- 'guiselaw7.ValueOrder', WHERE WHAT IT READS IS OF BULK AT MOST 1048576: true; the input reads as it did. -/
def valueOrderUptoRow : OpenClaim := { program := "ytnhbpcmiolkllabdoor", sum := "ef8e4d941401a160b3bdfa9bddfa5d1bb583aa8cf8b1b54022611e6a81256638", func := "guise/guiselaw7.ValueOrder", spec := "valueOrder", inPlace := ["math.Float64frombits"], unfollowed := true, recurses := true, named := ["guise/value.ownNames"], apart := false, laid := [("guise/value.ownNames", laid_guise_value_ownNames)], narrowed := true }
def ValueOrderUptoSaid : Prop := valueOrderUptoRow.holds Tryd.pinned (OpenSpec.upto valueOrderSpec)

/-- 'guiselaw7.ValueNone', WHERE WHAT IT READS IS OF BULK AT MOST 1048576: true; the input reads as it did. -/
def valueNoneUptoRow : OpenClaim := { program := "ytnhbpcmiolkllabdoor", sum := "ef8e4d941401a160b3bdfa9bddfa5d1bb583aa8cf8b1b54022611e6a81256638", func := "guise/guiselaw7.ValueNone", spec := "valueNone", inPlace := ["math.Float64frombits"], unfollowed := true, recurses := true, named := ["guise/value.ownNames"], apart := false, laid := [("guise/value.ownNames", laid_guise_value_ownNames)], narrowed := true }
def ValueNoneUptoSaid : Prop := valueNoneUptoRow.holds Tryd.pinned (OpenSpec.upto valueNoneSpec)

end Rows
end Go.Proofs.YtnhbpcmiolkllabDoor
