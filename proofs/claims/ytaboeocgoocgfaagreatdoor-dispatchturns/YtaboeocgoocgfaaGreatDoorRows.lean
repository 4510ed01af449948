/-
  NARROWER THAN 'FOR EVERY INPUT', by the rows' own cells (each row's printed sentence says how): DispatchRoom: laid · DispatchTurns: laid.
  DERIVED. THE GIVEN ROWS OF THIS SEAT. 2 by the template 'for every input the law returns true; each argument reads behind the call as it read before'; 0 by the template 'total and deterministic' (their statements: YtaboeocgoocgfaaGreatDoorTotals.lean).
  GIVEN WITH THE SEED: the statements are not yours to turn. If you find one false, say at which input.
  Laid BY PROGRAM, IN A SANDBOX (cutbox-rows.mjs): the forced cells as the released guide's own fill.sh prints them over the translation 8fd89b71045ca96b… (all of the seat's roots in one cut). By AI agents, Wed Nov 11 2026. No macro, syntax, notation, axiom, sorry.
-/
import Derived.Test.YtaboeocgoocgfaaGreatDoorChecked
import GoSem.Claim
import GoSem.ClaimJoined
import GoSem.ClaimMapViews
import Derived.JoinedTies
import Derived.KernelRfl
namespace Go.Proofs.YtaboeocgoocgfaaGreatDoor
/- THE CELL 'sum', in the pinned program and in every row, IS THE sha256 OF THE DUMP (.gsa) THAT YtaboeocgoocgfaaGreatDoorProg.lean LOADS. Nothing in Lean hashes anything: it is a label: what it is worth is what the hold of that sum in a sandbox is worth. -/
noncomputable def Tryz.pinned : Pinned := { name := "ytaboeocgoocgfaagreatdoor", sum := "8fd89b71045ca96b8920b9435c5dc31446492645e3c79d411406e9d754d7f3b1", checked := Tryz.checked }
namespace Rows
def none {H : Type} : Left H := { results := [], args := [] }

/- WHAT THE LISTED PACKAGE-LEVEL VARIABLES READ AS WHEN THE CALL BEGINS. Each datum BY PROGRAM (the guide's laid-datum.mjs) off the statement by which the dump's own 'gosem.cut.vars' lays the variable. In a bare row this is a premise. The card (YtaboeocgoocgfaaGreatDoorCards.lean) ties it to the program's text. -/
def laid_errors_errorType {H : Type} : DataW H := .iface "internal/reflectlite.rtype" (.agg [.ptr (.lit (.string [101, 114, 114, 111, 114]))])
def laid_guise_lex_words {H : Type} : DataW H := .slice [.agg [.lit (.string [97, 110, 121]), .lit (.bool true)], .agg [.lit (.string [98, 114, 101, 97, 107]), .lit (.bool true)], .agg [.lit (.string [99, 97, 115, 101]), .lit (.bool false)], .agg [.lit (.string [99, 111, 110, 116, 105, 110, 117, 101]), .lit (.bool true)], .agg [.lit (.string [100, 101, 102, 97, 117, 108, 116]), .lit (.bool false)], .agg [.lit (.string [100, 101, 102, 101, 114]), .lit (.bool false)], .agg [.lit (.string [101, 108, 115, 101]), .lit (.bool false)], .agg [.lit (.string [102, 97, 108, 108, 116, 104, 114, 111, 117, 103, 104]), .lit (.bool true)], .agg [.lit (.string [102, 97, 108, 115, 101]), .lit (.bool true)], .agg [.lit (.string [102, 111, 114]), .lit (.bool false)], .agg [.lit (.string [102, 117, 110, 99]), .lit (.bool true)], .agg [.lit (.string [105, 102]), .lit (.bool false)], .agg [.lit (.string [105, 110]), .lit (.bool false)], .agg [.lit (.string [109, 97, 112]), .lit (.bool true)], .agg [.lit (.string [110, 105, 108]), .lit (.bool true)], .agg [.lit (.string [112, 114, 111, 116, 111, 99, 111, 108]), .lit (.bool false)], .agg [.lit (.string [114, 101, 116, 117, 114, 110]), .lit (.bool true)], .agg [.lit (.string [115, 116, 114, 117, 99, 116]), .lit (.bool false)], .agg [.lit (.string [115, 119, 105, 116, 99, 104]), .lit (.bool false)], .agg [.lit (.string [116, 114, 117, 101]), .lit (.bool true)], .agg [.lit (.string [116, 121, 112, 101]), .lit (.bool false)], .agg [.lit (.string [118, 97, 114]), .lit (.bool false)]] []
def laid_guise_lex_signs {H : Type} : DataW H := .slice [.lit (.string [60, 60, 61]), .lit (.string [62, 62, 61]), .lit (.string [58, 61]), .lit (.string [61, 61]), .lit (.string [33, 61]), .lit (.string [60, 61]), .lit (.string [62, 61]), .lit (.string [38, 38]), .lit (.string [124, 124]), .lit (.string [60, 60]), .lit (.string [62, 62]), .lit (.string [43, 61]), .lit (.string [45, 61]), .lit (.string [42, 61]), .lit (.string [47, 61]), .lit (.string [37, 61]), .lit (.string [38, 61]), .lit (.string [124, 61]), .lit (.string [94, 61]), .lit (.string [43, 43]), .lit (.string [45, 45]), .lit (.string [43]), .lit (.string [45]), .lit (.string [42]), .lit (.string [47]), .lit (.string [37]), .lit (.string [38]), .lit (.string [124]), .lit (.string [94]), .lit (.string [33]), .lit (.string [60]), .lit (.string [62]), .lit (.string [61]), .lit (.string [40]), .lit (.string [41]), .lit (.string [91]), .lit (.string [93]), .lit (.string [123]), .lit (.string [125]), .lit (.string [44]), .lit (.string [46]), .lit (.string [58])] []

/-- 'guiselaw11.DispatchRoom': WHATEVER THE INPUT: true; the input reads as it did. -/
def dispatchRoomSpec : ChangeSpec := { name := "dispatchRoom", fn := fun _ => fun
  | [d] => { results := [.lit (.bool true)], args := [d] }
  | _ => none }
def dispatchRoomRow : OpenClaim := { program := "ytaboeocgoocgfaagreatdoor", sum := "8fd89b71045ca96b8920b9435c5dc31446492645e3c79d411406e9d754d7f3b1", func := "guise/guiselaw11.DispatchRoom", spec := "dispatchRoom", inPlace := ["maps.clone", "internal/bytealg.abigen_runtime_cmpstring", "internal/reflectlite.ValueOf", "(internal/reflectlite.Value).Type", "(internal/reflectlite.Value).IsNil", "internal/reflectlite.TypeOf", "(internal/reflectlite.Value).Elem", "(internal/reflectlite.Value).Set"], unfollowed := true, recurses := true, named := ["guise/lex.words", "guise/lex.signs", "errors.errorType"], plainKeys := false, apart := false, laid := [("errors.errorType", laid_errors_errorType), ("guise/lex.words", laid_guise_lex_words), ("guise/lex.signs", laid_guise_lex_signs)] }
def DispatchRoomSaid : Prop := dispatchRoomRow.holds Tryz.pinned (OpenSpec.ofChange dispatchRoomSpec)

/-- ITS FALSE NEIGHBOUR: 'it returns false'. Refute it at one input. -/
def dispatchRoomWrong : ChangeSpec := { name := "dispatchRoom", fn := fun _ => fun
  | [d] => { results := [.lit (.bool false)], args := [d] }
  | _ => none }
def DispatchRoomWrongFalsely : Prop := dispatchRoomRow.holds Tryz.pinned (OpenSpec.ofChange dispatchRoomWrong)

/-- 'guiselaw11.DispatchTurns': WHATEVER THE INPUT: true; the input reads as it did. -/
def dispatchTurnsSpec : ChangeSpec := { name := "dispatchTurns", fn := fun _ => fun
  | [d1, d2] => { results := [.lit (.bool true)], args := [d1, d2] }
  | _ => none }
def dispatchTurnsRow : OpenClaim := { program := "ytaboeocgoocgfaagreatdoor", sum := "8fd89b71045ca96b8920b9435c5dc31446492645e3c79d411406e9d754d7f3b1", func := "guise/guiselaw11.DispatchTurns", spec := "dispatchTurns", inPlace := ["maps.clone", "internal/bytealg.abigen_runtime_cmpstring", "internal/reflectlite.ValueOf", "(internal/reflectlite.Value).Type", "(internal/reflectlite.Value).IsNil", "internal/reflectlite.TypeOf", "(internal/reflectlite.Value).Elem", "(internal/reflectlite.Value).Set"], unfollowed := true, recurses := true, named := ["guise/lex.words", "guise/lex.signs", "errors.errorType"], plainKeys := false, apart := false, laid := [("errors.errorType", laid_errors_errorType), ("guise/lex.words", laid_guise_lex_words), ("guise/lex.signs", laid_guise_lex_signs)] }
def DispatchTurnsSaid : Prop := dispatchTurnsRow.holds Tryz.pinned (OpenSpec.ofChange dispatchTurnsSpec)

/-- ITS FALSE NEIGHBOUR: 'it returns false'. Refute it at one input. -/
def dispatchTurnsWrong : ChangeSpec := { name := "dispatchTurns", fn := fun _ => fun
  | [d1, d2] => { results := [.lit (.bool false)], args := [d1, d2] }
  | _ => none }
def DispatchTurnsWrongFalsely : Prop := dispatchTurnsRow.holds Tryz.pinned (OpenSpec.ofChange dispatchTurnsWrong)

/- THE SECOND FORM. 'bulk': how many values and letters a reading holds, each counted each time it is reached (what is shared counts as often as it is met; a slice's spare places count too). A statement '..UptoSaid' is the law's where the arguments, and the package variables that the reading takes, are together of bulk at most 1048576: NARROWER than '..Said'. Prove '..Said' where nothing that the law and all that it calls make is longer than what came in: it says more and counts as full. Else prove '..UptoSaid'. A law counts once. -/
mutual
def uptoBulk {H : Type} : DataW H → Nat
  | .lit (.string bytes) => bytes.length + 1
  | .lit _ => 1
  | .nil => 1
  | .ptr d => uptoBulk d + 1
  | .slice elems spare => uptoBulkAll elems + uptoBulkAll spare + 1
  | .agg parts => uptoBulkAll parts + 1
  | .iface _ d => uptoBulk d + 1
  | .map entries => uptoBulkEntries entries + 1
  | .held _ => 1
def uptoBulkAll {H : Type} : List (DataW H) → Nat
  | [] => 0
  | d :: r => uptoBulk d + uptoBulkAll r
def uptoBulkEntries {H : Type} : List (Lit × DataW H) → Nat
  | [] => 0
  | x :: r => uptoBulkEntry x + uptoBulkEntries r
def uptoBulkEntry {H : Type} : Lit × DataW H → Nat
  | (.string bytes, d) => bytes.length + uptoBulk d + 1
  | (_, d) => uptoBulk d + 1
 end
def uptoSmall : (H : Type) → List (DataW H) → Bool := fun _ ds => decide (uptoBulkAll ds ≤ 1048576)
def OpenSpec.upto (s : _root_.Go.ChangeSpec) : _root_.Go.OpenSpec := { _root_.Go.OpenSpec.ofChange s with cond := some uptoSmall }

/-- 'guiselaw11.DispatchRoom', WHERE WHAT IT READS IS OF BULK AT MOST 1048576: true; the input reads as it did. -/
def dispatchRoomUptoRow : OpenClaim := { program := "ytaboeocgoocgfaagreatdoor", sum := "8fd89b71045ca96b8920b9435c5dc31446492645e3c79d411406e9d754d7f3b1", func := "guise/guiselaw11.DispatchRoom", spec := "dispatchRoom", inPlace := ["maps.clone", "internal/bytealg.abigen_runtime_cmpstring", "internal/reflectlite.ValueOf", "(internal/reflectlite.Value).Type", "(internal/reflectlite.Value).IsNil", "internal/reflectlite.TypeOf", "(internal/reflectlite.Value).Elem", "(internal/reflectlite.Value).Set"], unfollowed := true, recurses := true, named := ["guise/lex.words", "guise/lex.signs", "errors.errorType"], plainKeys := false, apart := false, laid := [("errors.errorType", laid_errors_errorType), ("guise/lex.words", laid_guise_lex_words), ("guise/lex.signs", laid_guise_lex_signs)], narrowed := true }
def DispatchRoomUptoSaid : Prop := dispatchRoomUptoRow.holds Tryz.pinned (OpenSpec.upto dispatchRoomSpec)

/-- 'guiselaw11.DispatchTurns', WHERE WHAT IT READS IS OF BULK AT MOST 1048576: true; the input reads as it did. -/
def dispatchTurnsUptoRow : OpenClaim := { program := "ytaboeocgoocgfaagreatdoor", sum := "8fd89b71045ca96b8920b9435c5dc31446492645e3c79d411406e9d754d7f3b1", func := "guise/guiselaw11.DispatchTurns", spec := "dispatchTurns", inPlace := ["maps.clone", "internal/bytealg.abigen_runtime_cmpstring", "internal/reflectlite.ValueOf", "(internal/reflectlite.Value).Type", "(internal/reflectlite.Value).IsNil", "internal/reflectlite.TypeOf", "(internal/reflectlite.Value).Elem", "(internal/reflectlite.Value).Set"], unfollowed := true, recurses := true, named := ["guise/lex.words", "guise/lex.signs", "errors.errorType"], plainKeys := false, apart := false, laid := [("errors.errorType", laid_errors_errorType), ("guise/lex.words", laid_guise_lex_words), ("guise/lex.signs", laid_guise_lex_signs)], narrowed := true }
def DispatchTurnsUptoSaid : Prop := dispatchTurnsUptoRow.holds Tryz.pinned (OpenSpec.upto dispatchTurnsSpec)

end Rows
end Go.Proofs.YtaboeocgoocgfaaGreatDoor
