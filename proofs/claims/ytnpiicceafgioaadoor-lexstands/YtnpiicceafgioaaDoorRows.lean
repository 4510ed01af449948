/-
  NARROWER THAN 'FOR EVERY INPUT', by the rows' own cells (each row's printed sentence says how): LexScans: laid · LexQuotes: laid · LexWords: laid · LexBack: laid · LexStands: laid · LexLines: laid.
  DERIVED. THE GIVEN ROWS OF THIS SEAT. 6 by the template 'for every input the law returns true; each argument reads behind the call as it read before'; 0 by the template 'total and deterministic' (their statements: YtnpiicceafgioaaDoorTotals.lean).
  GIVEN WITH THE SEED: the statements are not yours to turn. If you find one false, say at which input.
  Laid BY PROGRAM, IN A SANDBOX (cutbox-rows.mjs): the forced cells as the released guide's own fill.sh prints them over the translation e2cb2c68a7b21e5b… (all of the seat's roots in one cut). By AI agents, Wed Nov 11 2026. No macro, syntax, notation, axiom, sorry.
-/
import Derived.Test.YtnpiicceafgioaaDoorChecked
import GoSem.Claim
import GoSem.ClaimJoined
import GoSem.ClaimMapViews
import Derived.JoinedTies
import Derived.KernelRfl
namespace Go.Proofs.YtnpiicceafgioaaDoor
/- THE CELL 'sum', in the pinned program and in every row, IS THE sha256 OF THE DUMP (.gsa) THAT YtnpiicceafgioaaDoorProg.lean LOADS. Nothing in Lean hashes anything: it is a label: what it is worth is what the hold of that sum in a sandbox is worth. -/
noncomputable def Tryd.pinned : Pinned := { name := "ytnpiicceafgioaadoor", sum := "e2cb2c68a7b21e5b57e88abff24e50954f3dd89571dc39ac01aad7641a3fb71c", checked := Tryd.checked }
namespace Rows
def none {H : Type} : Left H := { results := [], args := [] }

/- WHAT THE LISTED PACKAGE-LEVEL VARIABLES READ AS WHEN THE CALL BEGINS. Each datum BY PROGRAM (the guide's laid-datum.mjs) off the statement by which the dump's own 'gosem.cut.vars' lays the variable. In a bare row this is a premise. The card (YtnpiicceafgioaaDoorCards.lean) ties it to the program's text. -/
def laid_guise_lex_words {H : Type} : DataW H := .slice [.agg [.lit (.string [97, 110, 121]), .lit (.bool true)], .agg [.lit (.string [98, 114, 101, 97, 107]), .lit (.bool true)], .agg [.lit (.string [99, 97, 115, 101]), .lit (.bool false)], .agg [.lit (.string [99, 111, 110, 116, 105, 110, 117, 101]), .lit (.bool true)], .agg [.lit (.string [100, 101, 102, 97, 117, 108, 116]), .lit (.bool false)], .agg [.lit (.string [100, 101, 102, 101, 114]), .lit (.bool false)], .agg [.lit (.string [101, 108, 115, 101]), .lit (.bool false)], .agg [.lit (.string [102, 97, 108, 108, 116, 104, 114, 111, 117, 103, 104]), .lit (.bool true)], .agg [.lit (.string [102, 97, 108, 115, 101]), .lit (.bool true)], .agg [.lit (.string [102, 111, 114]), .lit (.bool false)], .agg [.lit (.string [102, 117, 110, 99]), .lit (.bool true)], .agg [.lit (.string [105, 102]), .lit (.bool false)], .agg [.lit (.string [105, 110]), .lit (.bool false)], .agg [.lit (.string [109, 97, 112]), .lit (.bool true)], .agg [.lit (.string [110, 105, 108]), .lit (.bool true)], .agg [.lit (.string [112, 114, 111, 116, 111, 99, 111, 108]), .lit (.bool false)], .agg [.lit (.string [114, 101, 116, 117, 114, 110]), .lit (.bool true)], .agg [.lit (.string [115, 116, 114, 117, 99, 116]), .lit (.bool false)], .agg [.lit (.string [115, 119, 105, 116, 99, 104]), .lit (.bool false)], .agg [.lit (.string [116, 114, 117, 101]), .lit (.bool true)], .agg [.lit (.string [116, 121, 112, 101]), .lit (.bool false)], .agg [.lit (.string [118, 97, 114]), .lit (.bool false)]] []
def laid_guise_lex_signs {H : Type} : DataW H := .slice [.lit (.string [60, 60, 61]), .lit (.string [62, 62, 61]), .lit (.string [58, 61]), .lit (.string [61, 61]), .lit (.string [33, 61]), .lit (.string [60, 61]), .lit (.string [62, 61]), .lit (.string [38, 38]), .lit (.string [124, 124]), .lit (.string [60, 60]), .lit (.string [62, 62]), .lit (.string [43, 61]), .lit (.string [45, 61]), .lit (.string [42, 61]), .lit (.string [47, 61]), .lit (.string [37, 61]), .lit (.string [38, 61]), .lit (.string [124, 61]), .lit (.string [94, 61]), .lit (.string [43, 43]), .lit (.string [45, 45]), .lit (.string [43]), .lit (.string [45]), .lit (.string [42]), .lit (.string [47]), .lit (.string [37]), .lit (.string [38]), .lit (.string [124]), .lit (.string [94]), .lit (.string [33]), .lit (.string [60]), .lit (.string [62]), .lit (.string [61]), .lit (.string [40]), .lit (.string [41]), .lit (.string [91]), .lit (.string [93]), .lit (.string [123]), .lit (.string [125]), .lit (.string [44]), .lit (.string [46]), .lit (.string [58])] []

/-- 'guiselaw1.LexScans': WHATEVER THE INPUT: true; the input reads as it did. -/
def lexScansSpec : ChangeSpec := { name := "lexScans", fn := fun _ => fun
  | [d] => { results := [.lit (.bool true)], args := [d] }
  | _ => none }
def lexScansRow : OpenClaim := { program := "ytnpiicceafgioaadoor", sum := "e2cb2c68a7b21e5b57e88abff24e50954f3dd89571dc39ac01aad7641a3fb71c", func := "guise/guiselaw1.LexScans", spec := "lexScans", unfollowed := true, recurses := true, named := ["guise/lex.words", "guise/lex.signs"], apart := false, laid := [("guise/lex.words", laid_guise_lex_words), ("guise/lex.signs", laid_guise_lex_signs)] }
def LexScansSaid : Prop := lexScansRow.holds Tryd.pinned (OpenSpec.ofChange lexScansSpec)

/-- ITS FALSE NEIGHBOUR: 'it returns false'. Refute it at one input. -/
def lexScansWrong : ChangeSpec := { name := "lexScans", fn := fun _ => fun
  | [d] => { results := [.lit (.bool false)], args := [d] }
  | _ => none }
def LexScansWrongFalsely : Prop := lexScansRow.holds Tryd.pinned (OpenSpec.ofChange lexScansWrong)

/-- 'guiselaw1.LexQuotes': WHATEVER THE INPUT: true; the input reads as it did. -/
def lexQuotesSpec : ChangeSpec := { name := "lexQuotes", fn := fun _ => fun
  | [d] => { results := [.lit (.bool true)], args := [d] }
  | _ => none }
def lexQuotesRow : OpenClaim := { program := "ytnpiicceafgioaadoor", sum := "e2cb2c68a7b21e5b57e88abff24e50954f3dd89571dc39ac01aad7641a3fb71c", func := "guise/guiselaw1.LexQuotes", spec := "lexQuotes", unfollowed := true, recurses := true, named := ["guise/lex.words", "guise/lex.signs"], apart := false, laid := [("guise/lex.words", laid_guise_lex_words), ("guise/lex.signs", laid_guise_lex_signs)] }
def LexQuotesSaid : Prop := lexQuotesRow.holds Tryd.pinned (OpenSpec.ofChange lexQuotesSpec)

/-- ITS FALSE NEIGHBOUR: 'it returns false'. Refute it at one input. -/
def lexQuotesWrong : ChangeSpec := { name := "lexQuotes", fn := fun _ => fun
  | [d] => { results := [.lit (.bool false)], args := [d] }
  | _ => none }
def LexQuotesWrongFalsely : Prop := lexQuotesRow.holds Tryd.pinned (OpenSpec.ofChange lexQuotesWrong)

/-- 'guiselaw1.LexWords': WHATEVER THE INPUT: true; the input reads as it did. -/
def lexWordsSpec : ChangeSpec := { name := "lexWords", fn := fun _ => fun
  | [d] => { results := [.lit (.bool true)], args := [d] }
  | _ => none }
def lexWordsRow : OpenClaim := { program := "ytnpiicceafgioaadoor", sum := "e2cb2c68a7b21e5b57e88abff24e50954f3dd89571dc39ac01aad7641a3fb71c", func := "guise/guiselaw1.LexWords", spec := "lexWords", unfollowed := true, recurses := true, named := ["guise/lex.words", "guise/lex.signs"], apart := false, laid := [("guise/lex.words", laid_guise_lex_words), ("guise/lex.signs", laid_guise_lex_signs)] }
def LexWordsSaid : Prop := lexWordsRow.holds Tryd.pinned (OpenSpec.ofChange lexWordsSpec)

/-- ITS FALSE NEIGHBOUR: 'it returns false'. Refute it at one input. -/
def lexWordsWrong : ChangeSpec := { name := "lexWords", fn := fun _ => fun
  | [d] => { results := [.lit (.bool false)], args := [d] }
  | _ => none }
def LexWordsWrongFalsely : Prop := lexWordsRow.holds Tryd.pinned (OpenSpec.ofChange lexWordsWrong)

/-- 'guiselaw1.LexBack': WHATEVER THE INPUT: true; the input reads as it did. -/
def lexBackSpec : ChangeSpec := { name := "lexBack", fn := fun _ => fun
  | [d1, d2] => { results := [.lit (.bool true)], args := [d1, d2] }
  | _ => none }
def lexBackRow : OpenClaim := { program := "ytnpiicceafgioaadoor", sum := "e2cb2c68a7b21e5b57e88abff24e50954f3dd89571dc39ac01aad7641a3fb71c", func := "guise/guiselaw1.LexBack", spec := "lexBack", unfollowed := true, recurses := true, named := ["guise/lex.words", "guise/lex.signs"], apart := false, laid := [("guise/lex.words", laid_guise_lex_words), ("guise/lex.signs", laid_guise_lex_signs)] }
def LexBackSaid : Prop := lexBackRow.holds Tryd.pinned (OpenSpec.ofChange lexBackSpec)

/-- ITS FALSE NEIGHBOUR: 'it returns false'. Refute it at one input. -/
def lexBackWrong : ChangeSpec := { name := "lexBack", fn := fun _ => fun
  | [d1, d2] => { results := [.lit (.bool false)], args := [d1, d2] }
  | _ => none }
def LexBackWrongFalsely : Prop := lexBackRow.holds Tryd.pinned (OpenSpec.ofChange lexBackWrong)

/-- 'guiselaw1.LexStands': WHATEVER THE INPUT: true; the input reads as it did. -/
def lexStandsSpec : ChangeSpec := { name := "lexStands", fn := fun _ => fun
  | [d] => { results := [.lit (.bool true)], args := [d] }
  | _ => none }
def lexStandsRow : OpenClaim := { program := "ytnpiicceafgioaadoor", sum := "e2cb2c68a7b21e5b57e88abff24e50954f3dd89571dc39ac01aad7641a3fb71c", func := "guise/guiselaw1.LexStands", spec := "lexStands", unfollowed := true, recurses := true, named := ["guise/lex.words", "guise/lex.signs"], apart := false, laid := [("guise/lex.words", laid_guise_lex_words), ("guise/lex.signs", laid_guise_lex_signs)] }
def LexStandsSaid : Prop := lexStandsRow.holds Tryd.pinned (OpenSpec.ofChange lexStandsSpec)

/-- ITS FALSE NEIGHBOUR: 'it returns false'. Refute it at one input. -/
def lexStandsWrong : ChangeSpec := { name := "lexStands", fn := fun _ => fun
  | [d] => { results := [.lit (.bool false)], args := [d] }
  | _ => none }
def LexStandsWrongFalsely : Prop := lexStandsRow.holds Tryd.pinned (OpenSpec.ofChange lexStandsWrong)

/-- 'guiselaw1.LexLines': WHATEVER THE INPUT: true; the input reads as it did. -/
def lexLinesSpec : ChangeSpec := { name := "lexLines", fn := fun _ => fun
  | [d1, d2] => { results := [.lit (.bool true)], args := [d1, d2] }
  | _ => none }
def lexLinesRow : OpenClaim := { program := "ytnpiicceafgioaadoor", sum := "e2cb2c68a7b21e5b57e88abff24e50954f3dd89571dc39ac01aad7641a3fb71c", func := "guise/guiselaw1.LexLines", spec := "lexLines", unfollowed := true, recurses := true, named := ["guise/lex.words", "guise/lex.signs"], apart := false, laid := [("guise/lex.words", laid_guise_lex_words), ("guise/lex.signs", laid_guise_lex_signs)] }
def LexLinesSaid : Prop := lexLinesRow.holds Tryd.pinned (OpenSpec.ofChange lexLinesSpec)

/-- ITS FALSE NEIGHBOUR: 'it returns false'. Refute it at one input. -/
def lexLinesWrong : ChangeSpec := { name := "lexLines", fn := fun _ => fun
  | [d1, d2] => { results := [.lit (.bool false)], args := [d1, d2] }
  | _ => none }
def LexLinesWrongFalsely : Prop := lexLinesRow.holds Tryd.pinned (OpenSpec.ofChange lexLinesWrong)

/- THE SECOND FORM. 'bulk': how many values and letters a reading holds, each counted each time it is reached (what is shared counts as often as it is met; a slice's spare places count too). A statement '..UptoSaid' is the law's where the arguments, and the package variables that the reading takes, are together of bulk at most 1048576: NARROWER than '..Said'. Prove '..Said' where nothing that the law and all that it calls make is longer than what came in: it says more and counts as full. Else prove '..UptoSaid'. A law counts once. -/
mutual
def uptoBulk {H : Type} : DataW H → Nat
  | .lit (.string bytes) => bytes.length + 1
  | .lit _ => 1
  | .nil => 1
  | .ptr d => uptoBulk d + 1
  | .slice elems spare => uptoBulkAll elems + uptoBulkAll spare + 1
  | .agg parts => uptoBulkAll parts + 1
  | .iface _ d => uptoBulk d + 1
  | .map entries => uptoBulkEntries entries + 1
  | .held _ => 1
def uptoBulkAll {H : Type} : List (DataW H) → Nat
  | [] => 0
  | d :: r => uptoBulk d + uptoBulkAll r
def uptoBulkEntries {H : Type} : List (Lit × DataW H) → Nat
  | [] => 0
  | x :: r => uptoBulkEntry x + uptoBulkEntries r
def uptoBulkEntry {H : Type} : Lit × DataW H → Nat
  | (.string bytes, d) => bytes.length + uptoBulk d + 1
  | (_, d) => uptoBulk d + 1
 end
def uptoSmall : (H : Type) → List (DataW H) → Bool := fun _ ds => decide (uptoBulkAll ds ≤ 1048576)
def OpenSpec.upto (s : _root_.Go.ChangeSpec) : _root_.Go.OpenSpec := { _root_.Go.OpenSpec.ofChange s with cond := some uptoSmall }

/-- 'guiselaw1.LexScans', WHERE WHAT IT READS IS OF BULK AT MOST 1048576: true; the input reads as it did. -/
def lexScansUptoRow : OpenClaim := { program := "ytnpiicceafgioaadoor", sum := "e2cb2c68a7b21e5b57e88abff24e50954f3dd89571dc39ac01aad7641a3fb71c", func := "guise/guiselaw1.LexScans", spec := "lexScans", unfollowed := true, recurses := true, named := ["guise/lex.words", "guise/lex.signs"], apart := false, laid := [("guise/lex.words", laid_guise_lex_words), ("guise/lex.signs", laid_guise_lex_signs)], narrowed := true }
def LexScansUptoSaid : Prop := lexScansUptoRow.holds Tryd.pinned (OpenSpec.upto lexScansSpec)

/-- 'guiselaw1.LexQuotes', WHERE WHAT IT READS IS OF BULK AT MOST 1048576: true; the input reads as it did. -/
def lexQuotesUptoRow : OpenClaim := { program := "ytnpiicceafgioaadoor", sum := "e2cb2c68a7b21e5b57e88abff24e50954f3dd89571dc39ac01aad7641a3fb71c", func := "guise/guiselaw1.LexQuotes", spec := "lexQuotes", unfollowed := true, recurses := true, named := ["guise/lex.words", "guise/lex.signs"], apart := false, laid := [("guise/lex.words", laid_guise_lex_words), ("guise/lex.signs", laid_guise_lex_signs)], narrowed := true }
def LexQuotesUptoSaid : Prop := lexQuotesUptoRow.holds Tryd.pinned (OpenSpec.upto lexQuotesSpec)

/-- 'guiselaw1.LexWords', WHERE WHAT IT READS IS OF BULK AT MOST 1048576: true; the input reads as it did. -/
def lexWordsUptoRow : OpenClaim := { program := "ytnpiicceafgioaadoor", sum := "e2cb2c68a7b21e5b57e88abff24e50954f3dd89571dc39ac01aad7641a3fb71c", func := "guise/guiselaw1.LexWords", spec := "lexWords", unfollowed := true, recurses := true, named := ["guise/lex.words", "guise/lex.signs"], apart := false, laid := [("guise/lex.words", laid_guise_lex_words), ("guise/lex.signs", laid_guise_lex_signs)], narrowed := true }
def LexWordsUptoSaid : Prop := lexWordsUptoRow.holds Tryd.pinned (OpenSpec.upto lexWordsSpec)

/-- 'guiselaw1.LexBack', WHERE WHAT IT READS IS OF BULK AT MOST 1048576: true; the input reads as it did. -/
def lexBackUptoRow : OpenClaim := { program := "ytnpiicceafgioaadoor", sum := "e2cb2c68a7b21e5b57e88abff24e50954f3dd89571dc39ac01aad7641a3fb71c", func := "guise/guiselaw1.LexBack", spec := "lexBack", unfollowed := true, recurses := true, named := ["guise/lex.words", "guise/lex.signs"], apart := false, laid := [("guise/lex.words", laid_guise_lex_words), ("guise/lex.signs", laid_guise_lex_signs)], narrowed := true }
def LexBackUptoSaid : Prop := lexBackUptoRow.holds Tryd.pinned (OpenSpec.upto lexBackSpec)

/-- 'guiselaw1.LexStands', WHERE WHAT IT READS IS OF BULK AT MOST 1048576: true; the input reads as it did. -/
def lexStandsUptoRow : OpenClaim := { program := "ytnpiicceafgioaadoor", sum := "e2cb2c68a7b21e5b57e88abff24e50954f3dd89571dc39ac01aad7641a3fb71c", func := "guise/guiselaw1.LexStands", spec := "lexStands", unfollowed := true, recurses := true, named := ["guise/lex.words", "guise/lex.signs"], apart := false, laid := [("guise/lex.words", laid_guise_lex_words), ("guise/lex.signs", laid_guise_lex_signs)], narrowed := true }
def LexStandsUptoSaid : Prop := lexStandsUptoRow.holds Tryd.pinned (OpenSpec.upto lexStandsSpec)

/-- 'guiselaw1.LexLines', WHERE WHAT IT READS IS OF BULK AT MOST 1048576: true; the input reads as it did. -/
def lexLinesUptoRow : OpenClaim := { program := "ytnpiicceafgioaadoor", sum := "e2cb2c68a7b21e5b57e88abff24e50954f3dd89571dc39ac01aad7641a3fb71c", func := "guise/guiselaw1.LexLines", spec := "lexLines", unfollowed := true, recurses := true, named := ["guise/lex.words", "guise/lex.signs"], apart := false, laid := [("guise/lex.words", laid_guise_lex_words), ("guise/lex.signs", laid_guise_lex_signs)], narrowed := true }
def LexLinesUptoSaid : Prop := lexLinesUptoRow.holds Tryd.pinned (OpenSpec.upto lexLinesSpec)

end Rows
end Go.Proofs.YtnpiicceafgioaaDoor
