/-
  NARROWER THAN 'FOR EVERY INPUT', by the rows' own cells (each row's printed sentence says how): HeapPieces: laid · HeapParts: laid.
  DERIVED. THE GIVEN ROWS OF THIS SEAT. 2 by the template 'for every input the law returns true; each argument reads behind the call as it read before'; 0 by the template 'total and deterministic' (their statements: YtdbijkgnddcneaaGreatDoorTotals.lean).
  GIVEN WITH THE SEED: the statements are not yours to turn. If you find one false, say at which input.
  Laid BY PROGRAM, IN A SANDBOX (cutbox-rows.mjs): the forced cells as the released guide's own fill.sh prints them over the translation 22c57d162426dd89… (all of the seat's roots in one cut). By AI agents, Wed Nov 11 2026. No macro, syntax, notation, axiom, sorry.
-/
import Derived.Test.YtdbijkgnddcneaaGreatDoorChecked
import GoSem.Claim
import GoSem.ClaimJoined
import GoSem.ClaimMapViews
import Derived.JoinedTies
import Derived.KernelRfl
namespace Go.Proofs.YtdbijkgnddcneaaGreatDoor
/- THE CELL 'sum', in the pinned program and in every row, IS THE sha256 OF THE DUMP (.gsa) THAT YtdbijkgnddcneaaGreatDoorProg.lean LOADS. Nothing in Lean hashes anything: it is a label: what it is worth is what the hold of that sum in a sandbox is worth. -/
noncomputable def Tryz.pinned : Pinned := { name := "ytdbijkgnddcneaagreatdoor", sum := "22c57d162426dd89b425c1bb19c4aa583bdc0c694a3c8112c4da08b11398dee9", checked := Tryz.checked }
namespace Rows
def none {H : Type} : Left H := { results := [], args := [] }

/- WHAT THE LISTED PACKAGE-LEVEL VARIABLES READ AS WHEN THE CALL BEGINS. Each datum BY PROGRAM (the guide's laid-datum.mjs) off the statement by which the dump's own 'gosem.cut.vars' lays the variable. In a bare row this is a premise. The card (YtdbijkgnddcneaaGreatDoorCards.lean) ties it to the program's text. -/
def laid_math_bits_deBruijn32tab {H : Type} : DataW H := .agg [.lit (.int .u8 0), .lit (.int .u8 1), .lit (.int .u8 28), .lit (.int .u8 2), .lit (.int .u8 29), .lit (.int .u8 14), .lit (.int .u8 24), .lit (.int .u8 3), .lit (.int .u8 30), .lit (.int .u8 22), .lit (.int .u8 20), .lit (.int .u8 15), .lit (.int .u8 25), .lit (.int .u8 17), .lit (.int .u8 4), .lit (.int .u8 8), .lit (.int .u8 31), .lit (.int .u8 27), .lit (.int .u8 13), .lit (.int .u8 23), .lit (.int .u8 21), .lit (.int .u8 19), .lit (.int .u8 16), .lit (.int .u8 7), .lit (.int .u8 26), .lit (.int .u8 12), .lit (.int .u8 18), .lit (.int .u8 6), .lit (.int .u8 11), .lit (.int .u8 5), .lit (.int .u8 10), .lit (.int .u8 9)]
def laid_math_bits_deBruijn64tab {H : Type} : DataW H := .agg [.lit (.int .u8 0), .lit (.int .u8 1), .lit (.int .u8 56), .lit (.int .u8 2), .lit (.int .u8 57), .lit (.int .u8 49), .lit (.int .u8 28), .lit (.int .u8 3), .lit (.int .u8 61), .lit (.int .u8 58), .lit (.int .u8 42), .lit (.int .u8 50), .lit (.int .u8 38), .lit (.int .u8 29), .lit (.int .u8 17), .lit (.int .u8 4), .lit (.int .u8 62), .lit (.int .u8 47), .lit (.int .u8 59), .lit (.int .u8 36), .lit (.int .u8 45), .lit (.int .u8 43), .lit (.int .u8 51), .lit (.int .u8 22), .lit (.int .u8 53), .lit (.int .u8 39), .lit (.int .u8 33), .lit (.int .u8 30), .lit (.int .u8 24), .lit (.int .u8 18), .lit (.int .u8 12), .lit (.int .u8 5), .lit (.int .u8 63), .lit (.int .u8 55), .lit (.int .u8 48), .lit (.int .u8 27), .lit (.int .u8 60), .lit (.int .u8 41), .lit (.int .u8 37), .lit (.int .u8 16), .lit (.int .u8 46), .lit (.int .u8 35), .lit (.int .u8 44), .lit (.int .u8 21), .lit (.int .u8 52), .lit (.int .u8 32), .lit (.int .u8 23), .lit (.int .u8 11), .lit (.int .u8 54), .lit (.int .u8 26), .lit (.int .u8 40), .lit (.int .u8 15), .lit (.int .u8 34), .lit (.int .u8 20), .lit (.int .u8 31), .lit (.int .u8 10), .lit (.int .u8 25), .lit (.int .u8 14), .lit (.int .u8 19), .lit (.int .u8 9), .lit (.int .u8 13), .lit (.int .u8 8), .lit (.int .u8 7), .lit (.int .u8 6)]
def laid_internal_strconv_uint64pow10 {H : Type} : DataW H := .agg [.lit (.int .u64 1), .lit (.int .u64 10), .lit (.int .u64 100), .lit (.int .u64 1000), .lit (.int .u64 10000), .lit (.int .u64 100000), .lit (.int .u64 1000000), .lit (.int .u64 10000000), .lit (.int .u64 100000000), .lit (.int .u64 1000000000), .lit (.int .u64 10000000000), .lit (.int .u64 100000000000), .lit (.int .u64 1000000000000), .lit (.int .u64 10000000000000), .lit (.int .u64 100000000000000), .lit (.int .u64 1000000000000000), .lit (.int .u64 10000000000000000), .lit (.int .u64 100000000000000000), .lit (.int .u64 1000000000000000000), .lit (.int .u64 10000000000000000000)]
def laid_guise_lex_words {H : Type} : DataW H := .slice [.agg [.lit (.string [97, 110, 121]), .lit (.bool true)], .agg [.lit (.string [98, 114, 101, 97, 107]), .lit (.bool true)], .agg [.lit (.string [99, 97, 115, 101]), .lit (.bool false)], .agg [.lit (.string [99, 111, 110, 116, 105, 110, 117, 101]), .lit (.bool true)], .agg [.lit (.string [100, 101, 102, 97, 117, 108, 116]), .lit (.bool false)], .agg [.lit (.string [100, 101, 102, 101, 114]), .lit (.bool false)], .agg [.lit (.string [101, 108, 115, 101]), .lit (.bool false)], .agg [.lit (.string [102, 97, 108, 108, 116, 104, 114, 111, 117, 103, 104]), .lit (.bool true)], .agg [.lit (.string [102, 97, 108, 115, 101]), .lit (.bool true)], .agg [.lit (.string [102, 111, 114]), .lit (.bool false)], .agg [.lit (.string [102, 117, 110, 99]), .lit (.bool true)], .agg [.lit (.string [105, 102]), .lit (.bool false)], .agg [.lit (.string [105, 110]), .lit (.bool false)], .agg [.lit (.string [109, 97, 112]), .lit (.bool true)], .agg [.lit (.string [110, 105, 108]), .lit (.bool true)], .agg [.lit (.string [112, 114, 111, 116, 111, 99, 111, 108]), .lit (.bool false)], .agg [.lit (.string [114, 101, 116, 117, 114, 110]), .lit (.bool true)], .agg [.lit (.string [115, 116, 114, 117, 99, 116]), .lit (.bool false)], .agg [.lit (.string [115, 119, 105, 116, 99, 104]), .lit (.bool false)], .agg [.lit (.string [116, 114, 117, 101]), .lit (.bool true)], .agg [.lit (.string [116, 121, 112, 101]), .lit (.bool false)], .agg [.lit (.string [118, 97, 114]), .lit (.bool false)]] []
def laid_guise_lex_signs {H : Type} : DataW H := .slice [.lit (.string [60, 60, 61]), .lit (.string [62, 62, 61]), .lit (.string [58, 61]), .lit (.string [61, 61]), .lit (.string [33, 61]), .lit (.string [60, 61]), .lit (.string [62, 61]), .lit (.string [38, 38]), .lit (.string [124, 124]), .lit (.string [60, 60]), .lit (.string [62, 62]), .lit (.string [43, 61]), .lit (.string [45, 61]), .lit (.string [42, 61]), .lit (.string [47, 61]), .lit (.string [37, 61]), .lit (.string [38, 61]), .lit (.string [124, 61]), .lit (.string [94, 61]), .lit (.string [43, 43]), .lit (.string [45, 45]), .lit (.string [43]), .lit (.string [45]), .lit (.string [42]), .lit (.string [47]), .lit (.string [37]), .lit (.string [38]), .lit (.string [124]), .lit (.string [94]), .lit (.string [33]), .lit (.string [60]), .lit (.string [62]), .lit (.string [61]), .lit (.string [40]), .lit (.string [41]), .lit (.string [91]), .lit (.string [93]), .lit (.string [123]), .lit (.string [125]), .lit (.string [44]), .lit (.string [46]), .lit (.string [58])] []
def laid_guise_value_ownNames {H : Type} : DataW H := .agg [.lit (.string []), .lit (.string [98, 111, 111, 108]), .lit (.string [105, 110, 116]), .lit (.string [102, 108, 111, 97, 116]), .lit (.string [116, 101, 120, 116]), .lit (.string [108, 105, 115, 116]), .lit (.string [109, 97, 112]), .lit (.string [102, 117, 110, 99])]

/-- 'guiselaw10.HeapPieces': WHATEVER THE INPUT: true; the input reads as it did. -/
def heapPiecesSpec : ChangeSpec := { name := "heapPieces", fn := fun _ => fun
  | [d1, d2, d3, d4, d5] => { results := [.lit (.bool true)], args := [d1, d2, d3, d4, d5] }
  | _ => none }
def heapPiecesRow : OpenClaim := { program := "ytdbijkgnddcneaagreatdoor", sum := "22c57d162426dd89b425c1bb19c4aa583bdc0c694a3c8112c4da08b11398dee9", func := "guise/guiselaw10.HeapPieces", spec := "heapPieces", inPlace := ["maps.clone", "math.Float64frombits", "internal/abi.NoEscape", "internal/bytealg.MakeNoZero"], unfollowed := true, recurses := true, named := ["guise/lex.words", "guise/lex.signs", "guise/value.ownNames", "internal/strconv.uint64pow10", "math/bits.deBruijn32tab", "math/bits.deBruijn64tab"], apart := false, laid := [("math/bits.deBruijn32tab", laid_math_bits_deBruijn32tab), ("math/bits.deBruijn64tab", laid_math_bits_deBruijn64tab), ("internal/strconv.uint64pow10", laid_internal_strconv_uint64pow10), ("guise/lex.words", laid_guise_lex_words), ("guise/lex.signs", laid_guise_lex_signs), ("guise/value.ownNames", laid_guise_value_ownNames)] }
def HeapPiecesSaid : Prop := heapPiecesRow.holds Tryz.pinned (OpenSpec.ofChange heapPiecesSpec)

/-- ITS FALSE NEIGHBOUR: 'it returns false'. Refute it at one input. -/
def heapPiecesWrong : ChangeSpec := { name := "heapPieces", fn := fun _ => fun
  | [d1, d2, d3, d4, d5] => { results := [.lit (.bool false)], args := [d1, d2, d3, d4, d5] }
  | _ => none }
def HeapPiecesWrongFalsely : Prop := heapPiecesRow.holds Tryz.pinned (OpenSpec.ofChange heapPiecesWrong)

/-- 'guiselaw10.HeapParts': WHATEVER THE INPUT: true; the input reads as it did. -/
def heapPartsSpec : ChangeSpec := { name := "heapParts", fn := fun _ => fun
  | [d1, d2, d3] => { results := [.lit (.bool true)], args := [d1, d2, d3] }
  | _ => none }
def heapPartsRow : OpenClaim := { program := "ytdbijkgnddcneaagreatdoor", sum := "22c57d162426dd89b425c1bb19c4aa583bdc0c694a3c8112c4da08b11398dee9", func := "guise/guiselaw10.HeapParts", spec := "heapParts", inPlace := ["maps.clone", "math.Float64frombits", "internal/abi.NoEscape", "internal/bytealg.MakeNoZero"], unfollowed := true, recurses := true, named := ["guise/lex.words", "guise/lex.signs", "guise/value.ownNames", "internal/strconv.uint64pow10", "math/bits.deBruijn32tab", "math/bits.deBruijn64tab"], apart := false, laid := [("math/bits.deBruijn32tab", laid_math_bits_deBruijn32tab), ("math/bits.deBruijn64tab", laid_math_bits_deBruijn64tab), ("internal/strconv.uint64pow10", laid_internal_strconv_uint64pow10), ("guise/lex.words", laid_guise_lex_words), ("guise/lex.signs", laid_guise_lex_signs), ("guise/value.ownNames", laid_guise_value_ownNames)] }
def HeapPartsSaid : Prop := heapPartsRow.holds Tryz.pinned (OpenSpec.ofChange heapPartsSpec)

/-- ITS FALSE NEIGHBOUR: 'it returns false'. Refute it at one input. -/
def heapPartsWrong : ChangeSpec := { name := "heapParts", fn := fun _ => fun
  | [d1, d2, d3] => { results := [.lit (.bool false)], args := [d1, d2, d3] }
  | _ => none }
def HeapPartsWrongFalsely : Prop := heapPartsRow.holds Tryz.pinned (OpenSpec.ofChange heapPartsWrong)

/- THE SECOND FORM. 'bulk': how many values and letters a reading holds, each counted each time it is reached (what is shared counts as often as it is met; a slice's spare places count too). A statement '..UptoSaid' is the law's where the arguments, and the package variables that the reading takes, are together of bulk at most 1048576: NARROWER than '..Said'. Prove '..Said' where nothing that the law and all that it calls make is longer than what came in: it says more and counts as full. Else prove '..UptoSaid'. A law counts once. -/
mutual
def uptoBulk {H : Type} : DataW H → Nat
  | .lit (.string bytes) => bytes.length + 1
  | .lit _ => 1
  | .nil => 1
  | .ptr d => uptoBulk d + 1
  | .slice elems spare => uptoBulkAll elems + uptoBulkAll spare + 1
  | .agg parts => uptoBulkAll parts + 1
  | .iface _ d => uptoBulk d + 1
  | .map entries => uptoBulkEntries entries + 1
  | .held _ => 1
def uptoBulkAll {H : Type} : List (DataW H) → Nat
  | [] => 0
  | d :: r => uptoBulk d + uptoBulkAll r
def uptoBulkEntries {H : Type} : List (Lit × DataW H) → Nat
  | [] => 0
  | x :: r => uptoBulkEntry x + uptoBulkEntries r
def uptoBulkEntry {H : Type} : Lit × DataW H → Nat
  | (.string bytes, d) => bytes.length + uptoBulk d + 1
  | (_, d) => uptoBulk d + 1
 end
def uptoSmall : (H : Type) → List (DataW H) → Bool := fun _ ds => decide (uptoBulkAll ds ≤ 1048576)
def OpenSpec.upto (s : _root_.Go.ChangeSpec) : _root_.Go.OpenSpec := { _root_.Go.OpenSpec.ofChange s with cond := some uptoSmall }

/-- 'guiselaw10.HeapPieces', WHERE WHAT IT READS IS OF BULK AT MOST 1048576: true; the input reads as it did. -/
def heapPiecesUptoRow : OpenClaim := { program := "ytdbijkgnddcneaagreatdoor", sum := "22c57d162426dd89b425c1bb19c4aa583bdc0c694a3c8112c4da08b11398dee9", func := "guise/guiselaw10.HeapPieces", spec := "heapPieces", inPlace := ["maps.clone", "math.Float64frombits", "internal/abi.NoEscape", "internal/bytealg.MakeNoZero"], unfollowed := true, recurses := true, named := ["guise/lex.words", "guise/lex.signs", "guise/value.ownNames", "internal/strconv.uint64pow10", "math/bits.deBruijn32tab", "math/bits.deBruijn64tab"], apart := false, laid := [("math/bits.deBruijn32tab", laid_math_bits_deBruijn32tab), ("math/bits.deBruijn64tab", laid_math_bits_deBruijn64tab), ("internal/strconv.uint64pow10", laid_internal_strconv_uint64pow10), ("guise/lex.words", laid_guise_lex_words), ("guise/lex.signs", laid_guise_lex_signs), ("guise/value.ownNames", laid_guise_value_ownNames)], narrowed := true }
def HeapPiecesUptoSaid : Prop := heapPiecesUptoRow.holds Tryz.pinned (OpenSpec.upto heapPiecesSpec)

/-- 'guiselaw10.HeapParts', WHERE WHAT IT READS IS OF BULK AT MOST 1048576: true; the input reads as it did. -/
def heapPartsUptoRow : OpenClaim := { program := "ytdbijkgnddcneaagreatdoor", sum := "22c57d162426dd89b425c1bb19c4aa583bdc0c694a3c8112c4da08b11398dee9", func := "guise/guiselaw10.HeapParts", spec := "heapParts", inPlace := ["maps.clone", "math.Float64frombits", "internal/abi.NoEscape", "internal/bytealg.MakeNoZero"], unfollowed := true, recurses := true, named := ["guise/lex.words", "guise/lex.signs", "guise/value.ownNames", "internal/strconv.uint64pow10", "math/bits.deBruijn32tab", "math/bits.deBruijn64tab"], apart := false, laid := [("math/bits.deBruijn32tab", laid_math_bits_deBruijn32tab), ("math/bits.deBruijn64tab", laid_math_bits_deBruijn64tab), ("internal/strconv.uint64pow10", laid_internal_strconv_uint64pow10), ("guise/lex.words", laid_guise_lex_words), ("guise/lex.signs", laid_guise_lex_signs), ("guise/value.ownNames", laid_guise_value_ownNames)], narrowed := true }
def HeapPartsUptoSaid : Prop := heapPartsUptoRow.holds Tryz.pinned (OpenSpec.upto heapPartsSpec)

end Rows
end Go.Proofs.YtdbijkgnddcneaaGreatDoor
