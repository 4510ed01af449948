/-
  DERIVED. GIVEN WITH THE SEED: THE CARDS: each row of YtdbijkgnddcneaaGreatDoorRows.lean that lists a variable, with what it lists TIED to the program's text (the seventh form; the later family's looks); each row that meets fmt, with fmt's text TOLD by the authors' own Lean function (tested against real Go, not proved from fmt's source: count such statements apart). THE CARD IS WHAT COUNTS. Prove the row's statement (the work); the ties are given (YtdbijkgnddcneaaGreatDoorTie.lean); close each card by the builder's one call (the guide's Derived/Test/ToyasCard.lean, 'card_holds'). Laid BY PROGRAM, IN A SANDBOX (cutbox-door.mjs). By AI agents, Wed Nov 11 2026. No macro, syntax, notation, axiom, sorry.
-/
import Derived.Test.YtdbijkgnddcneaaGreatDoorRows
import GoSem.ClaimSeven
namespace Go.Proofs.YtdbijkgnddcneaaGreatDoor
namespace Rows

/-- THE TIED CARD OF 'guiselaw10.HeapPieces'. -/
def heapPiecesCard : Claim7 := { stood := { row := heapPiecesRow, standIns := [], harness := (true, "f53273e995ea58425469a339b1f6c18b33ee32d5af6dde8fd4b9ad709a3cc5c2"), looks := true }, kinds := [], alts := [], laidByText := true, laidKinds := [.data, .data, .data, .data, .data, .data], laidTests := true, laidLooks := .later }
def HeapPiecesCardSaid : Prop := Claim7.holds Tryz.pinned (.plain (OpenSpec.ofChange heapPiecesSpec)) heapPiecesCard

/-- THE TIED CARD OF 'guiselaw10.HeapParts'. -/
def heapPartsCard : Claim7 := { stood := { row := heapPartsRow, standIns := [], harness := (true, "f53273e995ea58425469a339b1f6c18b33ee32d5af6dde8fd4b9ad709a3cc5c2"), looks := true }, kinds := [], alts := [], laidByText := true, laidKinds := [.data, .data, .data, .data, .data, .data], laidTests := true, laidLooks := .later }
def HeapPartsCardSaid : Prop := Claim7.holds Tryz.pinned (.plain (OpenSpec.ofChange heapPartsSpec)) heapPartsCard

/-- THE SECOND FORM's CARD OF 'guiselaw10.HeapPieces'. -/
def heapPiecesUptoCard : Claim7 := { stood := { row := heapPiecesUptoRow, standIns := [], harness := (true, "f53273e995ea58425469a339b1f6c18b33ee32d5af6dde8fd4b9ad709a3cc5c2"), looks := true }, kinds := [], alts := [], laidByText := true, laidKinds := [.data, .data, .data, .data, .data, .data], laidTests := true, laidLooks := .later }
def HeapPiecesUptoCardSaid : Prop := Claim7.holds Tryz.pinned (.plain (OpenSpec.upto heapPiecesSpec)) heapPiecesUptoCard

/-- THE SECOND FORM's CARD OF 'guiselaw10.HeapParts'. -/
def heapPartsUptoCard : Claim7 := { stood := { row := heapPartsUptoRow, standIns := [], harness := (true, "f53273e995ea58425469a339b1f6c18b33ee32d5af6dde8fd4b9ad709a3cc5c2"), looks := true }, kinds := [], alts := [], laidByText := true, laidKinds := [.data, .data, .data, .data, .data, .data], laidTests := true, laidLooks := .later }
def HeapPartsUptoCardSaid : Prop := Claim7.holds Tryz.pinned (.plain (OpenSpec.upto heapPartsSpec)) heapPartsUptoCard
end Rows
end Go.Proofs.YtdbijkgnddcneaaGreatDoor
