/-
  DERIVED. GIVEN WITH THE SEED: THE CARDS: each row of YtaboeocgoocgfaaGreatDoorRows.lean that lists a variable, with what it lists TIED to the program's text (the seventh form; the later family's looks); each row that meets fmt, with fmt's text TOLD by the authors' own Lean function (tested against real Go, not proved from fmt's source: count such statements apart). THE CARD IS WHAT COUNTS. Prove the row's statement (the work); the ties are given (YtaboeocgoocgfaaGreatDoorTie.lean); close each card by the builder's one call (the guide's Derived/Test/ToyasCard.lean, 'card_holds'). Laid BY PROGRAM, IN A SANDBOX (cutbox-door.mjs). By AI agents, Wed Nov 11 2026. No macro, syntax, notation, axiom, sorry.
-/
import Derived.Test.YtaboeocgoocgfaaGreatDoorRows
import GoSem.ClaimSeven
namespace Go.Proofs.YtaboeocgoocgfaaGreatDoor
namespace Rows

/-- THE TIED CARD OF 'guiselaw11.DispatchRoom'. -/
def dispatchRoomCard : Claim7 := { stood := { row := dispatchRoomRow, standIns := [], harness := (true, "5fb6f3af87c49b11db37095b0bc1ba21d2082d3beaba5cec22300d8f9ee1061f"), looks := true }, kinds := [], alts := [], laidByText := true, laidKinds := [.handle, .data, .data], laidTests := true, laidLooks := .later }
def DispatchRoomCardSaid : Prop := Claim7.holds Tryz.pinned (.plain (OpenSpec.ofChange dispatchRoomSpec)) dispatchRoomCard

/-- THE TIED CARD OF 'guiselaw11.DispatchTurns'. -/
def dispatchTurnsCard : Claim7 := { stood := { row := dispatchTurnsRow, standIns := [], harness := (true, "5fb6f3af87c49b11db37095b0bc1ba21d2082d3beaba5cec22300d8f9ee1061f"), looks := true }, kinds := [], alts := [], laidByText := true, laidKinds := [.handle, .data, .data], laidTests := true, laidLooks := .later }
def DispatchTurnsCardSaid : Prop := Claim7.holds Tryz.pinned (.plain (OpenSpec.ofChange dispatchTurnsSpec)) dispatchTurnsCard

/-- THE SECOND FORM's CARD OF 'guiselaw11.DispatchRoom'. -/
def dispatchRoomUptoCard : Claim7 := { stood := { row := dispatchRoomUptoRow, standIns := [], harness := (true, "5fb6f3af87c49b11db37095b0bc1ba21d2082d3beaba5cec22300d8f9ee1061f"), looks := true }, kinds := [], alts := [], laidByText := true, laidKinds := [.handle, .data, .data], laidTests := true, laidLooks := .later }
def DispatchRoomUptoCardSaid : Prop := Claim7.holds Tryz.pinned (.plain (OpenSpec.upto dispatchRoomSpec)) dispatchRoomUptoCard

/-- THE SECOND FORM's CARD OF 'guiselaw11.DispatchTurns'. -/
def dispatchTurnsUptoCard : Claim7 := { stood := { row := dispatchTurnsUptoRow, standIns := [], harness := (true, "5fb6f3af87c49b11db37095b0bc1ba21d2082d3beaba5cec22300d8f9ee1061f"), looks := true }, kinds := [], alts := [], laidByText := true, laidKinds := [.handle, .data, .data], laidTests := true, laidLooks := .later }
def DispatchTurnsUptoCardSaid : Prop := Claim7.holds Tryz.pinned (.plain (OpenSpec.upto dispatchTurnsSpec)) dispatchTurnsUptoCard
end Rows
end Go.Proofs.YtaboeocgoocgfaaGreatDoor
