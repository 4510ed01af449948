/-
  DERIVED. GIVEN WITH THE SEED: THE CARDS: each row of YtoplmbboaobahaaDoorRows.lean that lists a variable, with what it lists TIED to the program's text (the seventh form; the later family's looks); each row that meets fmt, with fmt's text TOLD by the authors' own Lean function (tested against real Go, not proved from fmt's source: count such statements apart). THE CARD IS WHAT COUNTS. Prove the row's statement (the work); the ties are given (YtoplmbboaobahaaDoorTie.lean); close each card by the builder's one call (the guide's Derived/Test/ToyasCard.lean, 'card_holds'). Laid BY PROGRAM, IN A SANDBOX (cutbox-door.mjs). By AI agents, Wed Nov 11 2026. No macro, syntax, notation, axiom, sorry.
-/
import Derived.Test.YtoplmbboaobahaaDoorRows
import GoSem.ClaimSeven
namespace Go.Proofs.YtoplmbboaobahaaDoor
namespace Rows

/-- THE TIED CARD OF 'guiselaw6.NumberUnary'. -/
def numberUnaryCard : Claim7 := { stood := { row := numberUnaryRow, standIns := [], harness := (true, "e4465dfa88174ba45b1abd5e74ee2c5d4d83f45f2a2b7dd5ab1ba22433275288"), looks := true }, kinds := [], alts := [], laidByText := true, laidKinds := [.data, .data, .data], laidTests := true, laidLooks := .later }
def NumberUnaryCardSaid : Prop := Claim7.holds Tryd.pinned (.plain (OpenSpec.ofChange numberUnarySpec)) numberUnaryCard

/-- THE TIED CARD OF 'guiselaw6.NumberBinary'. -/
def numberBinaryCard : Claim7 := { stood := { row := numberBinaryRow, standIns := [], harness := (true, "e4465dfa88174ba45b1abd5e74ee2c5d4d83f45f2a2b7dd5ab1ba22433275288"), looks := true }, kinds := [], alts := [], laidByText := true, laidKinds := [.data, .data, .data], laidTests := true, laidLooks := .later }
def NumberBinaryCardSaid : Prop := Claim7.holds Tryd.pinned (.plain (OpenSpec.ofChange numberBinarySpec)) numberBinaryCard

/-- THE TIED CARD OF 'guiselaw6.NumberConvert'. -/
def numberConvertCard : Claim7 := { stood := { row := numberConvertRow, standIns := [], harness := (true, "e4465dfa88174ba45b1abd5e74ee2c5d4d83f45f2a2b7dd5ab1ba22433275288"), looks := true }, kinds := [], alts := [], laidByText := true, laidKinds := [.data, .data, .data], laidTests := true, laidLooks := .later }
def NumberConvertCardSaid : Prop := Claim7.holds Tryd.pinned (.plain (OpenSpec.ofChange numberConvertSpec)) numberConvertCard

/-- THE TIED CARD OF 'guiselaw6.NumberReads'. -/
def numberReadsCard : Claim7 := { stood := { row := numberReadsRow, standIns := [], harness := (true, "e4465dfa88174ba45b1abd5e74ee2c5d4d83f45f2a2b7dd5ab1ba22433275288"), looks := true }, kinds := [], alts := [], laidByText := true, laidKinds := [.data, .data, .data], laidTests := true, laidLooks := .later }
def NumberReadsCardSaid : Prop := Claim7.holds Tryd.pinned (.plain (OpenSpec.ofChange numberReadsSpec)) numberReadsCard

/-- THE TIED CARD OF 'guiselaw6.NumberShows'. -/
def numberShowsCard : Claim7 := { stood := { row := numberShowsRow, standIns := [], harness := (true, "e4465dfa88174ba45b1abd5e74ee2c5d4d83f45f2a2b7dd5ab1ba22433275288"), looks := true }, kinds := [], alts := [], laidByText := true, laidKinds := [.data, .data, .data], laidTests := true, laidLooks := .later }
def NumberShowsCardSaid : Prop := Claim7.holds Tryd.pinned (.plain (OpenSpec.ofChange numberShowsSpec)) numberShowsCard

/-- THE TIED CARD OF 'guiselaw6.NumberRing'. -/
def numberRingCard : Claim7 := { stood := { row := numberRingRow, standIns := [], harness := (true, "e4465dfa88174ba45b1abd5e74ee2c5d4d83f45f2a2b7dd5ab1ba22433275288"), looks := true }, kinds := [], alts := [], laidByText := true, laidKinds := [.data, .data, .data], laidTests := true, laidLooks := .later }
def NumberRingCardSaid : Prop := Claim7.holds Tryd.pinned (.plain (OpenSpec.ofChange numberRingSpec)) numberRingCard

/-- THE SECOND FORM's CARD OF 'guiselaw6.NumberUnary'. -/
def numberUnaryUptoCard : Claim7 := { stood := { row := numberUnaryUptoRow, standIns := [], harness := (true, "e4465dfa88174ba45b1abd5e74ee2c5d4d83f45f2a2b7dd5ab1ba22433275288"), looks := true }, kinds := [], alts := [], laidByText := true, laidKinds := [.data, .data, .data], laidTests := true, laidLooks := .later }
def NumberUnaryUptoCardSaid : Prop := Claim7.holds Tryd.pinned (.plain (OpenSpec.upto numberUnarySpec)) numberUnaryUptoCard

/-- THE SECOND FORM's CARD OF 'guiselaw6.NumberBinary'. -/
def numberBinaryUptoCard : Claim7 := { stood := { row := numberBinaryUptoRow, standIns := [], harness := (true, "e4465dfa88174ba45b1abd5e74ee2c5d4d83f45f2a2b7dd5ab1ba22433275288"), looks := true }, kinds := [], alts := [], laidByText := true, laidKinds := [.data, .data, .data], laidTests := true, laidLooks := .later }
def NumberBinaryUptoCardSaid : Prop := Claim7.holds Tryd.pinned (.plain (OpenSpec.upto numberBinarySpec)) numberBinaryUptoCard

/-- THE SECOND FORM's CARD OF 'guiselaw6.NumberConvert'. -/
def numberConvertUptoCard : Claim7 := { stood := { row := numberConvertUptoRow, standIns := [], harness := (true, "e4465dfa88174ba45b1abd5e74ee2c5d4d83f45f2a2b7dd5ab1ba22433275288"), looks := true }, kinds := [], alts := [], laidByText := true, laidKinds := [.data, .data, .data], laidTests := true, laidLooks := .later }
def NumberConvertUptoCardSaid : Prop := Claim7.holds Tryd.pinned (.plain (OpenSpec.upto numberConvertSpec)) numberConvertUptoCard

/-- THE SECOND FORM's CARD OF 'guiselaw6.NumberReads'. -/
def numberReadsUptoCard : Claim7 := { stood := { row := numberReadsUptoRow, standIns := [], harness := (true, "e4465dfa88174ba45b1abd5e74ee2c5d4d83f45f2a2b7dd5ab1ba22433275288"), looks := true }, kinds := [], alts := [], laidByText := true, laidKinds := [.data, .data, .data], laidTests := true, laidLooks := .later }
def NumberReadsUptoCardSaid : Prop := Claim7.holds Tryd.pinned (.plain (OpenSpec.upto numberReadsSpec)) numberReadsUptoCard

/-- THE SECOND FORM's CARD OF 'guiselaw6.NumberShows'. -/
def numberShowsUptoCard : Claim7 := { stood := { row := numberShowsUptoRow, standIns := [], harness := (true, "e4465dfa88174ba45b1abd5e74ee2c5d4d83f45f2a2b7dd5ab1ba22433275288"), looks := true }, kinds := [], alts := [], laidByText := true, laidKinds := [.data, .data, .data], laidTests := true, laidLooks := .later }
def NumberShowsUptoCardSaid : Prop := Claim7.holds Tryd.pinned (.plain (OpenSpec.upto numberShowsSpec)) numberShowsUptoCard

/-- THE SECOND FORM's CARD OF 'guiselaw6.NumberRing'. -/
def numberRingUptoCard : Claim7 := { stood := { row := numberRingUptoRow, standIns := [], harness := (true, "e4465dfa88174ba45b1abd5e74ee2c5d4d83f45f2a2b7dd5ab1ba22433275288"), looks := true }, kinds := [], alts := [], laidByText := true, laidKinds := [.data, .data, .data], laidTests := true, laidLooks := .later }
def NumberRingUptoCardSaid : Prop := Claim7.holds Tryd.pinned (.plain (OpenSpec.upto numberRingSpec)) numberRingUptoCard
end Rows
end Go.Proofs.YtoplmbboaobahaaDoor
