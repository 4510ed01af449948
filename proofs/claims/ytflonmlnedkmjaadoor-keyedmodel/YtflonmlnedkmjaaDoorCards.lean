/-
  DERIVED. GIVEN WITH THE SEED: THE CARDS: each row of YtflonmlnedkmjaaDoorRows.lean that lists a variable, with what it lists TIED to the program's text (the seventh form; the later family's looks); each row that meets fmt, with fmt's text TOLD by the authors' own Lean function (tested against real Go, not proved from fmt's source: count such statements apart). THE CARD IS WHAT COUNTS. Prove the row's statement (the work); the ties are given (YtflonmlnedkmjaaDoorTie.lean); close each card by the builder's one call (the guide's Derived/Test/ToyasCard.lean, 'card_holds'). Laid BY PROGRAM, IN A SANDBOX (cutbox-door.mjs). By AI agents, Wed Nov 11 2026. No macro, syntax, notation, axiom, sorry.
-/
import Derived.Test.YtflonmlnedkmjaaDoorRows
import GoSem.ClaimSeven
namespace Go.Proofs.YtflonmlnedkmjaaDoor
namespace Rows

/-- THE TIED CARD OF 'guiselaw9.KeyedModel'. -/
def keyedModelCard : Claim7 := { stood := { row := keyedModelRow, standIns := [], harness := (true, "0c62770f2c5830b61ea8d2ece1d5ceef5f9b3981df32170b2996b786f0588d31"), looks := true }, kinds := [], alts := [], laidByText := true, laidKinds := [.data], laidTests := true, laidLooks := .later }
def KeyedModelCardSaid : Prop := Claim7.holds Tryd.pinned (.plain (OpenSpec.ofChange keyedModelSpec)) keyedModelCard

/-- THE TIED CARD OF 'guiselaw9.KeyedNever'. -/
def keyedNeverCard : Claim7 := { stood := { row := keyedNeverRow, standIns := [], harness := (true, "0c62770f2c5830b61ea8d2ece1d5ceef5f9b3981df32170b2996b786f0588d31"), looks := true }, kinds := [], alts := [], laidByText := true, laidKinds := [.data], laidTests := true, laidLooks := .later }
def KeyedNeverCardSaid : Prop := Claim7.holds Tryd.pinned (.plain (OpenSpec.ofChange keyedNeverSpec)) keyedNeverCard

/-- THE SECOND FORM's CARD OF 'guiselaw9.KeyedModel'. -/
def keyedModelUptoCard : Claim7 := { stood := { row := keyedModelUptoRow, standIns := [], harness := (true, "0c62770f2c5830b61ea8d2ece1d5ceef5f9b3981df32170b2996b786f0588d31"), looks := true }, kinds := [], alts := [], laidByText := true, laidKinds := [.data], laidTests := true, laidLooks := .later }
def KeyedModelUptoCardSaid : Prop := Claim7.holds Tryd.pinned (.plain (OpenSpec.upto keyedModelSpec)) keyedModelUptoCard

/-- THE SECOND FORM's CARD OF 'guiselaw9.KeyedNever'. -/
def keyedNeverUptoCard : Claim7 := { stood := { row := keyedNeverUptoRow, standIns := [], harness := (true, "0c62770f2c5830b61ea8d2ece1d5ceef5f9b3981df32170b2996b786f0588d31"), looks := true }, kinds := [], alts := [], laidByText := true, laidKinds := [.data], laidTests := true, laidLooks := .later }
def KeyedNeverUptoCardSaid : Prop := Claim7.holds Tryd.pinned (.plain (OpenSpec.upto keyedNeverSpec)) keyedNeverUptoCard
end Rows
end Go.Proofs.YtflonmlnedkmjaaDoor
