/-
  DERIVED. GIVEN WITH THE SEED: THE CARDS: each row of YtccecnohgakllaaDoorRows.lean that lists a variable, with what it lists TIED to the program's text (the seventh form; the later family's looks); each row that meets fmt, with fmt's text TOLD by the authors' own Lean function (tested against real Go, not proved from fmt's source: count such statements apart). THE CARD IS WHAT COUNTS. Prove the row's statement (the work); the ties are given (YtccecnohgakllaaDoorTie.lean); close each card by the builder's one call (the guide's Derived/Test/ToyasCard.lean, 'card_holds'). Laid BY PROGRAM, IN A SANDBOX (cutbox-door.mjs). By AI agents, Wed Nov 11 2026. No macro, syntax, notation, axiom, sorry.
-/
import Derived.Test.YtccecnohgakllaaDoorRows
import GoSem.ClaimSeven
namespace Go.Proofs.YtccecnohgakllaaDoor
namespace Rows

/-- THE TIED CARD OF 'pontoonlaw04.DigestMakes'. -/
def digestMakesCard : Claim7 := { stood := { row := digestMakesRow, standIns := [], harness := (true, "eae1381925f787b2fb4c61a54a7e47e2af93120e57fd7c4805cff6930c75bcf6"), looks := false }, kinds := [], alts := [], laidByText := true, laidKinds := [.data, .data], laidTests := true, laidLooks := .later }
def DigestMakesCardSaid : Prop := Claim7.holds Tryd.pinned (.plain (OpenSpec.ofChange digestMakesSpec)) digestMakesCard

/-- THE TIED CARD OF 'pontoonlaw04.DigestJoins'. -/
def digestJoinsCard : Claim7 := { stood := { row := digestJoinsRow, standIns := [], harness := (true, "eae1381925f787b2fb4c61a54a7e47e2af93120e57fd7c4805cff6930c75bcf6"), looks := false }, kinds := [], alts := [], laidByText := true, laidKinds := [.data, .data], laidTests := true, laidLooks := .later }
def DigestJoinsCardSaid : Prop := Claim7.holds Tryd.pinned (.plain (OpenSpec.ofChange digestJoinsSpec)) digestJoinsCard

/-- THE TIED CARD OF 'pontoonlaw04.DigestInputs'. -/
def digestInputsCard : Claim7 := { stood := { row := digestInputsRow, standIns := [], harness := (true, "eae1381925f787b2fb4c61a54a7e47e2af93120e57fd7c4805cff6930c75bcf6"), looks := false }, kinds := [], alts := [], laidByText := true, laidKinds := [.data, .data], laidTests := true, laidLooks := .later }
def DigestInputsCardSaid : Prop := Claim7.holds Tryd.pinned (.plain (OpenSpec.ofChange digestInputsSpec)) digestInputsCard

/-- THE SECOND FORM's CARD OF 'pontoonlaw04.DigestMakes'. -/
def digestMakesUptoCard : Claim7 := { stood := { row := digestMakesUptoRow, standIns := [], harness := (true, "eae1381925f787b2fb4c61a54a7e47e2af93120e57fd7c4805cff6930c75bcf6"), looks := false }, kinds := [], alts := [], laidByText := true, laidKinds := [.data, .data], laidTests := true, laidLooks := .later }
def DigestMakesUptoCardSaid : Prop := Claim7.holds Tryd.pinned (.plain (OpenSpec.upto digestMakesSpec)) digestMakesUptoCard

/-- THE SECOND FORM's CARD OF 'pontoonlaw04.DigestJoins'. -/
def digestJoinsUptoCard : Claim7 := { stood := { row := digestJoinsUptoRow, standIns := [], harness := (true, "eae1381925f787b2fb4c61a54a7e47e2af93120e57fd7c4805cff6930c75bcf6"), looks := false }, kinds := [], alts := [], laidByText := true, laidKinds := [.data, .data], laidTests := true, laidLooks := .later }
def DigestJoinsUptoCardSaid : Prop := Claim7.holds Tryd.pinned (.plain (OpenSpec.upto digestJoinsSpec)) digestJoinsUptoCard

/-- THE SECOND FORM's CARD OF 'pontoonlaw04.DigestInputs'. -/
def digestInputsUptoCard : Claim7 := { stood := { row := digestInputsUptoRow, standIns := [], harness := (true, "eae1381925f787b2fb4c61a54a7e47e2af93120e57fd7c4805cff6930c75bcf6"), looks := false }, kinds := [], alts := [], laidByText := true, laidKinds := [.data, .data], laidTests := true, laidLooks := .later }
def DigestInputsUptoCardSaid : Prop := Claim7.holds Tryd.pinned (.plain (OpenSpec.upto digestInputsSpec)) digestInputsUptoCard
end Rows
end Go.Proofs.YtccecnohgakllaaDoor
