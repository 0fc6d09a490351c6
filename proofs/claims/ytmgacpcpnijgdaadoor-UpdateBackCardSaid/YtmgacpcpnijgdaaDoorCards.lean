/-
  DERIVED. GIVEN WITH THE SEED: THE CARDS: each row of YtmgacpcpnijgdaaDoorRows.lean that lists a variable, with what it lists TIED to the program's text (the seventh form; the later family's looks); each row that meets fmt, with fmt's text TOLD by the authors' own Lean function (tested against real Go, not proved from fmt's source: count such statements apart). THE CARD IS WHAT COUNTS. Prove the row's statement (the work); the ties are given (YtmgacpcpnijgdaaDoorTie.lean); close each card by the builder's one call (the guide's Derived/Test/ToyasCard.lean, 'card_holds'). Laid BY PROGRAM, IN A SANDBOX (cutbox-door.mjs). By AI agents, Wed Nov 11 2026. No macro, syntax, notation, axiom, sorry.
-/
import Derived.Test.YtmgacpcpnijgdaaDoorRows
import GoSem.ClaimSeven
namespace Go.Proofs.YtmgacpcpnijgdaaDoor
namespace Rows

/-- THE TIED CARD OF 'pontoonlaw10.UpdateBack'. -/
def updateBackCard : Claim7 := { stood := { row := updateBackRow, standIns := [], harness := (true, "9bfa5e1cdedf2e28eae12f38e6ed63f4df2e2104c4a6a2b1d005a8f39ee6f1a2"), looks := false }, kinds := [], alts := [], laidByText := true, laidKinds := [.data, .data], laidTests := true, laidLooks := .later }
def UpdateBackCardSaid : Prop := Claim7.holds Tryd.pinned (.plain (OpenSpec.ofChange updateBackSpec)) updateBackCard

/-- THE SECOND FORM's CARD OF 'pontoonlaw10.UpdateBack'. -/
def updateBackUptoCard : Claim7 := { stood := { row := updateBackUptoRow, standIns := [], harness := (true, "9bfa5e1cdedf2e28eae12f38e6ed63f4df2e2104c4a6a2b1d005a8f39ee6f1a2"), looks := false }, kinds := [], alts := [], laidByText := true, laidKinds := [.data, .data], laidTests := true, laidLooks := .later }
def UpdateBackUptoCardSaid : Prop := Claim7.holds Tryd.pinned (.plain (OpenSpec.upto updateBackSpec)) updateBackUptoCard
end Rows
end Go.Proofs.YtmgacpcpnijgdaaDoor
