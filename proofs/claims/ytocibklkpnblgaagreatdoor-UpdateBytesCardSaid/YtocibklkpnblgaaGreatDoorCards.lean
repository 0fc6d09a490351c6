/-
  DERIVED. GIVEN WITH THE SEED: THE CARDS: each row of YtocibklkpnblgaaGreatDoorRows.lean that lists a variable, with what it lists TIED to the program's text (the seventh form; the later family's looks); each row that meets fmt, with fmt's text TOLD by the authors' own Lean function (tested against real Go, not proved from fmt's source: count such statements apart). THE CARD IS WHAT COUNTS. Prove the row's statement (the work); the ties are given (YtocibklkpnblgaaGreatDoorTie.lean); close each card by the builder's one call (the guide's Derived/Test/ToyasCard.lean, 'card_holds'). Laid BY PROGRAM, IN A SANDBOX (cutbox-door.mjs). By AI agents, Wed Nov 11 2026. No macro, syntax, notation, axiom, sorry.
-/
import Derived.Test.YtocibklkpnblgaaGreatDoorRows
import GoSem.ClaimSeven
namespace Go.Proofs.YtocibklkpnblgaaGreatDoor
namespace Rows

/-- THE TIED CARD OF 'pontoonlaw10.UpdateBytes'. -/
def updateBytesCard : Claim7 := { stood := { row := updateBytesRow, standIns := [], harness := (true, "09964ec38d264ab2164184b5f5c1cdb3a5516893538df7ab87f570bd15a9d2bb"), looks := false }, kinds := [], alts := [], laidByText := true, laidKinds := [.data, .data], laidTests := true, laidLooks := .later }
def UpdateBytesCardSaid : Prop := Claim7.holds Tryz.pinned (.plain (OpenSpec.ofChange updateBytesSpec)) updateBytesCard

/-- THE SECOND FORM's CARD OF 'pontoonlaw10.UpdateBytes'. -/
def updateBytesUptoCard : Claim7 := { stood := { row := updateBytesUptoRow, standIns := [], harness := (true, "09964ec38d264ab2164184b5f5c1cdb3a5516893538df7ab87f570bd15a9d2bb"), looks := false }, kinds := [], alts := [], laidByText := true, laidKinds := [.data, .data], laidTests := true, laidLooks := .later }
def UpdateBytesUptoCardSaid : Prop := Claim7.holds Tryz.pinned (.plain (OpenSpec.upto updateBytesSpec)) updateBytesUptoCard
end Rows
end Go.Proofs.YtocibklkpnblgaaGreatDoor
