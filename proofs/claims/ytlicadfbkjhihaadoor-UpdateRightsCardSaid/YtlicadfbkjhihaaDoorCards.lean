/-
  DERIVED. GIVEN WITH THE SEED: THE CARDS: each row of YtlicadfbkjhihaaDoorRows.lean that lists a variable, with what it lists TIED to the program's text (the seventh form; the later family's looks); each row that meets fmt, with fmt's text TOLD by the authors' own Lean function (tested against real Go, not proved from fmt's source: count such statements apart). THE CARD IS WHAT COUNTS. Prove the row's statement (the work); the ties are given (YtlicadfbkjhihaaDoorTie.lean); close each card by the builder's one call (the guide's Derived/Test/ToyasCard.lean, 'card_holds'). Laid BY PROGRAM, IN A SANDBOX (cutbox-door.mjs). By AI agents, Wed Nov 11 2026. No macro, syntax, notation, axiom, sorry.
-/
import Derived.Test.YtlicadfbkjhihaaDoorRows
import GoSem.ClaimSeven
namespace Go.Proofs.YtlicadfbkjhihaaDoor
namespace Rows

/-- THE TIED CARD OF 'pontoonlaw10.UpdateSigns'. -/
def updateSignsCard : Claim7 := { stood := { row := updateSignsRow, standIns := [], harness := (true, "8640d4b65a05f566fe892bb1fbd7791265121c99b5fde19014aadb078a70ae33"), looks := false }, kinds := [], alts := [], laidByText := true, laidKinds := [.data, .data], laidTests := true, laidLooks := .later }
def UpdateSignsCardSaid : Prop := Claim7.holds Tryd.pinned (.plain (OpenSpec.ofChange updateSignsSpec)) updateSignsCard

/-- THE TIED CARD OF 'pontoonlaw10.UpdateRights'. -/
def updateRightsCard : Claim7 := { stood := { row := updateRightsRow, standIns := [], harness := (true, "8640d4b65a05f566fe892bb1fbd7791265121c99b5fde19014aadb078a70ae33"), looks := false }, kinds := [], alts := [], laidByText := true, laidKinds := [.data, .data], laidTests := true, laidLooks := .later }
def UpdateRightsCardSaid : Prop := Claim7.holds Tryd.pinned (.plain (OpenSpec.ofChange updateRightsSpec)) updateRightsCard

/-- THE SECOND FORM's CARD OF 'pontoonlaw10.UpdateSigns'. -/
def updateSignsUptoCard : Claim7 := { stood := { row := updateSignsUptoRow, standIns := [], harness := (true, "8640d4b65a05f566fe892bb1fbd7791265121c99b5fde19014aadb078a70ae33"), looks := false }, kinds := [], alts := [], laidByText := true, laidKinds := [.data, .data], laidTests := true, laidLooks := .later }
def UpdateSignsUptoCardSaid : Prop := Claim7.holds Tryd.pinned (.plain (OpenSpec.upto updateSignsSpec)) updateSignsUptoCard

/-- THE SECOND FORM's CARD OF 'pontoonlaw10.UpdateRights'. -/
def updateRightsUptoCard : Claim7 := { stood := { row := updateRightsUptoRow, standIns := [], harness := (true, "8640d4b65a05f566fe892bb1fbd7791265121c99b5fde19014aadb078a70ae33"), looks := false }, kinds := [], alts := [], laidByText := true, laidKinds := [.data, .data], laidTests := true, laidLooks := .later }
def UpdateRightsUptoCardSaid : Prop := Claim7.holds Tryd.pinned (.plain (OpenSpec.upto updateRightsSpec)) updateRightsUptoCard
end Rows
end Go.Proofs.YtlicadfbkjhihaaDoor
