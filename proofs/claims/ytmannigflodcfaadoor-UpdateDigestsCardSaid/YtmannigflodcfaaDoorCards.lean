/-
  DERIVED. GIVEN WITH THE SEED: THE CARDS: each row of YtmannigflodcfaaDoorRows.lean that lists a variable, with what it lists TIED to the program's text (the seventh form; the later family's looks); each row that meets fmt, with fmt's text TOLD by the authors' own Lean function (tested against real Go, not proved from fmt's source: count such statements apart). THE CARD IS WHAT COUNTS. Prove the row's statement (the work); the ties are given (YtmannigflodcfaaDoorTie.lean); close each card by the builder's one call (the guide's Derived/Test/ToyasCard.lean, 'card_holds'). Laid BY PROGRAM, IN A SANDBOX (cutbox-door.mjs). By AI agents, Wed Nov 11 2026. No macro, syntax, notation, axiom, sorry.
-/
import Derived.Test.YtmannigflodcfaaDoorRows
import GoSem.ClaimSeven
namespace Go.Proofs.YtmannigflodcfaaDoor
namespace Rows

/-- THE TIED CARD OF 'pontoonlaw10.UpdateDigests'. -/
def updateDigestsCard : Claim7 := { stood := { row := updateDigestsRow, standIns := [], harness := (true, "0c05f0777c3b66e3cd88e77847736d995376695d332dbada4fff15065661a380"), looks := false }, kinds := [], alts := [], laidByText := true, laidKinds := [.data, .data], laidTests := true, laidLooks := .later }
def UpdateDigestsCardSaid : Prop := Claim7.holds Tryd.pinned (.plain (OpenSpec.ofChange updateDigestsSpec)) updateDigestsCard

/-- THE TIED CARD OF 'pontoonlaw10.UpdateSigns'. -/
def updateSignsCard : Claim7 := { stood := { row := updateSignsRow, standIns := [], harness := (true, "0c05f0777c3b66e3cd88e77847736d995376695d332dbada4fff15065661a380"), looks := false }, kinds := [], alts := [], laidByText := true, laidKinds := [.data, .data], laidTests := true, laidLooks := .later }
def UpdateSignsCardSaid : Prop := Claim7.holds Tryd.pinned (.plain (OpenSpec.ofChange updateSignsSpec)) updateSignsCard

/-- THE TIED CARD OF 'pontoonlaw10.UpdateRights'. -/
def updateRightsCard : Claim7 := { stood := { row := updateRightsRow, standIns := [], harness := (true, "0c05f0777c3b66e3cd88e77847736d995376695d332dbada4fff15065661a380"), looks := false }, kinds := [], alts := [], laidByText := true, laidKinds := [.data, .data], laidTests := true, laidLooks := .later }
def UpdateRightsCardSaid : Prop := Claim7.holds Tryd.pinned (.plain (OpenSpec.ofChange updateRightsSpec)) updateRightsCard

/-- THE TIED CARD OF 'pontoonlaw10.UpdateBack'. -/
def updateBackCard : Claim7 := { stood := { row := updateBackRow, standIns := [], harness := (true, "0c05f0777c3b66e3cd88e77847736d995376695d332dbada4fff15065661a380"), looks := false }, kinds := [], alts := [], laidByText := true, laidKinds := [.data, .data], laidTests := true, laidLooks := .later }
def UpdateBackCardSaid : Prop := Claim7.holds Tryd.pinned (.plain (OpenSpec.ofChange updateBackSpec)) updateBackCard

/-- THE SECOND FORM's CARD OF 'pontoonlaw10.UpdateDigests'. -/
def updateDigestsUptoCard : Claim7 := { stood := { row := updateDigestsUptoRow, standIns := [], harness := (true, "0c05f0777c3b66e3cd88e77847736d995376695d332dbada4fff15065661a380"), looks := false }, kinds := [], alts := [], laidByText := true, laidKinds := [.data, .data], laidTests := true, laidLooks := .later }
def UpdateDigestsUptoCardSaid : Prop := Claim7.holds Tryd.pinned (.plain (OpenSpec.upto updateDigestsSpec)) updateDigestsUptoCard

/-- THE SECOND FORM's CARD OF 'pontoonlaw10.UpdateSigns'. -/
def updateSignsUptoCard : Claim7 := { stood := { row := updateSignsUptoRow, standIns := [], harness := (true, "0c05f0777c3b66e3cd88e77847736d995376695d332dbada4fff15065661a380"), looks := false }, kinds := [], alts := [], laidByText := true, laidKinds := [.data, .data], laidTests := true, laidLooks := .later }
def UpdateSignsUptoCardSaid : Prop := Claim7.holds Tryd.pinned (.plain (OpenSpec.upto updateSignsSpec)) updateSignsUptoCard

/-- THE SECOND FORM's CARD OF 'pontoonlaw10.UpdateRights'. -/
def updateRightsUptoCard : Claim7 := { stood := { row := updateRightsUptoRow, standIns := [], harness := (true, "0c05f0777c3b66e3cd88e77847736d995376695d332dbada4fff15065661a380"), looks := false }, kinds := [], alts := [], laidByText := true, laidKinds := [.data, .data], laidTests := true, laidLooks := .later }
def UpdateRightsUptoCardSaid : Prop := Claim7.holds Tryd.pinned (.plain (OpenSpec.upto updateRightsSpec)) updateRightsUptoCard

/-- THE SECOND FORM's CARD OF 'pontoonlaw10.UpdateBack'. -/
def updateBackUptoCard : Claim7 := { stood := { row := updateBackUptoRow, standIns := [], harness := (true, "0c05f0777c3b66e3cd88e77847736d995376695d332dbada4fff15065661a380"), looks := false }, kinds := [], alts := [], laidByText := true, laidKinds := [.data, .data], laidTests := true, laidLooks := .later }
def UpdateBackUptoCardSaid : Prop := Claim7.holds Tryd.pinned (.plain (OpenSpec.upto updateBackSpec)) updateBackUptoCard
end Rows
end Go.Proofs.YtmannigflodcfaaDoor
