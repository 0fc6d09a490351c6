/-
  DERIVED. GIVEN WITH THE SEED: THE CARDS: each row of YtdkaphebdkdfhaaDoorRows.lean that lists a variable, with what it lists TIED to the program's text (the seventh form; the later family's looks); each row that meets fmt, with fmt's text TOLD by the authors' own Lean function (tested against real Go, not proved from fmt's source: count such statements apart). THE CARD IS WHAT COUNTS. Prove the row's statement (the work); the ties are given (YtdkaphebdkdfhaaDoorTie.lean); close each card by the builder's one call (the guide's Derived/Test/ToyasCard.lean, 'card_holds'). Laid BY PROGRAM, IN A SANDBOX (cutbox-door.mjs). By AI agents, Wed Nov 11 2026. No macro, syntax, notation, axiom, sorry.
-/
import Derived.Test.YtdkaphebdkdfhaaDoorRows
import GoSem.ClaimSeven
namespace Go.Proofs.YtdkaphebdkdfhaaDoor
namespace Rows

/-- THE TIED CARD OF 'pontoonlaw06.KeysBinds'. -/
def keysBindsCard : Claim7 := { stood := { row := keysBindsRow, standIns := [], harness := (true, "4d23a63433735cd4352b458a0349ed5b48cc67ddf30c2c359ac6abadafc42f95"), looks := false }, kinds := [], alts := [], laidByText := true, laidKinds := [.data, .data], laidTests := true, laidLooks := .later }
def KeysBindsCardSaid : Prop := Claim7.holds Tryd.pinned (.plain (OpenSpec.ofChange keysBindsSpec)) keysBindsCard

/-- THE TIED CARD OF 'pontoonlaw10.UpdateBinds'. -/
def updateBindsCard : Claim7 := { stood := { row := updateBindsRow, standIns := [], harness := (true, "4d23a63433735cd4352b458a0349ed5b48cc67ddf30c2c359ac6abadafc42f95"), looks := false }, kinds := [], alts := [], laidByText := true, laidKinds := [.data, .data], laidTests := true, laidLooks := .later }
def UpdateBindsCardSaid : Prop := Claim7.holds Tryd.pinned (.plain (OpenSpec.ofChange updateBindsSpec)) updateBindsCard

/-- THE SECOND FORM's CARD OF 'pontoonlaw06.KeysBinds'. -/
def keysBindsUptoCard : Claim7 := { stood := { row := keysBindsUptoRow, standIns := [], harness := (true, "4d23a63433735cd4352b458a0349ed5b48cc67ddf30c2c359ac6abadafc42f95"), looks := false }, kinds := [], alts := [], laidByText := true, laidKinds := [.data, .data], laidTests := true, laidLooks := .later }
def KeysBindsUptoCardSaid : Prop := Claim7.holds Tryd.pinned (.plain (OpenSpec.upto keysBindsSpec)) keysBindsUptoCard

/-- THE SECOND FORM's CARD OF 'pontoonlaw10.UpdateBinds'. -/
def updateBindsUptoCard : Claim7 := { stood := { row := updateBindsUptoRow, standIns := [], harness := (true, "4d23a63433735cd4352b458a0349ed5b48cc67ddf30c2c359ac6abadafc42f95"), looks := false }, kinds := [], alts := [], laidByText := true, laidKinds := [.data, .data], laidTests := true, laidLooks := .later }
def UpdateBindsUptoCardSaid : Prop := Claim7.holds Tryd.pinned (.plain (OpenSpec.upto updateBindsSpec)) updateBindsUptoCard
end Rows
end Go.Proofs.YtdkaphebdkdfhaaDoor
