/-
  DERIVED. GIVEN WITH THE SEED: THE CARDS: each row of YtjoefhdclghgaaaDoorRows.lean that lists a variable, with what it lists TIED to the program's text (the seventh form; the later family's looks); each row that meets fmt, with fmt's text TOLD by the authors' own Lean function (tested against real Go, not proved from fmt's source: count such statements apart). THE CARD IS WHAT COUNTS. Prove the row's statement (the work); the ties are given (YtjoefhdclghgaaaDoorTie.lean); close each card by the builder's one call (the guide's Derived/Test/ToyasCard.lean, 'card_holds'). Laid BY PROGRAM, IN A SANDBOX (cutbox-door.mjs). By AI agents, Wed Nov 11 2026. No macro, syntax, notation, axiom, sorry.
-/
import Derived.Test.YtjoefhdclghgaaaDoorRows
import GoSem.ClaimSeven
namespace Go.Proofs.YtjoefhdclghgaaaDoor
namespace Rows

/-- THE TIED CARD OF 'pontoonlaw06.KeysVerifies'. -/
def keysVerifiesCard : Claim7 := { stood := { row := keysVerifiesRow, standIns := [], harness := (true, "88a2ffecf0c9b11a39baa1d62e3ac37bc3dd91182ce05f7be659b92b15d180d0"), looks := false }, kinds := [], alts := [], laidByText := true, laidKinds := [.data, .data], laidTests := true, laidLooks := .later }
def KeysVerifiesCardSaid : Prop := Claim7.holds Tryd.pinned (.plain (OpenSpec.ofChange keysVerifiesSpec)) keysVerifiesCard

/-- THE TIED CARD OF 'pontoonlaw06.KeysBooks'. -/
def keysBooksCard : Claim7 := { stood := { row := keysBooksRow, standIns := [], harness := (true, "88a2ffecf0c9b11a39baa1d62e3ac37bc3dd91182ce05f7be659b92b15d180d0"), looks := false }, kinds := [], alts := [], laidByText := true, laidKinds := [.data, .data], laidTests := true, laidLooks := .later }
def KeysBooksCardSaid : Prop := Claim7.holds Tryd.pinned (.plain (OpenSpec.ofChange keysBooksSpec)) keysBooksCard

/-- THE SECOND FORM's CARD OF 'pontoonlaw06.KeysVerifies'. -/
def keysVerifiesUptoCard : Claim7 := { stood := { row := keysVerifiesUptoRow, standIns := [], harness := (true, "88a2ffecf0c9b11a39baa1d62e3ac37bc3dd91182ce05f7be659b92b15d180d0"), looks := false }, kinds := [], alts := [], laidByText := true, laidKinds := [.data, .data], laidTests := true, laidLooks := .later }
def KeysVerifiesUptoCardSaid : Prop := Claim7.holds Tryd.pinned (.plain (OpenSpec.upto keysVerifiesSpec)) keysVerifiesUptoCard

/-- THE SECOND FORM's CARD OF 'pontoonlaw06.KeysBooks'. -/
def keysBooksUptoCard : Claim7 := { stood := { row := keysBooksUptoRow, standIns := [], harness := (true, "88a2ffecf0c9b11a39baa1d62e3ac37bc3dd91182ce05f7be659b92b15d180d0"), looks := false }, kinds := [], alts := [], laidByText := true, laidKinds := [.data, .data], laidTests := true, laidLooks := .later }
def KeysBooksUptoCardSaid : Prop := Claim7.holds Tryd.pinned (.plain (OpenSpec.upto keysBooksSpec)) keysBooksUptoCard
end Rows
end Go.Proofs.YtjoefhdclghgaaaDoor
