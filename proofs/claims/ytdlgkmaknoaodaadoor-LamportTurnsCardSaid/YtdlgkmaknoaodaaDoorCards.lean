/-
  DERIVED. GIVEN WITH THE SEED: THE CARDS: each row of YtdlgkmaknoaodaaDoorRows.lean that lists a variable, with what it lists TIED to the program's text (the seventh form; the later family's looks); each row that meets fmt, with fmt's text TOLD by the authors' own Lean function (tested against real Go, not proved from fmt's source: count such statements apart). THE CARD IS WHAT COUNTS. Prove the row's statement (the work); the ties are given (YtdlgkmaknoaodaaDoorTie.lean); close each card by the builder's one call (the guide's Derived/Test/ToyasCard.lean, 'card_holds'). Laid BY PROGRAM, IN A SANDBOX (cutbox-door.mjs). By AI agents, Wed Nov 11 2026. No macro, syntax, notation, axiom, sorry.
-/
import Derived.Test.YtdlgkmaknoaodaaDoorRows
import GoSem.ClaimSeven
namespace Go.Proofs.YtdlgkmaknoaodaaDoor
namespace Rows

/-- THE TIED CARD OF 'pontoonlaw05.LamportKeys'. -/
def lamportKeysCard : Claim7 := { stood := { row := lamportKeysRow, standIns := [], harness := (true, "cb49d17ead2054ec1dc4a073209a027302ea770bc50c5247f5fe384a4f935743"), looks := false }, kinds := [], alts := [], laidByText := true, laidKinds := [.data, .data], laidTests := true, laidLooks := .later }
def LamportKeysCardSaid : Prop := Claim7.holds Tryd.pinned (.plain (OpenSpec.ofChange lamportKeysSpec)) lamportKeysCard

/-- THE TIED CARD OF 'pontoonlaw05.LamportSigns'. -/
def lamportSignsCard : Claim7 := { stood := { row := lamportSignsRow, standIns := [], harness := (true, "cb49d17ead2054ec1dc4a073209a027302ea770bc50c5247f5fe384a4f935743"), looks := false }, kinds := [], alts := [], laidByText := true, laidKinds := [.data, .data], laidTests := true, laidLooks := .later }
def LamportSignsCardSaid : Prop := Claim7.holds Tryd.pinned (.plain (OpenSpec.ofChange lamportSignsSpec)) lamportSignsCard

/-- THE TIED CARD OF 'pontoonlaw05.LamportBinds'. -/
def lamportBindsCard : Claim7 := { stood := { row := lamportBindsRow, standIns := [], harness := (true, "cb49d17ead2054ec1dc4a073209a027302ea770bc50c5247f5fe384a4f935743"), looks := false }, kinds := [], alts := [], laidByText := true, laidKinds := [.data, .data], laidTests := true, laidLooks := .later }
def LamportBindsCardSaid : Prop := Claim7.holds Tryd.pinned (.plain (OpenSpec.ofChange lamportBindsSpec)) lamportBindsCard

/-- THE TIED CARD OF 'pontoonlaw05.LamportTurns'. -/
def lamportTurnsCard : Claim7 := { stood := { row := lamportTurnsRow, standIns := [], harness := (true, "cb49d17ead2054ec1dc4a073209a027302ea770bc50c5247f5fe384a4f935743"), looks := false }, kinds := [], alts := [], laidByText := true, laidKinds := [.data, .data], laidTests := true, laidLooks := .later }
def LamportTurnsCardSaid : Prop := Claim7.holds Tryd.pinned (.plain (OpenSpec.ofChange lamportTurnsSpec)) lamportTurnsCard

/-- THE SECOND FORM's CARD OF 'pontoonlaw05.LamportKeys'. -/
def lamportKeysUptoCard : Claim7 := { stood := { row := lamportKeysUptoRow, standIns := [], harness := (true, "cb49d17ead2054ec1dc4a073209a027302ea770bc50c5247f5fe384a4f935743"), looks := false }, kinds := [], alts := [], laidByText := true, laidKinds := [.data, .data], laidTests := true, laidLooks := .later }
def LamportKeysUptoCardSaid : Prop := Claim7.holds Tryd.pinned (.plain (OpenSpec.upto lamportKeysSpec)) lamportKeysUptoCard

/-- THE SECOND FORM's CARD OF 'pontoonlaw05.LamportSigns'. -/
def lamportSignsUptoCard : Claim7 := { stood := { row := lamportSignsUptoRow, standIns := [], harness := (true, "cb49d17ead2054ec1dc4a073209a027302ea770bc50c5247f5fe384a4f935743"), looks := false }, kinds := [], alts := [], laidByText := true, laidKinds := [.data, .data], laidTests := true, laidLooks := .later }
def LamportSignsUptoCardSaid : Prop := Claim7.holds Tryd.pinned (.plain (OpenSpec.upto lamportSignsSpec)) lamportSignsUptoCard

/-- THE SECOND FORM's CARD OF 'pontoonlaw05.LamportBinds'. -/
def lamportBindsUptoCard : Claim7 := { stood := { row := lamportBindsUptoRow, standIns := [], harness := (true, "cb49d17ead2054ec1dc4a073209a027302ea770bc50c5247f5fe384a4f935743"), looks := false }, kinds := [], alts := [], laidByText := true, laidKinds := [.data, .data], laidTests := true, laidLooks := .later }
def LamportBindsUptoCardSaid : Prop := Claim7.holds Tryd.pinned (.plain (OpenSpec.upto lamportBindsSpec)) lamportBindsUptoCard

/-- THE SECOND FORM's CARD OF 'pontoonlaw05.LamportTurns'. -/
def lamportTurnsUptoCard : Claim7 := { stood := { row := lamportTurnsUptoRow, standIns := [], harness := (true, "cb49d17ead2054ec1dc4a073209a027302ea770bc50c5247f5fe384a4f935743"), looks := false }, kinds := [], alts := [], laidByText := true, laidKinds := [.data, .data], laidTests := true, laidLooks := .later }
def LamportTurnsUptoCardSaid : Prop := Claim7.holds Tryd.pinned (.plain (OpenSpec.upto lamportTurnsSpec)) lamportTurnsUptoCard
end Rows
end Go.Proofs.YtdlgkmaknoaodaaDoor
