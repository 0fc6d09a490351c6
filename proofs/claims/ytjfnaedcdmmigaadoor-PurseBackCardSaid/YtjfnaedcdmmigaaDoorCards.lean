/-
  DERIVED. GIVEN WITH THE SEED: THE CARDS: each row of YtjfnaedcdmmigaaDoorRows.lean that lists a variable, with what it lists TIED to the program's text (the seventh form; the later family's looks); each row that meets fmt, with fmt's text TOLD by the authors' own Lean function (tested against real Go, not proved from fmt's source: count such statements apart). THE CARD IS WHAT COUNTS. Prove the row's statement (the work); the ties are given (YtjfnaedcdmmigaaDoorTie.lean); close each card by the builder's one call (the guide's Derived/Test/ToyasCard.lean, 'card_holds'). Laid BY PROGRAM, IN A SANDBOX (cutbox-door.mjs). By AI agents, Wed Nov 11 2026. No macro, syntax, notation, axiom, sorry.
-/
import Derived.Test.YtjfnaedcdmmigaaDoorRows
import GoSem.ClaimSeven
namespace Go.Proofs.YtjfnaedcdmmigaaDoor
namespace Rows

/-- THE TIED CARD OF 'pontoonlaw14.PursePlays'. -/
def pursePlaysCard : Claim7 := { stood := { row := pursePlaysRow, standIns := [], harness := (true, "aec091f38353e8da192347604875450f0a3f4d79ba6bd02fba511efeb1579bfe"), looks := true }, kinds := [], alts := [], laidByText := true, laidKinds := [.data, .pinned], laidTests := true, laidLooks := .later }
def PursePlaysCardSaid : Prop := Claim7.holds Tryd.pinned (.plain (OpenSpec.ofChange pursePlaysSpec)) pursePlaysCard

/-- THE TIED CARD OF 'pontoonlaw14.PurseSums'. -/
def purseSumsCard : Claim7 := { stood := { row := purseSumsRow, standIns := [], harness := (true, "aec091f38353e8da192347604875450f0a3f4d79ba6bd02fba511efeb1579bfe"), looks := true }, kinds := [], alts := [], laidByText := true, laidKinds := [.data, .pinned], laidTests := true, laidLooks := .later }
def PurseSumsCardSaid : Prop := Claim7.holds Tryd.pinned (.plain (OpenSpec.ofChange purseSumsSpec)) purseSumsCard

/-- THE TIED CARD OF 'pontoonlaw14.PurseBack'. -/
def purseBackCard : Claim7 := { stood := { row := purseBackRow, standIns := [], harness := (true, "aec091f38353e8da192347604875450f0a3f4d79ba6bd02fba511efeb1579bfe"), looks := true }, kinds := [], alts := [], laidByText := true, laidKinds := [.data, .pinned], laidTests := true, laidLooks := .later }
def PurseBackCardSaid : Prop := Claim7.holds Tryd.pinned (.plain (OpenSpec.ofChange purseBackSpec)) purseBackCard

/-- THE TIED CARD OF 'pontoonlaw18.RouterCrosses'. -/
def routerCrossesCard : Claim7 := { stood := { row := routerCrossesRow, standIns := [], harness := (true, "aec091f38353e8da192347604875450f0a3f4d79ba6bd02fba511efeb1579bfe"), looks := true }, kinds := [], alts := [], laidByText := true, laidKinds := [.data, .pinned], laidTests := true, laidLooks := .later }
def RouterCrossesCardSaid : Prop := Claim7.holds Tryd.pinned (.plain (OpenSpec.ofChange routerCrossesSpec)) routerCrossesCard

/-- THE SECOND FORM's CARD OF 'pontoonlaw14.PursePlays'. -/
def pursePlaysUptoCard : Claim7 := { stood := { row := pursePlaysUptoRow, standIns := [], harness := (true, "aec091f38353e8da192347604875450f0a3f4d79ba6bd02fba511efeb1579bfe"), looks := true }, kinds := [], alts := [], laidByText := true, laidKinds := [.data, .pinned], laidTests := true, laidLooks := .later }
def PursePlaysUptoCardSaid : Prop := Claim7.holds Tryd.pinned (.plain (OpenSpec.upto pursePlaysSpec)) pursePlaysUptoCard

/-- THE SECOND FORM's CARD OF 'pontoonlaw14.PurseSums'. -/
def purseSumsUptoCard : Claim7 := { stood := { row := purseSumsUptoRow, standIns := [], harness := (true, "aec091f38353e8da192347604875450f0a3f4d79ba6bd02fba511efeb1579bfe"), looks := true }, kinds := [], alts := [], laidByText := true, laidKinds := [.data, .pinned], laidTests := true, laidLooks := .later }
def PurseSumsUptoCardSaid : Prop := Claim7.holds Tryd.pinned (.plain (OpenSpec.upto purseSumsSpec)) purseSumsUptoCard

/-- THE SECOND FORM's CARD OF 'pontoonlaw14.PurseBack'. -/
def purseBackUptoCard : Claim7 := { stood := { row := purseBackUptoRow, standIns := [], harness := (true, "aec091f38353e8da192347604875450f0a3f4d79ba6bd02fba511efeb1579bfe"), looks := true }, kinds := [], alts := [], laidByText := true, laidKinds := [.data, .pinned], laidTests := true, laidLooks := .later }
def PurseBackUptoCardSaid : Prop := Claim7.holds Tryd.pinned (.plain (OpenSpec.upto purseBackSpec)) purseBackUptoCard

/-- THE SECOND FORM's CARD OF 'pontoonlaw18.RouterCrosses'. -/
def routerCrossesUptoCard : Claim7 := { stood := { row := routerCrossesUptoRow, standIns := [], harness := (true, "aec091f38353e8da192347604875450f0a3f4d79ba6bd02fba511efeb1579bfe"), looks := true }, kinds := [], alts := [], laidByText := true, laidKinds := [.data, .pinned], laidTests := true, laidLooks := .later }
def RouterCrossesUptoCardSaid : Prop := Claim7.holds Tryd.pinned (.plain (OpenSpec.upto routerCrossesSpec)) routerCrossesUptoCard
end Rows
end Go.Proofs.YtjfnaedcdmmigaaDoor
