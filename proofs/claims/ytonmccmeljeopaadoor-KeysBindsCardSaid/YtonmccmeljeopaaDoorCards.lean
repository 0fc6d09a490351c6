/-
  DERIVED. GIVEN WITH THE SEED: THE CARDS: each row of YtonmccmeljeopaaDoorRows.lean that lists a variable, with what it lists TIED to the program's text (the seventh form; the later family's looks); each row that meets fmt, with fmt's text TOLD by the authors' own Lean function (tested against real Go, not proved from fmt's source: count such statements apart). THE CARD IS WHAT COUNTS. Prove the row's statement (the work); the ties are given (YtonmccmeljeopaaDoorTie.lean); close each card by the builder's one call (the guide's Derived/Test/ToyasCard.lean, 'card_holds'). Laid BY PROGRAM, IN A SANDBOX (cutbox-door.mjs). By AI agents, Wed Nov 11 2026. No macro, syntax, notation, axiom, sorry.
-/
import Derived.Test.YtonmccmeljeopaaDoorRows
import GoSem.ClaimSeven
namespace Go.Proofs.YtonmccmeljeopaaDoor
namespace Rows

/-- THE TIED CARD OF 'pontoonlaw06.KeysBinds'. -/
def keysBindsCard : Claim7 := { stood := { row := keysBindsRow, standIns := [], harness := (true, "dbfd68d64c9ff8f4cc073b295742705baad7ee12ebeabab8c95c3800ff82dcd2"), looks := false }, kinds := [], alts := [], laidByText := true, laidKinds := [.data, .data], laidTests := true, laidLooks := .later }
def KeysBindsCardSaid : Prop := Claim7.holds Tryd.pinned (.plain (OpenSpec.ofChange keysBindsSpec)) keysBindsCard

/-- THE SECOND FORM's CARD OF 'pontoonlaw06.KeysBinds'. -/
def keysBindsUptoCard : Claim7 := { stood := { row := keysBindsUptoRow, standIns := [], harness := (true, "dbfd68d64c9ff8f4cc073b295742705baad7ee12ebeabab8c95c3800ff82dcd2"), looks := false }, kinds := [], alts := [], laidByText := true, laidKinds := [.data, .data], laidTests := true, laidLooks := .later }
def KeysBindsUptoCardSaid : Prop := Claim7.holds Tryd.pinned (.plain (OpenSpec.upto keysBindsSpec)) keysBindsUptoCard
end Rows
end Go.Proofs.YtonmccmeljeopaaDoor
