/-
  DERIVED. GIVEN WITH THE SEED: THE CARDS: each row of YtaclnlmmkcjjeaaDoorRows.lean that lists a variable, with what it lists TIED to the program's text (the seventh form; the later family's looks); each row that meets fmt, with fmt's text TOLD by the authors' own Lean function (tested against real Go, not proved from fmt's source: count such statements apart). THE CARD IS WHAT COUNTS. Prove the row's statement (the work); the ties are given (YtaclnlmmkcjjeaaDoorTie.lean); close each card by the builder's one call (the guide's Derived/Test/ToyasCard.lean, 'card_holds'). Laid BY PROGRAM, IN A SANDBOX (cutbox-door.mjs). By AI agents, Wed Nov 11 2026. No macro, syntax, notation, axiom, sorry.
-/
import Derived.Test.YtaclnlmmkcjjeaaDoorRows
import GoSem.ClaimSeven
namespace Go.Proofs.YtaclnlmmkcjjeaaDoor
namespace Rows

/-- THE TIED CARD OF 'pontoonlaw09.LetterLeaves'. -/
def letterLeavesCard : Claim7 := { stood := { row := letterLeavesRow, standIns := [], harness := (true, "f7c423e98e7a1062a7e1620b898c8a9a6121cd77cbdf22e038b77cf42f8aa588"), looks := false }, kinds := [], alts := [], laidByText := true, laidKinds := [.data, .data], laidTests := true, laidLooks := .later }
def LetterLeavesCardSaid : Prop := Claim7.holds Tryd.pinned (.plain (OpenSpec.ofChange letterLeavesSpec)) letterLeavesCard

/-- THE SECOND FORM's CARD OF 'pontoonlaw09.LetterLeaves'. -/
def letterLeavesUptoCard : Claim7 := { stood := { row := letterLeavesUptoRow, standIns := [], harness := (true, "f7c423e98e7a1062a7e1620b898c8a9a6121cd77cbdf22e038b77cf42f8aa588"), looks := false }, kinds := [], alts := [], laidByText := true, laidKinds := [.data, .data], laidTests := true, laidLooks := .later }
def LetterLeavesUptoCardSaid : Prop := Claim7.holds Tryd.pinned (.plain (OpenSpec.upto letterLeavesSpec)) letterLeavesUptoCard
end Rows
end Go.Proofs.YtaclnlmmkcjjeaaDoor
