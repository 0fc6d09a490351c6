/-
  DERIVED. GIVEN WITH THE SEED: THE CARDS: each row of YtkioomojdahjlaaDoorRows.lean that lists a variable, with what it lists TIED to the program's text (the seventh form; the later family's looks); each row that meets fmt, with fmt's text TOLD by the authors' own Lean function (tested against real Go, not proved from fmt's source: count such statements apart). THE CARD IS WHAT COUNTS. Prove the row's statement (the work); the ties are given (YtkioomojdahjlaaDoorTie.lean); close each card by the builder's one call (the guide's Derived/Test/ToyasCard.lean, 'card_holds'). Laid BY PROGRAM, IN A SANDBOX (cutbox-door.mjs). By AI agents, Wed Nov 11 2026. No macro, syntax, notation, axiom, sorry.
-/
import Derived.Test.YtkioomojdahjlaaDoorRows
import GoSem.ClaimSeven
namespace Go.Proofs.YtkioomojdahjlaaDoor
namespace Rows

/-- THE TIED CARD OF 'pontoonlaw07.MerkleKeeps'. -/
def merkleKeepsCard : Claim7 := { stood := { row := merkleKeepsRow, standIns := [], harness := (true, "544fae843e0cd208cec2abc7b6dc001f6d2acaefd5ff1edb04cf71698f5cfaca"), looks := false }, kinds := [], alts := [], laidByText := true, laidKinds := [.data, .data], laidTests := true, laidLooks := .later }
def MerkleKeepsCardSaid : Prop := Claim7.holds Tryd.pinned (.plain (OpenSpec.ofChange merkleKeepsSpec)) merkleKeepsCard

/-- THE TIED CARD OF 'pontoonlaw07.MerkleLists'. -/
def merkleListsCard : Claim7 := { stood := { row := merkleListsRow, standIns := [], harness := (true, "544fae843e0cd208cec2abc7b6dc001f6d2acaefd5ff1edb04cf71698f5cfaca"), looks := false }, kinds := [], alts := [], laidByText := true, laidKinds := [.data, .data], laidTests := true, laidLooks := .later }
def MerkleListsCardSaid : Prop := Claim7.holds Tryd.pinned (.plain (OpenSpec.ofChange merkleListsSpec)) merkleListsCard

/-- THE TIED CARD OF 'pontoonlaw07.MerkleBranches'. -/
def merkleBranchesCard : Claim7 := { stood := { row := merkleBranchesRow, standIns := [], harness := (true, "544fae843e0cd208cec2abc7b6dc001f6d2acaefd5ff1edb04cf71698f5cfaca"), looks := false }, kinds := [], alts := [], laidByText := true, laidKinds := [.data, .data], laidTests := true, laidLooks := .later }
def MerkleBranchesCardSaid : Prop := Claim7.holds Tryd.pinned (.plain (OpenSpec.ofChange merkleBranchesSpec)) merkleBranchesCard

/-- THE SECOND FORM's CARD OF 'pontoonlaw07.MerkleKeeps'. -/
def merkleKeepsUptoCard : Claim7 := { stood := { row := merkleKeepsUptoRow, standIns := [], harness := (true, "544fae843e0cd208cec2abc7b6dc001f6d2acaefd5ff1edb04cf71698f5cfaca"), looks := false }, kinds := [], alts := [], laidByText := true, laidKinds := [.data, .data], laidTests := true, laidLooks := .later }
def MerkleKeepsUptoCardSaid : Prop := Claim7.holds Tryd.pinned (.plain (OpenSpec.upto merkleKeepsSpec)) merkleKeepsUptoCard

/-- THE SECOND FORM's CARD OF 'pontoonlaw07.MerkleLists'. -/
def merkleListsUptoCard : Claim7 := { stood := { row := merkleListsUptoRow, standIns := [], harness := (true, "544fae843e0cd208cec2abc7b6dc001f6d2acaefd5ff1edb04cf71698f5cfaca"), looks := false }, kinds := [], alts := [], laidByText := true, laidKinds := [.data, .data], laidTests := true, laidLooks := .later }
def MerkleListsUptoCardSaid : Prop := Claim7.holds Tryd.pinned (.plain (OpenSpec.upto merkleListsSpec)) merkleListsUptoCard

/-- THE SECOND FORM's CARD OF 'pontoonlaw07.MerkleBranches'. -/
def merkleBranchesUptoCard : Claim7 := { stood := { row := merkleBranchesUptoRow, standIns := [], harness := (true, "544fae843e0cd208cec2abc7b6dc001f6d2acaefd5ff1edb04cf71698f5cfaca"), looks := false }, kinds := [], alts := [], laidByText := true, laidKinds := [.data, .data], laidTests := true, laidLooks := .later }
def MerkleBranchesUptoCardSaid : Prop := Claim7.holds Tryd.pinned (.plain (OpenSpec.upto merkleBranchesSpec)) merkleBranchesUptoCard
end Rows
end Go.Proofs.YtkioomojdahjlaaDoor
