/-
  THE LIBRARY'S CONTRACTS OF strings.Builder AT THIS SEAT'S NUMBERS: Grow of a new one (WriteString: ShelfW; String: ShelfB).
-/
import Derived.Test.YtlanplknendmaaaShelfW
import Derived.Shelf.Strings.Builder2
import Derived.Test.YtlanplknendmaaaProg
import Derived.WalkKit
namespace Go.Proofs
open Go.Shelf
namespace Ytlanplknendmaaa
open Go.RowKit
end Ytlanplknendmaaa
end Go.Proofs
