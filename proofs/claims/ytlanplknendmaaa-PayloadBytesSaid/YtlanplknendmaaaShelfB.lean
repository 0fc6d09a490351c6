/-
  THE LIBRARY'S CONTRACTS THAT THIS SEAT'S PROOFS USE, AT ITS OWN NUMBERS: strings.Builder, strings.Clone.
-/
import Derived.Shelf.Strings.BuilderK
import Derived.Shelf.Strings.BuilderRune
import Derived.Shelf.Strconv.Clone
import Derived.Test.YtlanplknendmaaaProg
import Derived.WalkKit
namespace Go.Proofs
open Go.Shelf
namespace Ytlanplknendmaaa
open Go.RowKit
end Ytlanplknendmaaa
end Go.Proofs
