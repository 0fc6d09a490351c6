/-
  WHAT wire's Digest AND Digests RETURN.
-/
import Derived.Test.YtlanplknendmaaaWireText
import Derived.Test.YtlanplknendmaaaWireRead5
import Derived.Test.YtlanplknendmaaaShelfG
import Derived.Deep.MidRow
namespace Go.Proofs.Ytlanplknendmaaa
open Go.RowKit
set_option linter.unusedSimpArgs false
set_option linter.unusedVariables false

/-- How many, and they. -/
def pDigests (l : List UInt8) : List UInt8 := pBig (l.length / 32) 4 ++ l
end Go.Proofs.Ytlanplknendmaaa
