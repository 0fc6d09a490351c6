/-
  WHAT wire's Digest AND Digests RETURN.
-/
import Derived.Test.YtefdlpddhkocbaaWireText
import Derived.Test.YtefdlpddhkocbaaWireRead5
import Derived.Test.YtefdlpddhkocbaaShelfG
import Derived.Deep.MidRow
namespace Go.Proofs.Ytefdlpddhkocbaa
open Go.RowKit
set_option linter.unusedSimpArgs false
set_option linter.unusedVariables false

/-- How many, and they. -/
def pDigests (l : List UInt8) : List UInt8 := pBig (l.length / 32) 4 ++ l
end Go.Proofs.Ytefdlpddhkocbaa
