/-
  A NEW LIST OF DIGESTS, ALL NOUGHTS.
-/
import Derived.Test.YtlanplknendmaaaCellsB
import Derived.Test.YtlanplknendmaaaConvB
namespace Go.Proofs.Ytlanplknendmaaa
open Go.RowKit
set_option linter.unusedSimpArgs false
set_option linter.unusedVariables false

theorem repl_getD (n j : Nat) (h : j < n) : (List.replicate n (0 : UInt8)).getD j 0 = 0 := by
  rw [List.getD_eq_getElem?_getD, List.getElem?_replicate, if_pos h]; rfl
end Go.Proofs.Ytlanplknendmaaa
