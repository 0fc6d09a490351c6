/-
  WHAT A READER's Digest, Digests, Sig ANSWER.
-/
import Derived.Test.YtlanplknendmaaaWireRead2
import Derived.Test.YtlanplknendmaaaCopyStr
import Derived.Deep.RegionHeld3
import Derived.Deep.DeepCutAuto
namespace Go.Proofs.Ytlanplknendmaaa
open Go.RowKit
set_option linter.unusedSimpArgs false
set_option linter.unusedVariables false

/-- A digest of the bytes that are there. -/
def pad32 (l : List UInt8) : List UInt8 := l ++ List.replicate (32 - l.length) 0
theorem pad32_length (l : List UInt8) (h : l.length ≤ 32) : (pad32 l).length = 32 := by simp [pad32]; omega

end Go.Proofs.Ytlanplknendmaaa
