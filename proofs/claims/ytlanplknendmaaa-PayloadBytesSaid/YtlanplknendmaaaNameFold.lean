/-
  WHAT name's Fold RETURNS.
-/
import Derived.Test.YtlanplknendmaaaNameStray
import Derived.Test.YtlanplknendmaaaShelfB
import Derived.Test.YtlanplknendmaaaStrIdx
namespace Go.Proofs
open Go.Shelf
namespace Ytlanplknendmaaa
open Go.RowKit
set_option linter.unusedSimpArgs false
set_option linter.unusedVariables false
/-- What stands for it in a text without capitals. -/
def foldItem (l : List UInt8) (x : Nat × Nat) : List UInt8 := if pStray l x.1 x.2 then [l.getD x.1 0] else if pCapital x.2 then Lib.encodeRune ((x.2 : Int) + 32) else Lib.encodeRune (x.2 : Int)
def pFold (l : List UInt8) : List UInt8 := (items l).flatMap (foldItem l)
theorem enc_le (r : Int) : (Lib.encodeRune r).length ≤ 4 := by
  have := Lib.runeCells_le r
  rw [Lib.runeCells_length] at this; exact this.2

end Ytlanplknendmaaa
end Go.Proofs
