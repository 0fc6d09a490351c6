/-
  WHAT A READER's Digests ANSWERS: the digests' bytes in a new row.
-/
import Derived.Test.YtlanplknendmaaaWireRead3
import Derived.Test.YtlanplknendmaaaMakeDig
import Derived.StillTailTactics
namespace Go.Proofs.Ytlanplknendmaaa
open Go.RowKit
set_option linter.unusedSimpArgs false
set_option linter.unusedVariables false

theorem splice_list (l : List UInt8) (s j k : Nat) (hl : l.length = 32 * k) (hs : s = 32 * j) (hj : j < k) :
    (l.take (32 * j) ++ List.replicate (32 * (k - j)) 0).take (j * 32) ++ (l.drop s).take 32 ++ (l.take (32 * j) ++ List.replicate (32 * (k - j)) 0).drop (j * 32 + 32) = l.take (32 * (j + 1)) ++ List.replicate (32 * (k - (j + 1))) 0 := by
  have h1 : (l.take (32 * j)).length = 32 * j := by rw [List.length_take]; omega
  have e1 : (l.take (32 * j) ++ List.replicate (32 * (k - j)) 0).take (j * 32) = l.take (32 * j) := by
    rw [List.take_append_of_le_length (by omega), List.take_of_length_le (by omega)]
  have e2 : (l.take (32 * j) ++ List.replicate (32 * (k - j)) (0 : UInt8)).drop (j * 32 + 32) = List.replicate (32 * (k - (j + 1))) 0 := by
    rw [List.drop_append, h1, List.drop_of_length_le (by omega), List.drop_replicate, List.nil_append]
    congr 1; omega
  rw [e1, e2, hs, show 32 * (j + 1) = 32 * j + 32 by omega, List.take_add]
end Go.Proofs.Ytlanplknendmaaa
