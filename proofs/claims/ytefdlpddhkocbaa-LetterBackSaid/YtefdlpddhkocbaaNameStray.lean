/-
  WHAT name's isStray AND Runes RETURN; a text as the list of what a range over it hands out.
-/
import Derived.Shelf.Strings.Prefix
import Derived.Test.YtefdlpddhkocbaaNameBits
import Derived.Test.YtefdlpddhkocbaaStrP
import Derived.Lib.OthersKept
import Derived.Laws.RangeAny
namespace Go.Proofs
open Go.Shelf
namespace Ytefdlpddhkocbaa
open Go.RowKit
set_option linter.unusedSimpArgs false
set_option linter.unusedVariables false

/-- Is it a stray, what a range hands out there? -/
def pStray (l : List UInt8) (k r : Nat) : Bool := (r == 65533) && !(Lib.hasPrefix (l.drop k) [239, 191, 189])

/-- What a range hands out from a place on: places and runes. -/
def itemsFrom (s : ByteArray) : Nat → Nat → List (Nat × Nat)
  | 0, _ => []
  | f + 1, pos => if pos < s.size then (pos, (Utf8.decode s pos).1) :: itemsFrom s f (pos + (Utf8.decode s pos).2) else []
def items (l : List UInt8) : List (Nat × Nat) := itemsFrom (str l) l.length 0
theorem width_pos (s : ByteArray) (pos : Nat) (h : pos < s.size) : 1 ≤ (Utf8.decode s pos).2 := by
  by_cases ha : (s[pos]'h).toNat < 128
  · rw [decode_ascii s pos h ha]; exact Nat.le_refl _
  · exact (decode_high s pos h (by omega)).2
theorem itemsFrom_end (s : ByteArray) (fuel pos : Nat) (h : ¬ pos < s.size) : itemsFrom s fuel pos = [] := by
  cases fuel with
  | zero => rfl
  | succ f => simp [itemsFrom, h]
def pRunes (l : List UInt8) : Nat := ((items l).filter fun x => !pStray l x.1 x.2).length
def pStrays (l : List UInt8) : Nat := ((items l).filter fun x => pStray l x.1 x.2).length

end Ytefdlpddhkocbaa
end Go.Proofs
