/-
  WHAT THE DOCUMENT'S OWN DECODER OF LAYER 2 RETURNS: within, One.
-/
import Derived.Test.YtlanplknendmaaaToks3
import Derived.Test.YtlanplknendmaaaStrIdx
import Derived.Lib.DecodeN
namespace Go.Proofs.Ytlanplknendmaaa
open Go.RowKit
set_option linter.unusedSimpArgs false
set_option linter.unusedVariables false

/-- Is the byte at a place from low to high? -/
def wi (l : List UInt8) (p lo hi : Nat) : Bool := decide (p < l.length) && (decide (lo ≤ (l.getD p 0).toNat) && decide ((l.getD p 0).toNat ≤ hi))
theorem within_calls (l : List UInt8) (hl : l.length ≤ 4611686018427387904) (p lo hi : Nat) (w : World) :
    Calls Try.prog 65 #[.string (str l), .int .i64 (p : Int), .int .u8 (lo : Int), .int .u8 (hi : Int)] w fun e w' => e = .returned (.bool (wi l p lo hi)) ∧ w' = w := by
  unfold wi
  by_cases hp : p < l.length
  · have hix := str_index l p hp
    have d0 : decide (p < l.length) = true := by simpa using hp
    generalize (l.getD p 0).toNat = c at *
    have b1 : (p : Int) < (l.length : Int) := by omega
    cases d1 : decide (lo ≤ c) <;> cases d2 : decide (c ≤ hi)
    all_goals
      go_enter Try.func65, Try.ntmps65
      go_wp2
      go_ret
      exact ⟨by simp [d0], rfl⟩
  · have d0 : decide (p < l.length) = false := by simpa using hp
    go_enter Try.func65, Try.ntmps65
    go_wp2
    go_ret
    exact ⟨by simp [d0], rfl⟩
/-- What it counts as: a rune's number; a stray's byte and 2000000. -/
def tokNum (t : Tok) : Nat := match t.1 with
  | some r => r
  | none => 2000000 + (t.2.getD 0 0).toNat
theorem tokNum_stray (m : List UInt8) (h : Lib.decodeL m = (65533, 1)) : tokNum (headTok m) = 2000000 + (m.getD 0 0).toNat := by
  unfold tokNum headTok
  rw [h]
  cases m <;> simp
theorem tokNum_rune (m : List UInt8) (r w : Nat) (h : Lib.decodeL m = (r, w)) (hw : w ≠ 1 ∨ r ≠ 65533) : tokNum (headTok m) = r := by
  unfold tokNum headTok
  rw [h]
  rw [if_neg (by simp only; omega)]
end Go.Proofs.Ytlanplknendmaaa
