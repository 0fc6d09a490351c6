/-
  WHAT name's isStray AND Runes RETURN; a text as the list of what a range over it hands out.
-/
import Derived.Shelf.Strings.Prefix
import Derived.Test.YtlanplknendmaaaNameBits
import Derived.Test.YtlanplknendmaaaStrP
import Derived.Lib.OthersKept
import Derived.Laws.RangeAny
namespace Go.Proofs
open Go.Shelf
def Try.lays99_ren : Go.Shelf.Ren := ⟨fun | 99 => 62 | 206 => 66 | n => n, fun | 3 => 3 | 4 => 4 | 9 => 9 | n => n, fun | n => n⟩
theorem Try.lays99 : Go.Proofs.Lays.n99 Try.prog Try.lays99_ren := {
  mixed := by kernel_rfl
  f99 := Try.func62.trans (congrArg some (by kernel_rfl))
  f206 := Try.func66.trans (congrArg some (by kernel_rfl))
  t3 := Try.underlying3
  a3 := Try.isAgg3
  z3 := Try.sizeOf3
  v3 := Try.zeroValue3
  t4 := Try.underlying4
  a4 := Try.isAgg4
  z4 := Try.sizeOf4
  v4 := Try.zeroValue4
  t9 := Try.underlying9
  a9 := Try.isAgg9
  z9 := Try.sizeOf9
  v9 := Try.zeroValue9 }
namespace Ytlanplknendmaaa
open Go.RowKit
set_option linter.unusedSimpArgs false
set_option linter.unusedVariables false

theorem hasPrefix_calls (s p : ByteArray) (w : World) : Calls Try.prog 62 #[.string s, .string p] w fun e w' => e = .returned (.bool (Lib.hasPrefix s.data.toList p.data.toList)) ∧ w' = w :=
  Any.strings_HasPrefix Try.lays99 s p w
/-- Is it a stray, what a range hands out there? -/
def pStray (l : List UInt8) (k r : Nat) : Bool := (r == 65533) && !(Lib.hasPrefix (l.drop k) [239, 191, 189])

set_option maxHeartbeats 400000 in
theorem isStray_calls (l : List UInt8) (k r : Nat) (hk : k ≤ l.length) (hl : l.length ≤ 9223372036854775807) (w : World) :
    Calls Try.prog 57 #[.string (str l), .int .i64 (k : Int), .int .i32 (r : Int)] w fun e w' => e = .returned (.bool (pStray l k r)) ∧ w' = w := by
  have ed := drop_str l k _ rfl
  have b0 : (0 : Int) ≤ k ∧ (k : Int) ≤ (l.length : Int) := by omega
  by_cases h : r = 65533
  · have hd : ((r : Int) == 65533) = true := by simp; omega
    have hp : pStray l k r = !(Lib.hasPrefix (l.drop k) [239, 191, 189]) := by simp [pStray, h]
    rw [hp]
    clear hp h
    go_enter Try.func57, Try.ntmps57
    go_wp2_with (go_at_call 62; refine (hasPrefix_calls _ _ _).mono ?_; rintro e w' ⟨rfl, rfl⟩)
    go_ret
    refine ⟨?_, rfl⟩
    simp
  · have hd : ((r : Int) == 65533) = false := by simp; omega
    have hp : pStray l k r = false := by simp [pStray, h]
    rw [hp]
    clear hp h
    go_enter Try.func57, Try.ntmps57
    go_wp2
    go_ret
    exact ⟨rfl, rfl⟩

/-- What a range hands out from a place on: places and runes. -/
def itemsFrom (s : ByteArray) : Nat → Nat → List (Nat × Nat)
  | 0, _ => []
  | f + 1, pos => if pos < s.size then (pos, (Utf8.decode s pos).1) :: itemsFrom s f (pos + (Utf8.decode s pos).2) else []
def items (l : List UInt8) : List (Nat × Nat) := itemsFrom (str l) l.length 0
theorem width_pos (s : ByteArray) (pos : Nat) (h : pos < s.size) : 1 ≤ (Utf8.decode s pos).2 := by
  by_cases ha : (s[pos]'h).toNat < 128
  · rw [decode_ascii s pos h ha]; exact Nat.le_refl _
  · exact (decode_high s pos h (by omega)).2
theorem itemsFrom_end (s : ByteArray) (fuel pos : Nat) (h : ¬ pos < s.size) : itemsFrom s fuel pos = [] := by
  cases fuel with
  | zero => rfl
  | succ f => simp [itemsFrom, h]
def pRunes (l : List UInt8) : Nat := ((items l).filter fun x => !pStray l x.1 x.2).length
def pStrays (l : List UInt8) : Nat := ((items l).filter fun x => pStray l x.1 x.2).length

end Ytlanplknendmaaa
end Go.Proofs
