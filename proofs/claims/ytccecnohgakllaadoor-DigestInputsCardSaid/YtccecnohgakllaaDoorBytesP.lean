/-
  BYTES AS CELLS OF MEMORY; numbers of eight bytes, the highest first. Plain definitions and lemmas.
-/
import Derived.Test.YtccecnohgakllaaDoorShaSumP
import Derived.Test.YtccecnohgakllaaDoorCellsB
namespace Go.Proofs.YtccecnohgakllaaDoor
open Go.RowKit
set_option linter.unusedSimpArgs false

/-- A number's eight bytes, the highest first. -/
def be64 (x : BitVec 64) : List UInt8 := (List.range 8).map fun i => UInt8.ofNat (x.toNat / 2 ^ (56 - 8 * i))
theorem be64_length (x : BitVec 64) : (be64 x).length = 8 := by simp [be64]
theorem be64_at (x : BitVec 64) (i : Nat) (h : i < 8) : (be64 x).getD i 0 = UInt8.ofNat (x.toNat / 2 ^ (56 - 8 * i)) := by
  simp [be64, h]
/-- How many noughts stand behind the byte 80. -/
def noughts (rest : Nat) : Nat := (119 - rest % 64) % 64
def mul8 (x : BitVec 64) : BitVec 64 := 8 * x
theorem m8_wrap (x : BitVec 64) : IntKind.u64.wrap (8 * (x.toNat : Int)) = ((mul8 x).toNat : Int) := by
  rw [IntKind.wrap_u64, mul8, BitVec.toNat_mul]
  show _ = ((8 * x.toNat % 18446744073709551616 : Nat) : Int)
  omega
/-- What makes a rest whole blocks, and tells the count. -/
def padBytes (rest : Nat) (count : BitVec 64) : List UInt8 := 128 :: (List.replicate (noughts rest) 0 ++ be64 (mul8 count))
theorem padBytes_length (rest : Nat) (count : BitVec 64) : (padBytes rest count).length = 9 + noughts rest := by simp [padBytes, be64_length]; omega

end Go.Proofs.YtccecnohgakllaaDoor
