/-
  WHAT THE SMALL FUNCTIONS OF sha AND OF ITS REFERENCE RETURN: one contract each.
-/
import Derived.Test.YtccecnohgakllaaDoorProg
import Derived.Test.YtccecnohgakllaaDoorWordPure
import Derived.WalkKit
import Derived.WalkSpells
import Derived.WalkLawsBesides
import Derived.BigQuiet
import Derived.Deep.QuietTactic
namespace Go.Proofs.YtccecnohgakllaaDoor
open Go.RowKit

/-- A word turned to the left. -/
def rotl (x : BitVec 32) (s : Nat) : BitVec 32 := x <<< s ||| x >>> (32 - s)
/-- A word turned to the right. -/
def rotr (x : BitVec 32) (n : Nat) : BitVec 32 := rotl x (32 - n)
def pChoice (x y z : BitVec 32) : BitVec 32 := (x &&& y) ^^^ (~~~x &&& z)
def pMajority (x y z : BitVec 32) : BitVec 32 := ((x &&& y) ^^^ (x &&& z)) ^^^ (y &&& z)
def pBigZero (x : BitVec 32) : BitVec 32 := (rotr x 2 ^^^ rotr x 13) ^^^ rotr x 22
def pBigOne (x : BitVec 32) : BitVec 32 := (rotr x 6 ^^^ rotr x 11) ^^^ rotr x 25
def pSmallZero (x : BitVec 32) : BitVec 32 := (rotr x 7 ^^^ rotr x 18) ^^^ (x >>> 3)
def pSmallOne (x : BitVec 32) : BitVec 32 := (rotr x 17 ^^^ rotr x 19) ^^^ (x >>> 10)

set_option maxHeartbeats 400000 in
theorem rotateLeft_calls (x : BitVec 32) (k : Int) (s : Nat) (hs : bits BinOp.and IntKind.u64 (IntKind.u64.wrap k) 31 = (s:Int)) (h: s < 32) (w : World) :
    Calls Tryd.prog 60 #[.int .u32 x.toNat, .int .i64 k] w fun e w' => e = .returned (.int .u32 (rotl x s).toNat) ∧ w' = w := by
  go_enter Tryd.func60, Tryd.ntmps60
  go_wp2
  go_ret
  refine ⟨?_, rfl⟩
  show Ending.returned (.int .u32 (bits BinOp.or IntKind.u32 (↑x.toNat * 2 ^ s % 4294967296) (↑x.toNat / 2 ^ (32 - s)))) = _
  rw [b_shl, b_shr, b_or]; rfl

set_option maxHeartbeats 400000 in
theorem turn_calls (x : BitVec 32) (n : Int) (h0 : 0 < n) (h : n < 32) (w : World) :
    Calls Tryd.prog 59 #[.int .u32 x.toNat, .int .i64 n] w fun e w' => e = .returned (.int .u32 (rotr x n.toNat).toNat) ∧ w' = w := by
  obtain ⟨m, rfl⟩ := Int.eq_ofNat_of_zero_le (Int.le_of_lt h0)
  have ht := hide (b_turns m (by omega) (by omega))
  go_enter Tryd.func59, Tryd.ntmps59
  go_wp2_with (go_at_call 60; refine (rotateLeft_calls x _ (32 - m) (unhide ht) (by omega) _).mono ?_; rintro e w' ⟨rfl, rfl⟩)
  go_ret
  exact ⟨rfl, rfl⟩

set_option maxHeartbeats 400000 in
theorem choice_calls (x y z : BitVec 32) (w : World) :
    Calls Tryd.prog 53 #[.int .u32 x.toNat, .int .u32 y.toNat, .int .u32 z.toNat] w fun e w' => e = .returned (.int .u32 (pChoice x y z).toNat) ∧ w' = w := by
  go_enter Tryd.func53, Tryd.ntmps53
  go_wp2
  go_ret
  refine ⟨?_, rfl⟩
  · show Ending.returned (.int .u32 (bits BinOp.xor IntKind.u32 (bits BinOp.and IntKind.u32 ↑x.toNat ↑y.toNat) (bits BinOp.and IntKind.u32 (bits BinOp.xor IntKind.u32 IntKind.u32.max ↑x.toNat) ↑z.toNat))) = _
    rw [b_not, b_and, b_and, b_xor]; rfl

set_option maxHeartbeats 400000 in
theorem majority_calls (x y z : BitVec 32) (w : World) :
    Calls Tryd.prog 55 #[.int .u32 x.toNat, .int .u32 y.toNat, .int .u32 z.toNat] w fun e w' => e = .returned (.int .u32 (pMajority x y z).toNat) ∧ w' = w := by
  go_enter Tryd.func55, Tryd.ntmps55
  go_wp2
  go_ret
  refine ⟨?_, rfl⟩
  show Ending.returned (.int .u32 (bits BinOp.xor IntKind.u32 (bits BinOp.xor IntKind.u32 (bits BinOp.and IntKind.u32 ↑x.toNat ↑y.toNat) (bits BinOp.and IntKind.u32 ↑x.toNat ↑z.toNat)) (bits BinOp.and IntKind.u32 ↑y.toNat ↑z.toNat))) = _
  rw [b_and, b_and, b_and, b_xor, b_xor]; rfl

set_option maxHeartbeats 400000 in
theorem bigZero_calls (x : BitVec 32) (w : World) :
    Calls Tryd.prog 54 #[.int .u32 x.toNat] w fun e w' => e = .returned (.int .u32 (pBigZero x).toNat) ∧ w' = w := by
  go_enter Tryd.func54, Tryd.ntmps54
  go_wp2_with (go_at_call 59; refine (turn_calls _ _ (by omega) (by omega) _).mono ?_; rintro e w' ⟨rfl, rfl⟩)
  go_ret
  refine ⟨?_, rfl⟩
  show Ending.returned (.int .u32 (bits BinOp.xor IntKind.u32 (bits BinOp.xor IntKind.u32 ↑(rotr x 2).toNat ↑(rotr x 13).toNat) ↑(rotr x 22).toNat)) = _
  rw [b_xor, b_xor]; rfl

set_option maxHeartbeats 400000 in
theorem bigOne_calls (x : BitVec 32) (w : World) :
    Calls Tryd.prog 52 #[.int .u32 x.toNat] w fun e w' => e = .returned (.int .u32 (pBigOne x).toNat) ∧ w' = w := by
  go_enter Tryd.func52, Tryd.ntmps52
  go_wp2_with (go_at_call 59; refine (turn_calls _ _ (by omega) (by omega) _).mono ?_; rintro e w' ⟨rfl, rfl⟩)
  go_ret
  refine ⟨?_, rfl⟩
  show Ending.returned (.int .u32 (bits BinOp.xor IntKind.u32 (bits BinOp.xor IntKind.u32 ↑(rotr x 6).toNat ↑(rotr x 11).toNat) ↑(rotr x 25).toNat)) = _
  rw [b_xor, b_xor]; rfl

set_option maxHeartbeats 400000 in
theorem smallZero_calls (x : BitVec 32) (w : World) :
    Calls Tryd.prog 58 #[.int .u32 x.toNat] w fun e w' => e = .returned (.int .u32 (pSmallZero x).toNat) ∧ w' = w := by
  go_enter Tryd.func58, Tryd.ntmps58
  go_wp2_with (go_at_call 59; refine (turn_calls _ _ (by omega) (by omega) _).mono ?_; rintro e w' ⟨rfl, rfl⟩)
  go_ret
  refine ⟨?_, rfl⟩
  show Ending.returned (.int .u32 (bits BinOp.xor IntKind.u32 (bits BinOp.xor IntKind.u32 ↑(rotr x 7).toNat ↑(rotr x 18).toNat) ((x.toNat : Int) / 8))) = _
  rw [show (x.toNat : Int) / (8 : Int) = ((x >>> 3).toNat : Int) from b_shr x 3]
  rw [b_xor, b_xor]; rfl

set_option maxHeartbeats 400000 in
theorem smallOne_calls (x : BitVec 32) (w : World) :
    Calls Tryd.prog 57 #[.int .u32 x.toNat] w fun e w' => e = .returned (.int .u32 (pSmallOne x).toNat) ∧ w' = w := by
  go_enter Tryd.func57, Tryd.ntmps57
  go_wp2_with (go_at_call 59; refine (turn_calls _ _ (by omega) (by omega) _).mono ?_; rintro e w' ⟨rfl, rfl⟩)
  go_ret
  refine ⟨?_, rfl⟩
  show Ending.returned (.int .u32 (bits BinOp.xor IntKind.u32 (bits BinOp.xor IntKind.u32 ↑(rotr x 17).toNat ↑(rotr x 19).toNat) ((x.toNat : Int) / 1024))) = _
  rw [show (x.toNat : Int) / (1024 : Int) = ((x >>> 10).toNat : Int) from b_shr x 10]
  rw [b_xor, b_xor]; rfl

end Go.Proofs.YtccecnohgakllaaDoor
