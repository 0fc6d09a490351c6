/-
  BYTES AS CELLS OF MEMORY. Plain definitions and lemmas; a new row of noughts.
-/
import Derived.Test.YtljocohbdghpaaaProg
import Derived.Test.YtljocohbdghpaaaStrP
import Derived.Test.YtljocohbdghpaaaKit
import Derived.Laws.MakeOwn
import Derived.Lib.UnsafeStr
namespace Go.Proofs.Ytljocohbdghpaaa
open Go.RowKit
set_option linter.unusedSimpArgs false

theorem mixed : Try.prog.follows .mixedOrders = true := by kernel_rfl
/-- Bytes as cells. -/
def bc (l : List UInt8) : Array Value := (Lib.byteCells l).toArray
@[simp] theorem bc_size (l : List UInt8) : (bc l).size = l.length := by simp [bc, Lib.byteCells]
theorem bc_at (l : List UInt8) (j : Nat) (h : j < l.length) : (bc l)[j]? = some (.int .u8 ((l.getD j 0).toNat : Int)) := by
  simp [bc, Lib.byteCells, h]
theorem bc_set (l m : List UInt8) (z x : UInt8) (i : Nat) (hi : i = l.length) : (bc (l ++ z :: m)).setIfInBounds i (.int .u8 (x.toNat : Int)) = bc (l ++ [x] ++ m) := by
  subst hi
  simp only [bc, Lib.byteCells, List.map_append, List.map_cons, List.setIfInBounds_toArray, List.append_assoc, List.cons_append, List.nil_append]
  congr 1
  rw [List.set_append_right _ _ (by simp)]
  simp
theorem bc_oneCell (l : List UInt8) : (bc l).all (·.oneCell') = true := by
  simp [bc, Lib.byteCells, Value.oneCell']
theorem made_bytes (n : Nat) : madeCells #[Value.int .u8 0] n = bc (List.replicate n 0) := by
  apply Array.ext
  · simp [size_madeCells]
  · intro i h1 h2
    simp [madeCells, bc, Lib.byteCells]
    rw [Nat.mod_one]; rfl

theorem byte_mod (m s : Nat) : (m : Int) / 2 ^ s % 256 = ((UInt8.ofNat (m / 2 ^ s)).toNat : Int) := by
  have e : (m : Int) / 2 ^ s = ((m / 2 ^ s : Nat) : Int) := by rw [Int.natCast_ediv, Int.natCast_pow]; rfl
  rw [e, UInt8.toNat_ofNat']
  generalize m / 2 ^ s = q
  show (q : Int) % 256 = ((q % 256 : Nat) : Int)
  omega
theorem take_snoc' {α : Type} (l : List α) (k : Nat) (d : α) (h : k < l.length) : l.take (k + 1) = l.take k ++ [l.getD k d] := by
  rw [List.take_succ_eq_append_getElem h]; simp [h]

end Go.Proofs.Ytljocohbdghpaaa
