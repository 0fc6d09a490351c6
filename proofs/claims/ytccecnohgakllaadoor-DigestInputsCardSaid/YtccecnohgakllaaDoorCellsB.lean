/-
  BYTES AS CELLS OF MEMORY. Plain definitions and lemmas; a new row of noughts.
-/
import Derived.Test.YtccecnohgakllaaDoorProg
import Derived.Test.YtccecnohgakllaaDoorStrP
import Derived.Test.YtccecnohgakllaaDoorKit
import Derived.Laws.MakeOwn
import Derived.Lib.UnsafeStr
namespace Go.Proofs.YtccecnohgakllaaDoor
open Go.RowKit
set_option linter.unusedSimpArgs false

theorem mixed : Tryd.prog.follows .mixedOrders = true := by kernel_rfl
/-- Bytes as cells. -/
def bc (l : List UInt8) : Array Value := (Lib.byteCells l).toArray
@[simp] theorem bc_size (l : List UInt8) : (bc l).size = l.length := by simp [bc, Lib.byteCells]
theorem bc_at (l : List UInt8) (j : Nat) (h : j < l.length) : (bc l)[j]? = some (.int .u8 ((l.getD j 0).toNat : Int)) := by
  simp [bc, Lib.byteCells, h]
theorem bc_set (l m : List UInt8) (z x : UInt8) (i : Nat) (hi : i = l.length) : (bc (l ++ z :: m)).setIfInBounds i (.int .u8 (x.toNat : Int)) = bc (l ++ [x] ++ m) := by
  subst hi
  simp only [bc, Lib.byteCells, List.map_append, List.map_cons, List.setIfInBounds_toArray, List.append_assoc, List.cons_append, List.nil_append]
  congr 1
  rw [List.set_append_right _ _ (by simp)]
  simp
theorem bc_oneCell (l : List UInt8) : (bc l).all (·.oneCell') = true := by
  simp [bc, Lib.byteCells, Value.oneCell']
theorem made_bytes (n : Nat) : madeCells #[Value.int .u8 0] n = bc (List.replicate n 0) := by
  apply Array.ext
  · simp [size_madeCells]
  · intro i h1 h2
    simp [madeCells, bc, Lib.byteCells]
    rw [Nat.mod_one]; rfl

theorem byte_mod (m s : Nat) : (m : Int) / 2 ^ s % 256 = ((UInt8.ofNat (m / 2 ^ s)).toNat : Int) := by
  have e : (m : Int) / 2 ^ s = ((m / 2 ^ s : Nat) : Int) := by rw [Int.natCast_ediv, Int.natCast_pow]; rfl
  rw [e, UInt8.toNat_ofNat']
  generalize m / 2 ^ s = q
  show (q : Int) % 256 = ((q % 256 : Nat) : Int)
  omega
theorem take_snoc' {α : Type} (l : List α) (k : Nat) (d : α) (h : k < l.length) : l.take (k + 1) = l.take k ++ [l.getD k d] := by
  rw [List.take_succ_eq_append_getElem h]; simp [h]

theorem make_bytes (n : Nat) (h : n ≤ 140737488355328) (w : World) : (Instr.makeSlice 66 (.int .i64 (n : Int)) (.int .i64 (n : Int))).run Tryd.prog w = .ok (.slice (some ⟨w.heap.size, 0, none⟩) n n) (w.alloc (.cells (bc (List.replicate n 0)) 5)) := by
  obtain ⟨i, hi⟩ : ∃ i, Tryd.prog.info? 5 = some i := by
    cases hq : Tryd.prog.info? 5 with
    | none => exact absurd hq (by rw [show Tryd.prog.info? 5 = some ((Tryd.prog.info? 5).getD default) by kernel_rfl]; simp)
    | some i => exact ⟨i, rfl⟩
  have e : (Tryd.prog.info? 5).map (fun i => (i.zero, i.size, i.bytes)) = some (some (.int .u8 0), 1, 1) := by kernel_rfl
  rw [hi] at e
  simp only [Option.map_some, Option.some.injEq, Prod.mk.injEq] at e
  obtain ⟨e1, e2, e3⟩ := e
  have := run_make (P := Tryd.prog) w 66 5 i (.int .u8 0) Tryd.underlying66 hi e1 .i64 .i64 n n (by omega) (by omega) (by rw [e3]; omega) (by omega)
  rw [this, e2]
  simp only [Int.toNat_natCast, Nat.mul_one]
  rw [show (Value.int IntKind.u8 0).cells = #[Value.int .u8 0] from rfl, made_bytes]

end Go.Proofs.YtccecnohgakllaaDoor
