/-
  STATES, PADDING, SUMS AS LISTS OF BYTES. Plain definitions and lemmas.
-/
import Derived.Test.YtccecnohgakllaaDoorShaBlockP
import Derived.Test.YtccecnohgakllaaDoorStrP
namespace Go.Proofs.YtccecnohgakllaaDoor
open Go.RowKit
set_option linter.unusedSimpArgs false

/-- The words behind n whole blocks at most, and what is left. -/
def pThroughN : Nat → S8 → List UInt8 → S8 × List UInt8
  | 0, s, l => (s, l)
  | n + 1, s, l => if 64 ≤ l.length then pThroughN n (pBlock s (l.take 64)) (l.drop 64) else (s, l)
def pThrough (s : S8) (l : List UInt8) : S8 × List UInt8 := pThroughN (l.length / 64) s l
theorem pThrough_step (s : S8) (l : List UInt8) (h : 64 ≤ l.length) : pThrough s l = pThrough (pBlock s (l.take 64)) (l.drop 64) := by
  unfold pThrough
  rw [show l.length / 64 = (l.drop 64).length / 64 + 1 by simp; omega]
  simp [pThroughN, h]
theorem pThrough_end (s : S8) (l : List UInt8) (h : l.length < 64) : pThrough s l = (s, l) := by
  unfold pThrough
  rw [Nat.div_eq_of_lt h]; rfl

/-- A sum of two words of 64 bits, under a name of its own. -/
def add64 (x y : BitVec 64) : BitVec 64 := x + y
theorem a64_wrap (x y : BitVec 64) : IntKind.u64.wrap ((x.toNat : Int) + (y.toNat : Int)) = ((add64 x y).toNat : Int) := by
  rw [IntKind.wrap_u64, add64, BitVec.toNat_add]; omega
/-- A state: words, rest, count. -/
structure St where
  (s : S8) (rest : List UInt8) (count : BitVec 64)
def St.cells (t : St) : Array Value := #[.int .u32 (t.s.a.toNat : Int), .int .u32 (t.s.b.toNat : Int), .int .u32 (t.s.c.toNat : Int), .int .u32 (t.s.d.toNat : Int), .int .u32 (t.s.e.toNat : Int), .int .u32 (t.s.f.toNat : Int), .int .u32 (t.s.g.toNat : Int), .int .u32 (t.s.h.toNat : Int), .string (str t.rest), .int .u64 (t.count.toNat : Int)]
theorem St.oneCell (t : St) : t.cells.all (·.oneCell') = true := by simp [St.cells, Value.oneCell']
def pBegin : St := ⟨⟨1779033703, 3144134277, 1013904242, 2773480762, 1359893119, 2600822924, 528734635, 1541459225⟩, [], 0⟩
/-- The state behind a text. -/
def pAdd (t : St) (l : List UInt8) : St := ⟨(pThrough t.s (t.rest ++ l)).1, (pThrough t.s (t.rest ++ l)).2, add64 t.count (BitVec.ofNat 64 l.length)⟩

end Go.Proofs.YtccecnohgakllaaDoor
