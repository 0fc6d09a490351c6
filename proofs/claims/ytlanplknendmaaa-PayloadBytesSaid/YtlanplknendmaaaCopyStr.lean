/-
  'copy(b, s)' OF A TEXT INTO A ROW OF BYTES: as much as there is room for. As one step of a region that draws its order. Over whatever program.
-/
import Derived.Test.YtlanplknendmaaaCellsB
import Derived.Laws.CopyRow
import Derived.Laws.CopyOwn
import Derived.Lib.BufferWrite
import Derived.Deep.RegionLaw
namespace Go.Proofs.Ytlanplknendmaaa
open Go Go.RowKit
set_option linter.unusedSimpArgs false
set_option linter.unusedVariables false

theorem bc_toList (l : List UInt8) : (bc l).toList = Lib.byteCells l := by simp [bc]
theorem run_copy_str {P : Program} (w : World) (dT sT ty elem : TypeId) (g o dLen dCap : Nat) (l cur : List UInt8) (t : TypeId)
    (hu : P.underlying dT = some (.slice elem)) (hs : (P.info? elem).map (·.size) = some 1) (hg : w.heap[g]? = some (.cells (bc cur) t (0, 0))) (m : Nat) (hm : m = Nat.min l.length dLen) (hfit : o + m ≤ cur.length) :
    (Builtin.copy_ #[dT, sT] ty #[.slice (some ⟨g, o, none⟩) dLen dCap, .string (str l)]).run P w = .ok (goInt m) (w.setRow g (bc (cur.take o ++ l.take m ++ cur.drop (o + m)))) := by
  have hl : (Lib.byteCells (l.take m)).length = m := by
    rw [Lib.byteCells_length, List.length_take, hm]; exact Nat.min_eq_left (Nat.min_le_left _ _)
  have hst := run_storeCells_at (P := P) g o t (Lib.byteCells (l.take m)) 0 (bc cur) w hg (by rw [hl, bc_size]; simpa using hfit) (Lib.byteCells_one _)
  rw [hl, bc_toList, Nat.add_zero] at hst
  have e : ((Lib.byteCells cur).take o ++ Lib.byteCells (l.take m) ++ (Lib.byteCells cur).drop (o + m)).toArray = bc (cur.take o ++ l.take m ++ cur.drop (o + m)) := by
    simp [bc, Lib.byteCells]
  rw [e] at hst
  have hmin : Nat.min (str l).size dLen = m := by rw [str_size, hm]
  have htk : List.take m (List.map (fun b : UInt8 => Value.int IntKind.u8 (b.toNat : Int)) (str l).data.toList) = Lib.byteCells (l.take m) := by
    rw [str_toList]; simp [Lib.byteCells]
  cases hq : P.info? elem with
  | none => simp [hq] at hs
  | some i =>
    simp [Builtin.copy_, run_underlying hu, Builtin.lenOf, Builtin.firstCells, sizeOf, typeInfo, hq]
    rw [str_size] at hmin
    have hmin' : (min l.length dLen) = m := hmin
    rw [str_toList] at htk
    simp [hmin', htk, hst, Result.andThen]
theorem step_copy_str {P : Program} {ops : Array Oper} {o : Oper} {a : Act} {w : World} {K : Act → World → Prop} {Q : Exit → Act → World → Prop} {E : Prop}
    (hgd : o.guard = none) (d x : Operand) (dT sT : TypeId) (hop : o.op = Op.call { callee := Callee.builtin Builtin.copy, args := #[d, x], argTypes := #[dT, sT] })
    (elem : TypeId) (hu : P.underlying dT = some (.slice elem)) (hs : (P.info? elem).map (·.size) = some 1)
    (g off dLen dCap : Nat) (hd : a.eval d = .slice (some ⟨g, off, none⟩) dLen dCap) (l : List UInt8) (hx : a.eval x = .string (str l)) (cur : List UInt8) (t : TypeId) (hg : w.heap[g]? = some (.cells (bc cur) t (0, 0)))
    (m : Nat) (hm : m = Nat.min l.length dLen) (hfit : off + m ≤ cur.length)
    (hK : K (a.put o.dst (goInt m)) (w.setRow g (bc (cur.take off ++ l.take m ++ cur.drop (off + m))))) :
    if Region.wanted o (yielded ops a.tmps) = true then Oper.wp P o a w K Q else E := by
  have hw : Region.wanted o (yielded ops a.tmps) = true := by simp [Region.wanted, hgd]
  rw [if_pos hw]
  have hrun := run_copy_str (P := P) w dT sT o.type elem g off dLen dCap l cur t hu hs hg m hm hfit
  unfold Oper.wp
  rw [List.append_assoc] at hK hrun
  simp [execOp, hop, resolve, invoke, builtin, hd, hx, hrun, Result.andThen]
  exact hK
theorem wpList_copy_str {P : Program} {w : World} {ops : Array Oper} {rest : List Oper} {o : Oper} {a : Act} {Q : Exit → Act → World → Prop} (hgd : o.guard = none) (d x : Operand) (dT sT : TypeId)
    (hop : o.op = Op.call { callee := Callee.builtin Builtin.copy, args := #[d, x], argTypes := #[dT, sT] })
    (elem : TypeId) (hu : P.underlying dT = some (.slice elem)) (hs : (P.info? elem).map (·.size) = some 1)
    (g off dLen dCap : Nat) (hd : a.eval d = .slice (some ⟨g, off, none⟩) dLen dCap) (l : List UInt8) (hx : a.eval x = .string (str l)) (cur : List UInt8) (t : TypeId) (hg : w.heap[g]? = some (.cells (bc cur) t (0, 0)))
    (m : Nat) (hm : m = Nat.min l.length dLen) (hfit : off + m ≤ cur.length)
    (h : wpList P ops Q rest (a.put o.dst (goInt m)) (w.setRow g (bc (cur.take off ++ l.take m ++ cur.drop (off + m))))) : wpList P ops Q (o :: rest) a w := by
  refine wpList_plain hgd fun K hK => ?_
  have hrun := run_copy_str (P := P) w dT sT o.type elem g off dLen dCap l cur t hu hs hg m hm hfit
  unfold Oper.wp
  rw [List.append_assoc] at h hrun
  simp [execOp, hop, resolve, invoke, builtin, hd, hx, hrun, Result.andThen]
  exact hK _ _ h
end Go.Proofs.Ytlanplknendmaaa
