/-
  TREES THAT ARE KEPT, AS ROWS OF MEMORY: a count, and the bytes of the branches behind it.
-/
import Derived.Test.YtcmfahibdkflaaaDoorMerkG
namespace Go.Proofs.YtcmfahibdkflaaaDoor
open Go Go.RowKit
set_option linter.unusedSimpArgs false
set_option linter.unusedVariables false

def tr (n : Nat) (L : List UInt8) : Array Value := (Value.int .u32 (n : Int) :: Lib.byteCells L).toArray
theorem tr_size (n : Nat) (L : List UInt8) : (tr n L).size = 1 + L.length := by simp [tr, Lib.byteCells_length]; omega
theorem treeInfo (n : Nat) (L : List UInt8) (h : L.length = 1024) : (Tryd.prog.info? 27).map (·.size) = some (tr n L).size := by rw [tr_size, h]; kernel_rfl
theorem tr_one (n : Nat) (L : List UInt8) : (tr n L).all (·.oneCell') = true := by
  simp [tr, Lib.byteCells, Value.oneCell']
theorem zeroTree : Tryd.zeroCells27 = tr 0 (List.replicate 1024 0) := by kernel_rfl
theorem tr_cell {w : World} {g n : Nat} {L : List UInt8} {t : TypeId} (h : w.heap[g]? = some (.cells (tr n L) t (0, 0))) : w.cell? ⟨g, 0, none⟩ = some (.int .u32 (n : Int)) ∧ w.frozen? ⟨g, 0, none⟩ = false := by
  refine ⟨?_, frozen_of_row _ _ _ _ _ h⟩
  rw [cell_of_row _ _ _ _ _ _ h]; rfl
theorem tr_set (n m : Nat) (L : List UInt8) : (tr n L).setIfInBounds 0 (.int .u32 (m : Int)) = tr m L := by simp [tr]
/-- The digest of a level. -/
def chk (L : List UInt8) (k : Nat) : List UInt8 := (L.drop (k * 32)).take 32
theorem chk_length (L : List UInt8) (h : L.length = 1024) (k : Nat) (hk : k < 32) : (chk L k).length = 32 := by unfold chk; simp; omega
theorem tr_range {w : World} {g n : Nat} {L : List UInt8} {t : TypeId} (h : w.heap[g]? = some (.cells (tr n L) t (0, 0))) (k : Nat) : w.rangeAt g (1 + k * 32) (Lib.byteCells (chk L k)) := fun j v hv => by
  rw [cell_of_row _ _ _ _ _ _ h]
  unfold tr
  have hj : j < (chk L k).length := by
    have := (List.getElem?_eq_some_iff.1 hv).1
    rwa [Lib.byteCells_length] at this
  have e : Lib.byteCells (chk L k) = ((Lib.byteCells L).drop (k * 32)).take 32 := by unfold chk Lib.byteCells; simp [List.map_take, List.map_drop]
  rw [e, List.getElem?_take, List.getElem?_drop] at hv
  have hj32 : j < 32 := by unfold chk at hj; simp at hj; omega
  rw [if_pos hj32] at hv
  rw [show 1 + k * 32 + j = (k * 32 + j) + 1 by omega]
  simpa using hv
theorem tr_put (n : Nat) (L D : List UInt8) (o : Nat) : ((tr n L).toList.take (1 + o) ++ (bc D).toList ++ (tr n L).toList.drop (1 + o + (bc D).toList.length)).toArray = tr n (putAt L o D) := by
  unfold tr putAt bc Lib.byteCells
  rw [show 1 + o = o + 1 by omega]
  simp [List.map_take, List.map_drop, show o + 1 + D.length = (o + D.length) + 1 by omega]
theorem wpList_store_tr {P : Program} {ops : Array Oper} {rest : List Oper} {op : Oper} {a : Act} {w : World} {Q : Exit → Act → World → Prop} (hgd : op.guard = none) (ty : TypeId) (x y : Operand) (ho : op.op = .store ty x y)
    (g o n : Nat) (L D : List UInt8) (t : TypeId) (hx : a.eval x = .pointer (some ⟨g, 1 + o, none⟩)) (hy : a.eval y = .agg (bc D)) (hg : w.heap[g]? = some (.cells (tr n L) t (0, 0))) (hle : o + D.length ≤ L.length)
    (hi : (P.info? ty).map (·.size) = some (bc D).size)
    (h : ∀ w', w'.heap[g]? = some (.cells (tr n (putAt L o D)) t (0, 0)) → (∀ k, k ≠ g → w'.heap[k]? = w.heap[k]?) → w'.heap.size = w.heap.size → (∀ B, B ≤ g → Below B w w') → wpList P ops Q rest (a.put op.dst undef) w') :
    wpList P ops Q (op :: rest) a w := by
  have th : w.there g (1 + o) (bc D).size := by
    intro j hj
    rw [bc_size] at hj
    refine ⟨?_, frozen_of_row _ _ _ _ _ hg⟩
    rw [cell_of_row _ _ _ _ _ _ hg]
    have : 1 + o + j < (tr n L).size := by rw [tr_size]; omega
    simp [this]
  refine wpList_store_mid hgd ty x y ho g (1 + o) (bc D) hx hy th hi (bc_oneCell D) ?_
  obtain ⟨r1, r2, r3, r4⟩ := setCells_heap g t (bc D).toList (1 + o) (tr n L) w hg (by rw [tr_size]; simp [bc_size]; omega)
  rw [tr_put] at r1
  exact h _ r1 r2 r3 r4
theorem low_zero (m : Nat) : ∀ k, (∀ j, j < k → m / 2 ^ j % 2 = 0) → m % 2 ^ k = 0
  | 0, _ => by simp [Nat.mod_one]
  | k + 1, h => by
    have ih := low_zero m k (fun j hj => h j (by omega))
    have h1 := h k (by omega)
    have e := Nat.div_add_mod m (2 ^ k)
    rw [ih, Nat.add_zero] at e
    obtain ⟨q, hq⟩ : ∃ q, m / 2 ^ k = 2 * q := ⟨m / 2 ^ k / 2, by omega⟩
    rw [hq] at e
    rw [← e, ← Nat.mul_assoc, ← Nat.pow_succ]
    exact Nat.mul_mod_right _ _
end Go.Proofs.YtcmfahibdkflaaaDoor
