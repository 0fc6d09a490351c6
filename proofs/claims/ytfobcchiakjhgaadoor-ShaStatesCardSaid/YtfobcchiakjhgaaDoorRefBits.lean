/-
  WHAT THE REFERENCE'S turn, constants AND First RETURN.
-/
import Derived.Test.YtfobcchiakjhgaaDoorShaBlock
import Derived.Great.BuildSlice
namespace Go.Proofs.YtfobcchiakjhgaaDoor
open Go.RowKit
set_option linter.unusedSimpArgs false
set_option linter.unusedVariables false

set_option maxHeartbeats 400000 in
theorem rturn_calls (x : BitVec 32) (n : Int) (h0 : 0 < n) (h : n < 32) (w : World) :
    Calls Tryd.prog 50 #[.int .u32 x.toNat, .int .u64 n] w fun e w' => e = .returned (.int .u32 (rotr x n.toNat).toNat) ∧ w' = w := by
  obtain ⟨m, rfl⟩ := Int.eq_ofNat_of_zero_le (Int.le_of_lt h0)
  have ht : (32 : Int) - (m : Int) = ((32 - m : Nat) : Int) := by omega
  have hw := wu64 ((32 - m : Nat) : Int) (by omega) (by omega)
  go_enter Tryd.func50, Tryd.ntmps50
  go_wp2
  go_ret
  refine ⟨?_, rfl⟩
  show Ending.returned (.int .u32 (bits BinOp.or IntKind.u32 (↑x.toNat / 2 ^ m) (↑x.toNat * 2 ^ (32 - m) % 4294967296))) = _
  rw [b_shl, b_shr, b_or, BitVec.or_comm]
  simp only [rotr, rotl, Int.toNat_natCast]
  rw [show 32 - (32 - m) = m by omega]

def rkInts : List Int := kWords.map fun x => (x.toNat : Int)
theorem rkInts_cells : (rkInts.map (Value.int .u32)).toArray = wc kWords := by simp [rkInts, wc, List.map_map, Function.comp_def]
set_option maxHeartbeats 1000000 in
set_option maxRecDepth 100000 in
theorem constants_calls (w : World) :
    Calls Tryd.prog 49 #[] w fun e w' => e = .returned (.agg (wc kWords)) ∧ Below w.heap.size w w' := by
  have hi : (Tryd.prog.info? 61).map (·.size) = some (wc kWords).size := by rw [wc_size]; kernel_rfl
  have hb : Below w.heap.size w (w.alloc (.cells (wc (List.replicate 64 0)) 61)) := (Below.refl _ _).alloc (Nat.le_refl _) _
  have hq : (w.alloc (.cells (wc (List.replicate 64 0)) 61)).heap[w.heap.size]? = some (.cells (wc (List.replicate 64 0)) 61 (0, 0)) := al1 _ _
  go_enter Tryd.func49, Tryd.ntmps49
  go_wp2_with (first
    | (refine wpList_buildFlatArr rfl 61 22 64 _ rfl .u32 rkInts Tryd.underlying61 u8w (by kernel_rfl) (by kernel_rfl) ?_; rw [rkInts_cells])
    | (refine wpList_store_row rfl 61 (.tmp 0) (.tmp 1) rfl w.heap.size _ rfl rfl 61 _ hq hi (by rw [wc_size, wc_size]; rfl) (wc_oneCell _) ?_))
  exact bodyPost_ret (results_cell_row rfl _ _ w.heap.size _ _ _ _ rfl (setRow_heap _ _ _ _ _ _ hq) Tryd.underlying61 rfl hi) rfl ⟨rfl, below_setRow hb (Nat.le_refl _) _⟩

set_option maxHeartbeats 400000 in
set_option maxRecDepth 100000 in
theorem first_calls (w : World) :
    Calls Tryd.prog 26 #[] w fun e w' => e = .returned (.agg (wc hWords)) ∧ Below w.heap.size w w' := by
  go_enter Tryd.func26, Tryd.ntmps26
  go_wp2
  exact bodyPost_ret (results_cell_row rfl _ _ w.heap.size _ _ _ _ rfl (al1 _ _) Tryd.underlying23 rfl (by kernel_rfl)) rfl ⟨rfl, (Below.refl _ _).alloc (Nat.le_refl _) _⟩
end Go.Proofs.YtfobcchiakjhgaaDoor
