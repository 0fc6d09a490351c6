/-
  WHAT sha.padding RETURNS.
-/
import Derived.Test.YtccecnohgakllaaDoorShaAdd
import Derived.Test.YtccecnohgakllaaDoorBytesP
namespace Go.Proofs.YtccecnohgakllaaDoor
open Go.RowKit
set_option linter.unusedSimpArgs false
set_option linter.unusedVariables false

set_option maxHeartbeats 400000 in
set_option maxRecDepth 100000 in
theorem padding_calls (rest : Nat) (hr : rest ≤ 140737488355328) (count : BitVec 64) (w : World) :
    Calls Tryd.prog 40 #[.int .i64 (rest : Int), .int .u64 (count.toNat : Int)] w fun e w' => e = .returned (.string (str (padBytes rest count))) ∧ Below w.heap.size w w' := by
  generalize hn : noughts rest = n
  have hn64 : n < 64 := by rw [← hn]; exact Nat.mod_lt _ (by decide)
  have e1 : ((119 : Int) - (rest : Int) % 64) % 64 = (n : Int) := by rw [← hn, noughts]; omega
  have mk := make_bytes (1 + n + 8) (by omega)
  rw [show ((1 + n + 8 : Nat) : Int) = 1 + (n : Int) + 8 by omega] at mk
  have m8 := m8_wrap
  have Hn := hide hn
  clear hn
  go_enter Tryd.func40, Tryd.ntmps40
  go_wp2
  generalize hx : mul8 count = x
  have Hx := hide hx
  clear hx
  go_loopw [21] (fun i wr => ∃ k : Nat, k ≤ 8 ∧ i = .int .i64 k ∧ Below w.heap.size w wr ∧ wr.heap[w.heap.size]? = some (.cells (bc (128 :: (List.replicate n 0 ++ (be64 x).take k) ++ List.replicate (8 - k) 0)) 5 (0, 0))) (fun i _ => 8 - (intOf i).toNat)
  case atStart =>
    refine ⟨0, by omega, rfl, (Below.refl _ _).alloc (Nat.le_refl _) _, ?_⟩
    rw [al1, show 1 + n + 8 = (n + 8) + 1 by omega, List.replicate_succ]
    have := bc_set [] (List.replicate (n + 8) 0) 0 128 0 rfl
    simp only [List.nil_append] at this
    simp only [List.take_zero, List.append_nil, Nat.sub_zero, List.cons_append, List.replicate_append_replicate]
    exact congrArg (fun c => some (Obj.cells c 5 (0, 0))) this
  case round =>
    obtain ⟨k, hk, rfl, hb, q⟩ := hrel
    by_cases hlt : k < 8
    · have hl : (128 :: (List.replicate n 0 ++ (be64 x).take k) : List UInt8).length = 1 + n + k := by simp [be64_length]; omega
      have hlen : (128 :: (List.replicate n 0 ++ (be64 x).take k) ++ List.replicate (8 - k) 0 : List UInt8).length = 1 + n + 8 := by rw [List.length_append, hl, List.length_replicate]; omega
      have c : wr.cell? ⟨w.heap.size, 1 + n + k, none⟩ = some (.int .u8 (((128 :: (List.replicate n 0 ++ (be64 x).take k) ++ List.replicate (8 - k) 0 : List UInt8).getD (1 + n + k) 0).toNat : Int)) := by
        rw [cell_of_row _ _ _ _ _ _ q]; exact bc_at _ _ (by omega)
      have f : wr.frozen? ⟨w.heap.size, 1 + n + k, none⟩ = false := frozen_of_row _ _ _ _ _ q
      have b1 : (0 : Int) ≤ 1 + n + k ∧ (1 : Int) + n + k < 1 + n + 8 := by omega
      have Hl := hide hl
      obtain ⟨s, hs, es⟩ : ∃ s : Nat, Hid (56 - 8 * k = s) ∧ (56 : Int) - 8 * (k : Int) = (s : Int) := ⟨_, rfl, by omega⟩
      have hs64 : s ≤ 56 := by have := unhide hs; omega
      generalize hv : (128 :: (List.replicate n 0 ++ (be64 x).take k) ++ List.replicate (8 - k) 0 : List UInt8).getD (1 + n + k) 0 = v at c
      clear hlen hl hv mk m8
      go_wp2
      go_roundw
      case rel =>
        refine ⟨k + 1, by omega, by go_num, hb.setCell (by simp) _, ?_⟩
        rw [byte_mod, ← unhide hs, ← be64_at x k hlt]
        have hz : List.replicate (8 - k) (0 : UInt8) = 0 :: List.replicate (8 - (k + 1)) 0 := by rw [show 8 - k = (8 - (k + 1)) + 1 by omega]; rfl
        rw [hz] at q
        rw [heap_setCell_same _ _ _ _ _ _ q, bc_set _ _ _ _ _ (unhide Hl).symm]
        have ht : (be64 x).take (k + 1) = (be64 x).take k ++ [(be64 x).getD k 0] := by
          rw [List.take_succ_eq_append_getElem (by rw [be64_length]; omega)]
          simp [be64_length, hlt]
        rw [ht]; simp
      case measure => simp [intOf]; omega
    · have q' : wr.heap[w.heap.size]? = some (.cells (bc (padBytes rest count)) 5 (0, 0)) := by
        rw [q, show k = 8 by omega, padBytes, unhide Hn, unhide Hx, List.take_of_length_le (by rw [be64_length]; omega)]; simp
      have hl : (padBytes rest count).length = 1 + n + 8 := by rw [padBytes_length, unhide Hn]; omega
      have hcv := run_convert_bytes_back (P := Tryd.prog) wr 66 9 5 ⟨w.heap.size, 0, none⟩ (1 + n + 8) (padBytes rest count) Tryd.underlying66 Tryd.underlying5 Tryd.underlying9 (fun j hj => by
        have hadd : (⟨w.heap.size, 0, none⟩ : Addr).add j = ⟨w.heap.size, j, none⟩ := by unfold Addr.add; split <;> simp_all
        rw [hadd, cell_of_row _ _ _ _ _ _ q', bc_at _ _ hj]; simp [hj])
      rw [hl] at hcv
      generalize hp : padBytes rest count = pb at *
      have Hp := hide hp
      have hd : decide ((k : Int) < 8) = false := by simp; omega
      clear q q' hl mk m8 hp
      go_wp2
      go_ret
      exact ⟨by rw [unhide Hp]; rfl, hb⟩
end Go.Proofs.YtccecnohgakllaaDoor
