/-
  WHAT wire's number, Byte, Word, Long, Text RETURN: a number in so many bytes, the highest first.
-/
import Derived.Test.YtccecnohgakllaaDoorCellsB
import Derived.Laws.IdiomStrings
namespace Go.Proofs.YtccecnohgakllaaDoor
open Go.RowKit
set_option linter.unusedSimpArgs false
set_option linter.unusedVariables false

/-- A number's lowest bytes, the highest of them first. -/
def pBig (n width : Nat) : List UInt8 := (List.range width).map fun i => UInt8.ofNat (n / 2 ^ (8 * (width - 1 - i)))
theorem pBig_length (n width : Nat) : (pBig n width).length = width := by simp [pBig]
theorem pBig_at (n width i : Nat) (h : i < width) : (pBig n width).getD i 0 = UInt8.ofNat (n / 2 ^ (8 * (width - 1 - i))) := by
  simp [pBig, h]
theorem drop_cons' {α : Type} (l : List α) (k : Nat) (d : α) (h : k < l.length) : l.drop k = l.getD k d :: l.drop (k + 1) := by
  rw [List.drop_eq_getElem_cons h]; simp [h]

set_option maxHeartbeats 400000 in
set_option maxRecDepth 100000 in
theorem number_calls (n width : Nat) (hw : width ≤ 8) (hw1 : 1 ≤ width) (w : World) :
    Calls Tryd.prog 42 #[.int .u64 (n : Int), .int .i64 (width : Int)] w fun e w' => e = .returned (.string (str (pBig n width))) ∧ Below w.heap.size w w' := by
  have mk := make_bytes width (by omega)
  have hlen := pBig_length n width
  have hat := pBig_at n width
  generalize hP : pBig n width = P at *
  have HP := hide hP
  have Hlen := hide hlen
  have Hat := hide hat
  clear hP hlen hat
  go_enter Tryd.func42, Tryd.ntmps42
  go_wp2
  go_loopw [11] (fun i wr => ∃ k : Nat, k ≤ width ∧ i = .int .i64 k ∧ Below w.heap.size w wr ∧ wr.heap[w.heap.size]? = some (.cells (bc (List.replicate (width - k) 0 ++ P.drop (width - k))) 5 (0, 0))) (fun i _ => width - (intOf i).toNat)
  case atStart =>
    refine ⟨0, by omega, rfl, (Below.refl _ _).alloc (Nat.le_refl _) _, ?_⟩
    rw [al1, List.drop_of_length_le (by rw [unhide Hlen]; omega)]; simp
  case round =>
    obtain ⟨k, hk, rfl, hb, q⟩ := hrel
    by_cases hlt : k < width
    · obtain ⟨j, hj, ej⟩ : ∃ j : Nat, Hid (width - 1 - k = j) ∧ (width : Int) - 1 - (k : Int) = (j : Int) := ⟨_, rfl, by omega⟩
      have hjw : j < width := by have := unhide hj; omega
      have hsp : List.replicate (width - k) (0 : UInt8) ++ P.drop (width - k) = List.replicate j 0 ++ 0 :: P.drop (j + 1) := by
        have : width - k = j + 1 := by have := unhide hj; omega
        rw [this, List.replicate_succ']; simp
      rw [hsp] at q
      have hl : (List.replicate j 0 ++ 0 :: P.drop (j + 1) : List UInt8).length = width := by simp [unhide Hlen]; omega
      have c : wr.cell? ⟨w.heap.size, j, none⟩ = some (.int .u8 (((List.replicate j 0 ++ 0 :: P.drop (j + 1) : List UInt8).getD j 0).toNat : Int)) := by
        rw [cell_of_row _ _ _ _ _ _ q]; exact bc_at _ _ (by omega)
      have f : wr.frozen? ⟨w.heap.size, j, none⟩ = false := frozen_of_row _ _ _ _ _ q
      have b1 : (0 : Int) ≤ j ∧ (j : Int) < width := by omega
      obtain ⟨s, hs, es⟩ : ∃ s : Nat, Hid (8 * k = s) ∧ (8 : Int) * (k : Int) = (s : Int) := ⟨_, rfl, by omega⟩
      have hs64 : s ≤ 56 := by have := unhide hs; omega
      have hdk : decide ((k : Int) < (width : Int)) = true := by simp; omega
      generalize hv : (List.replicate j 0 ++ 0 :: P.drop (j + 1) : List UInt8).getD j 0 = v at c
      have Q := hide q
      clear hl hv mk q hsp
      go_wp2
      go_roundw
      case rel =>
        refine ⟨k + 1, by omega, by go_num, hb.setCell (by simp) _, ?_⟩
        rw [byte_mod, ← unhide hs, heap_setCell_same _ _ _ _ _ _ (unhide Q), bc_set _ _ _ _ _ (by simp)]
        have e1 : width - (k + 1) = j := by have := unhide hj; omega
        have e2 := unhide Hat j hjw
        have e3 : width - 1 - j = k := by have := unhide hj; omega
        rw [e3] at e2
        rw [e1, drop_cons' P j 0 (by rw [unhide Hlen]; omega), e2]; simp
      case measure => simp [intOf]; omega
    · have q' : wr.heap[w.heap.size]? = some (.cells (bc P) 5 (0, 0)) := by
        rw [q, show width - k = 0 by omega]; simp
      have hcv := run_convert_bytes_back (P := Tryd.prog) wr 66 9 5 ⟨w.heap.size, 0, none⟩ width P Tryd.underlying66 Tryd.underlying5 Tryd.underlying9 (fun j hj => by
        have hadd : (⟨w.heap.size, 0, none⟩ : Addr).add j = ⟨w.heap.size, j, none⟩ := by unfold Addr.add; split <;> simp_all
        rw [hadd, cell_of_row _ _ _ _ _ _ q', bc_at _ _ hj]; simp [hj])
      rw [unhide Hlen] at hcv
      have hd : decide ((k : Int) < (width : Int)) = false := by simp; omega
      clear q q' mk
      go_wp2
      go_ret
      exact ⟨by rfl, hb⟩
end Go.Proofs.YtccecnohgakllaaDoor
