/-
  WHAT THE DOCUMENT'S OWN ANSWERS OF LAYER 3 RETURN: Big, Text, Bytes.
-/
import Derived.Test.YtlanplknendmaaaWireText
import Derived.Laws.IdiomStrings
namespace Go.Proofs.Ytlanplknendmaaa
open Go.RowKit
set_option linter.unusedSimpArgs false
set_option linter.unusedVariables false

theorem byte256 (q : Nat) : (q : Int) % 256 = ((UInt8.ofNat q).toNat : Int) := by
  rw [UInt8.toNat_ofNat']
  show (q : Int) % 256 = ((q % 256 : Nat) : Int)
  omega
set_option maxHeartbeats 400000 in
set_option maxRecDepth 100000 in
theorem rbig_calls (n k : Nat) (hn : n < 18446744073709551616) (hk : k ≤ 8) (hk1 : 1 ≤ k) (w : World) :
    Calls Try.prog 25 #[.int .u64 (n : Int), .int .i64 (k : Int)] w fun e w' => e = .returned (.string (str (pBig n k))) ∧ Below w.heap.size w w' := by
  have hlen := pBig_length n k
  have hat := pBig_at n k
  generalize hP : pBig n k = P at *
  have HP := hide hP
  have Hlen := hide hlen
  have Hat := hide hat
  clear hP hlen hat
  go_enter Try.func25, Try.ntmps25
  go_wp2
  go_loopw [0, 6] (fun a i wr => ∃ j m : Nat, j ≤ k ∧ Hid (m = n / 2 ^ (8 * (k - j))) ∧ a = .int .u64 (m : Int) ∧ i = .int .i64 ((j : Int) - 1) ∧ Below w.heap.size w wr ∧ wr.heap[w.heap.size]? = some (.cells (bc (List.replicate j 0 ++ P.drop j ++ List.replicate (8 - k) 0)) 74 (0, 0))) (fun _ i _ => (intOf i + 1).toNat)
  case atStart =>
    refine ⟨k, n, Nat.le_refl _, ?_, rfl, rfl, (Below.refl _ _).alloc (Nat.le_refl _) _, ?_⟩
    · show n = _; simp
    · rw [al1, List.drop_of_length_le (by rw [unhide Hlen]; omega), List.append_nil, List.replicate_append_replicate, show k + (8 - k) = 8 by omega]; rfl
  case round =>
    obtain ⟨j, m, hj, hm, rfl, rfl, hb, q⟩ := hrel
    cases j with
    | succ j =>
      rw [show ((j + 1 : Nat) : Int) - 1 = (j : Int) by omega]
      have hd : decide ((0 : Int) ≤ (j : Int)) = true := by simp
      have hsp : List.replicate (j + 1) (0 : UInt8) ++ P.drop (j + 1) ++ List.replicate (8 - k) 0 = List.replicate j 0 ++ 0 :: (P.drop (j + 1) ++ List.replicate (8 - k) 0) := by
        rw [List.replicate_succ']; simp
      rw [hsp] at q
      have hl : (List.replicate j 0 ++ 0 :: (P.drop (j + 1) ++ List.replicate (8 - k) 0) : List UInt8).length = 8 := by simp [unhide Hlen]; omega
      have c : wr.cell? ⟨w.heap.size, j, none⟩ = some (.int .u8 (((List.replicate j 0 ++ 0 :: (P.drop (j + 1) ++ List.replicate (8 - k) 0) : List UInt8).getD j 0).toNat : Int)) := by
        rw [cell_of_row _ _ _ _ _ _ q]; exact bc_at _ _ (by omega)
      have f : wr.frozen? ⟨w.heap.size, j, none⟩ = false := frozen_of_row _ _ _ _ _ q
      have b1 : (j : Int) < 8 := by omega
      generalize hv : (List.replicate j 0 ++ 0 :: (P.drop (j + 1) ++ List.replicate (8 - k) 0) : List UInt8).getD j 0 = v at c
      obtain ⟨m2, hm2, em2⟩ : ∃ m2 : Nat, Hid (m / 256 = m2) ∧ (m : Int) / 256 = (m2 : Int) := ⟨_, rfl, by omega⟩
      have hmn : m ≤ n := by rw [unhide hm]; exact Nat.div_le_self _ _
      have wu := wu64 (m2 : Int) (by omega) (by have := unhide hm2; omega)
      have Q := hide q
      clear hl hv q hsp hmn
      go_wp2
      go_roundw
      case rel =>
        refine ⟨j, m2, by omega, ?_, rfl, by go_num, hb.setCell (by simp) _, ?_⟩
        · show m2 = _
          rw [← unhide hm2, unhide hm, Nat.div_div_eq_div_mul, show (256 : Nat) = 2 ^ 8 from rfl, ← Nat.pow_add, show 8 * (k - (j + 1)) + 8 = 8 * (k - j) by omega]
        · rw [byte256, heap_setCell_same _ _ _ _ _ _ (unhide Q), bc_set _ _ _ _ _ (by simp)]
          have e2 := unhide Hat j (by omega)
          rw [show k - 1 - j = k - (j + 1) by omega, ← unhide hm] at e2
          rw [drop_cons' P j 0 (by rw [unhide Hlen]; omega), e2]; simp
      case measure => simp [intOf]
    | zero =>
      have hd : decide ((0 : Int) ≤ (((0 : Nat) : Int) - 1)) = false := by decide
      have q' : wr.heap[w.heap.size]? = some (.cells (bc (P ++ List.replicate (8 - k) 0)) 74 (0, 0)) := by
        rw [q]; simp
      have hcv := run_convert_bytes_back (P := Try.prog) wr 75 9 5 ⟨w.heap.size, 0, none⟩ 8 P Try.underlying75 Try.underlying5 Try.underlying9 (fun j hj => by
        have hadd : (⟨w.heap.size, 0, none⟩ : Addr).add j = ⟨w.heap.size, j, none⟩ := by unfold Addr.add; split <;> simp_all
        rw [hadd, cell_of_row _ _ _ _ _ _ q', bc_at _ _ (by simp; omega)]; simp [hj, List.getElem?_append_left])
      rw [unhide Hlen] at hcv
      have b1 : (k : Int) ≤ 8 := by omega
      clear q q'
      go_wp2
      go_ret
      exact ⟨by rfl, hb⟩
theorem rtext3_calls (l : List UInt8) (hl : l.length < 4294967296) (w : World) :
    Calls Try.prog 26 #[.string (str l)] w fun e w' => e = .returned (.string (str (pText4 l))) ∧ Below w.heap.size w w' := by
  have hc := rbig_calls l.length 4 (by omega) (by decide) (by decide) w
  unfold pText4
  have hlen := pBig_length l.length 4
  generalize pBig l.length 4 = B at *
  have Hc := hide hc
  have ea := append_str B l
  have n1 : ¬ 9223372036854775807 < B.length + l.length := by omega
  clear hc hlen
  go_enter Try.func26, Try.ntmps26
  go_wp2_with fail
  refine (unhide Hc).mono ?_
  rintro e w' ⟨rfl, hb⟩
  go_wp2
  go_ret
  exact ⟨rfl, hb⟩
end Go.Proofs.Ytlanplknendmaaa
