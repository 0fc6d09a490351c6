/-
  WHAT THE REFERENCE'S After RETURNS.
-/
import Derived.Test.YtfobcchiakjhgaaDoorRefBlock
import Derived.Test.YtfobcchiakjhgaaDoorShaThrough
namespace Go.Proofs.YtfobcchiakjhgaaDoor
open Go.RowKit
set_option linter.unusedSimpArgs false
set_option linter.unusedVariables false

theorem Bytes.take {w : World} {g off : Nat} {l : List UInt8} (h : Bytes w g off l) (n : Nat) : Bytes w g off (l.take n) := fun j hj => by
  have hj' : j < n ∧ j < l.length := by simp at hj; omega
  rw [h j hj'.2]
  simp [hj'.1]
theorem Bytes.drop {w : World} {g off : Nat} {l : List UInt8} (h : Bytes w g off l) (n : Nat) : Bytes w g (off + n) (l.drop n) := fun j hj => by
  have hj' : n + j < l.length := by simp at hj; omega
  rw [show off + n + j = off + (n + j) by omega, h _ hj']
  simp
set_option maxHeartbeats 400000 in
set_option maxRecDepth 100000 in
theorem after_calls (st : S8) (l : List UInt8) (gb off cap : Nat) (hl : l.length ≤ cap) (hc : cap ≤ maxLen) (w : World) (hg : gb < w.heap.size) (hs : Bytes w gb off l) :
    Calls Tryd.prog 22 #[.agg st.cells, .slice (some ⟨gb, off, none⟩) l.length cap] w fun e w' => ∃ off' cap', e = .returned (.tuple #[.agg (pThrough st l).1.cells, .slice (some ⟨gb, off', none⟩) (pThrough st l).2.length cap']) ∧ (pThrough st l).2.length ≤ cap' ∧ cap' ≤ cap ∧ Bytes w' gb off' (pThrough st l).2 ∧ Below w.heap.size w w' := by
  obtain ⟨a, b, c, d, e, f, g, h⟩ := st
  unfold maxLen at hc
  generalize hT : pThrough ⟨a, b, c, d, e, f, g, h⟩ l = T
  simp only [S8.cells, S8.list, wc, List.map]
  have HT := hide hT
  clear hT
  go_enter Tryd.func22, Tryd.ntmps22
  go_wp2
  go_loopw [1] (fun t wr => ∃ (m : List UInt8) (s : S8) (off' cap' : Nat), t = .slice (some ⟨gb, off', none⟩) m.length cap' ∧ m.length ≤ cap' ∧ cap' ≤ cap ∧ m.length ≤ l.length ∧ Bytes w gb off' m ∧ Hid (pThrough s m = T) ∧ Below w.heap.size w wr ∧ w.heap.size + 1 + 1 ≤ wr.heap.size ∧ wr.heap[w.heap.size]? = some (.cells s.cells 23 (0, 0)) ∧ wr.heap[w.heap.size + 1]? = some (.cells (wc (List.replicate 8 0)) 23 (0, 0))) (fun t _ => match t with | .slice _ n _ => n | _ => 0)
  case atStart => exact ⟨l, ⟨a, b, c, d, e, f, g, h⟩, off, cap, rfl, hl, Nat.le_refl _, Nat.le_refl _, hs, HT, bel2 _ _ _, by simp, (al2 _ _ _).1, (al2 _ _ _).2⟩
  case round =>
    obtain ⟨m, s, off', cap', rfl, hmc, hcc, hm, hsm, hS, hb, hB, q0, q1⟩ := hrel
    by_cases hlt : 64 ≤ m.length
    · have hge : decide ((64 : Int) ≤ ((m.length : Nat) : Int)) = true := by simp; omega
      obtain ⟨s0, s1, s2, s3, s4, s5, s6, s7⟩ := s
      have c0 : wr.cell? ⟨w.heap.size, 0, none⟩ = some (.int .u32 (s0.toNat : Int)) := cell_of_row _ _ _ _ _ _ q0
      have c1 : wr.cell? ⟨w.heap.size, 1, none⟩ = some (.int .u32 (s1.toNat : Int)) := cell_of_row _ _ _ _ _ _ q0
      have c2 : wr.cell? ⟨w.heap.size, 2, none⟩ = some (.int .u32 (s2.toNat : Int)) := cell_of_row _ _ _ _ _ _ q0
      have c3 : wr.cell? ⟨w.heap.size, 3, none⟩ = some (.int .u32 (s3.toNat : Int)) := cell_of_row _ _ _ _ _ _ q0
      have c4 : wr.cell? ⟨w.heap.size, 4, none⟩ = some (.int .u32 (s4.toNat : Int)) := cell_of_row _ _ _ _ _ _ q0
      have c5 : wr.cell? ⟨w.heap.size, 5, none⟩ = some (.int .u32 (s5.toNat : Int)) := cell_of_row _ _ _ _ _ _ q0
      have c6 : wr.cell? ⟨w.heap.size, 6, none⟩ = some (.int .u32 (s6.toNat : Int)) := cell_of_row _ _ _ _ _ _ q0
      have c7 : wr.cell? ⟨w.heap.size, 7, none⟩ = some (.int .u32 (s7.toNat : Int)) := cell_of_row _ _ _ _ _ _ q0
      have b64 : (64 : Int) ≤ (m.length : Int) := by omega
      have d64 : (64 : Int) ≤ (cap' : Int) := by omega
      have d64' : 64 ≤ cap' := by omega
      go_wp2
      refine wp_region_still_tail 3 mixed (by kernel_rfl) ?_
      simp only [List.take_succ_cons, List.take_zero, List.drop_succ_cons, List.drop_zero]
      iterate 3 still_step
      refine wpStill_nil ?_
      have q0d : wr.drew.heap[w.heap.size]? = some (.cells (S8.mk s0 s1 s2 s3 s4 s5 s6 s7).cells 23 (0, 0)) := q0
      show wpList _ _ _ _ _ wr.drew
      go_wp2_with fail
      refine (rblock_calls ⟨s0, s1, s2, s3, s4, s5, s6, s7⟩ gb off' cap' (m.take 64) (by simp; omega) d64' _ (by show gb < wr.heap.size; omega) ((hsm.below hb.drew hg).take 64)).mono ?_
      rintro en w1 ⟨rfl, hb1⟩
      have q0' : w1.heap[w.heap.size]? = some (.cells (S8.mk s0 s1 s2 s3 s4 s5 s6 s7).cells 23 (0, 0)) := Below.at hb1 (by show w.heap.size < wr.heap.size; omega) q0
      have q1' : w1.heap[w.heap.size + 1]? = some (.cells (wc (List.replicate 8 0)) 23 (0, 0)) := Below.at hb1 (by show w.heap.size + 1 < wr.heap.size; omega) q1
      generalize hpb : pBlock ⟨s0, s1, s2, s3, s4, s5, s6, s7⟩ (m.take 64) = pb
      have hib : (Tryd.prog.info? 23).map (·.size) = some pb.cells.size := by show _ = some 8; kernel_rfl
      have ho1 : pb.cells.all (·.oneCell') = true := wc_oneCell _
      have Hpb := hide hpb
      clear hpb
      have z1 := hb1.size
      go_wp2_with (refine wpList_store_row rfl 23 (.tmp 2) (.tmp 12) rfl w.heap.size _ rfl rfl 23 _ q0' hib rfl ho1 ?_)
      go_roundw
      case rel =>
        refine ⟨m.drop 64, pb, if cap' = 64 then off' else off' + 64, cap' - 64, by by_cases hz : cap' = 64 <;> simp [hz], by simp; omega, by omega, by simp; omega, ?bytes, ?_, below_setRow ((hb.drew).trans (hb1.mono (by show w.heap.size ≤ wr.heap.size; omega))) (Nat.le_refl _) _, ?_, setRow_heap _ _ _ _ _ _ q0', ?_⟩
        case bytes =>
          by_cases hz : cap' = 64
          · rw [if_pos hz, List.drop_eq_nil_of_le (by omega)]; intro j hj; cases hj
          · rw [if_neg hz]; exact hsm.drop 64
        · have h1 := unhide hS
          rw [pThrough_step _ _ hlt] at h1
          have h2 := unhide Hpb
          rw [h2] at h1
          exact hide h1
        · rw [setRow_size]; have : wr.drew.heap.size = wr.heap.size := rfl; omega
        · rw [setRow_other _ _ _ _ (by omega)]; exact q1'
      case measure => simp; omega
    · have hge : decide ((64 : Int) ≤ ((m.length : Nat) : Int)) = false := by simp; omega
      have hi : (Tryd.prog.info? 23).map (·.size) = some s.cells.size := by show _ = some 8; kernel_rfl
      have ho1 : s.cells.all (·.oneCell') = true := wc_oneCell _
      rw [pThrough_end _ _ (by omega)] at hS
      go_wp2_with (first
        | (refine wpList_load_row rfl 23 (.tmp 2) rfl w.heap.size rfl 23 _ (0, 0) _ q0 Tryd.underlying23 rfl hi ?_)
        | (refine wpList_store_row rfl 23 (.tmp 4) (.tmp 15) rfl (w.heap.size + 1) _ rfl rfl 23 _ q1 hi rfl ho1 ?_))
      exact bodyPost_ret (results_row_tmp rfl _ _ (w.heap.size + 1) _ _ _ _ rfl (setRow_heap _ _ _ _ _ _ q1) Tryd.underlying23 rfl hi) rfl ⟨off', cap', by rw [← unhide hS]; rfl, by rw [← unhide hS]; exact hmc, hcc, by rw [← unhide hS]; exact hsm.below (below_setRow hb (by simp) _) hg, below_setRow hb (by simp) _⟩
end Go.Proofs.YtfobcchiakjhgaaDoor
