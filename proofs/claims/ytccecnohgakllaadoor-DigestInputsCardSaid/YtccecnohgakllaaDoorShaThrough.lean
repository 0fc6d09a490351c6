/-
  WHAT sha.through RETURNS.
-/
import Derived.Test.YtccecnohgakllaaDoorShaBlock
import Derived.Test.YtccecnohgakllaaDoorShaSumP
import Derived.Lib.Strings
namespace Go.Proofs.YtccecnohgakllaaDoor
open Go.RowKit
set_option linter.unusedSimpArgs false
set_option linter.unusedVariables false

set_option maxHeartbeats 400000 in
set_option maxRecDepth 100000 in
theorem through_calls (st : S8) (l : List UInt8) (hl : l.length ≤ maxLen) (w : World) (tabs : Tabs w) :
    Calls Tryd.prog 38 #[.agg st.cells, .string (str l)] w fun e w' => e = .returned (.tuple #[.agg (pThrough st l).1.cells, .string (str (pThrough st l).2)]) ∧ Below w.heap.size w w' := by
  obtain ⟨a, b, c, d, e, f, g, h⟩ := st
  unfold maxLen at hl
  generalize hT : pThrough ⟨a, b, c, d, e, f, g, h⟩ l = T
  simp only [S8.cells, S8.list, wc, List.map]
  have HT := hide hT
  clear hT
  go_enter Tryd.func38, Tryd.ntmps38
  go_wp2
  go_loopw [1] (fun t wr => ∃ (m : List UInt8) (s : S8), t = .string (str m) ∧ m.length ≤ l.length ∧ Hid (pThrough s m = T) ∧ Below w.heap.size w wr ∧ w.heap.size + 1 + 1 ≤ wr.heap.size ∧ wr.heap[w.heap.size]? = some (.cells s.cells 59 (0, 0)) ∧ wr.heap[w.heap.size + 1]? = some (.cells (wc (List.replicate 8 0)) 59 (0, 0))) (fun t _ => match t with | .string s => s.size | _ => 0)
  case atStart => exact ⟨l, ⟨a, b, c, d, e, f, g, h⟩, rfl, Nat.le_refl _, HT, bel2 _ _ _, by simp, (al2 _ _ _).1, (al2 _ _ _).2⟩
  case round =>
    obtain ⟨m, s, rfl, hm, hS, hb, hB, q0, q1⟩ := hrel
    by_cases hlt : 64 ≤ m.length
    · have hge : decide ((64 : Int) ≤ ((m.length : Nat) : Int)) = true := by simp; omega
      obtain ⟨s0, s1, s2, s3, s4, s5, s6, s7⟩ := s
      have c0 : wr.cell? ⟨w.heap.size, 0, none⟩ = some (.int .u32 (s0.toNat : Int)) := cell_of_row _ _ _ _ _ _ q0
      have c1 : wr.cell? ⟨w.heap.size, 1, none⟩ = some (.int .u32 (s1.toNat : Int)) := cell_of_row _ _ _ _ _ _ q0
      have c2 : wr.cell? ⟨w.heap.size, 2, none⟩ = some (.int .u32 (s2.toNat : Int)) := cell_of_row _ _ _ _ _ _ q0
      have c3 : wr.cell? ⟨w.heap.size, 3, none⟩ = some (.int .u32 (s3.toNat : Int)) := cell_of_row _ _ _ _ _ _ q0
      have c4 : wr.cell? ⟨w.heap.size, 4, none⟩ = some (.int .u32 (s4.toNat : Int)) := cell_of_row _ _ _ _ _ _ q0
      have c5 : wr.cell? ⟨w.heap.size, 5, none⟩ = some (.int .u32 (s5.toNat : Int)) := cell_of_row _ _ _ _ _ _ q0
      have c6 : wr.cell? ⟨w.heap.size, 6, none⟩ = some (.int .u32 (s6.toNat : Int)) := cell_of_row _ _ _ _ _ _ q0
      have c7 : wr.cell? ⟨w.heap.size, 7, none⟩ = some (.int .u32 (s7.toNat : Int)) := cell_of_row _ _ _ _ _ _ q0
      have b64 : (64 : Int) ≤ (m.length : Int) := by omega
      have es := take_str m 64
      have ed := drop_str m 64 _ rfl
      go_wp2
      refine wp_region_still_tail 3 mixed (by kernel_rfl) ?_
      simp only [List.take_succ_cons, List.take_zero, List.drop_succ_cons, List.drop_zero]
      iterate 3 still_step
      refine wpStill_nil ?_
      have hsz : (str (m.take 64)).size = 64 := by simp; omega
      have tb : Tabs wr.drew := tabs.below hb.drew (Nat.le_refl _)
      have q0d : wr.drew.heap[w.heap.size]? = some (.cells (S8.mk s0 s1 s2 s3 s4 s5 s6 s7).cells 59 (0, 0)) := q0
      show wpList _ _ _ _ _ wr.drew
      go_wp2_with fail
      refine (block_calls ⟨s0, s1, s2, s3, s4, s5, s6, s7⟩ _ hsz _ tb).mono ?_
      rintro e w1 ⟨rfl, hb1⟩
      have q0' : w1.heap[w.heap.size]? = some (.cells (S8.mk s0 s1 s2 s3 s4 s5 s6 s7).cells 59 (0, 0)) := Below.at hb1 (by show w.heap.size < wr.heap.size; omega) q0
      have q1' : w1.heap[w.heap.size + 1]? = some (.cells (wc (List.replicate 8 0)) 59 (0, 0)) := Below.at hb1 (by show w.heap.size + 1 < wr.heap.size; omega) q1
      generalize hpb : pBlock ⟨s0, s1, s2, s3, s4, s5, s6, s7⟩ (str (m.take 64)).data.toList = pb
      have hib : (Tryd.prog.info? 59).map (·.size) = some pb.cells.size := by show _ = some 8; kernel_rfl
      have ho1 : pb.cells.all (·.oneCell') = true := wc_oneCell _
      have Hpb := hide hpb
      clear hpb
      have z1 := hb1.size
      go_wp2_with (refine wpList_store_row rfl 59 (.tmp 2) (.tmp 12) rfl w.heap.size _ rfl rfl 59 _ q0' hib rfl ho1 ?_)
      go_roundw
      case rel =>
        refine ⟨m.drop 64, pb, rfl, by simp; omega, ?_, below_setRow ((hb.drew).trans (hb1.mono (by show w.heap.size ≤ wr.heap.size; omega))) (Nat.le_refl _) _, ?_, setRow_heap _ _ _ _ _ _ q0', ?_⟩
        · have h1 := unhide hS
          rw [pThrough_step _ _ hlt] at h1
          have h2 := unhide Hpb
          rw [str_toList] at h2
          rw [h2] at h1
          exact hide h1
        · rw [setRow_size]; have : wr.drew.heap.size = wr.heap.size := rfl; omega
        · rw [setRow_other _ _ _ _ (by omega)]; exact q1'
      case measure => simp; omega
    · have hge : decide ((64 : Int) ≤ ((m.length : Nat) : Int)) = false := by simp; omega
      have hi : (Tryd.prog.info? 59).map (·.size) = some s.cells.size := by show _ = some 8; kernel_rfl
      have ho1 : s.cells.all (·.oneCell') = true := wc_oneCell _
      rw [pThrough_end _ _ (by omega)] at hS
      go_wp2_with (first
        | (refine wpList_load_row rfl 59 (.tmp 2) rfl w.heap.size rfl 59 _ (0, 0) _ q0 Tryd.underlying59 rfl hi ?_)
        | (refine wpList_store_row rfl 59 (.tmp 4) (.tmp 15) rfl (w.heap.size + 1) _ rfl rfl 59 _ q1 hi rfl ho1 ?_))
      exact bodyPost_ret (results_row_tmp rfl _ _ (w.heap.size + 1) _ _ _ _ rfl (setRow_heap _ _ _ _ _ _ q1) Tryd.underlying59 rfl hi) rfl ⟨by rw [← unhide hS]; rfl, below_setRow hb (by simp) _⟩

/-- The same, the words written out. -/
theorem through_lit (a b c d e f g h : BitVec 32) (l : List UInt8) (hl : l.length ≤ maxLen) (w : World) (tabs : Tabs w) :
    Calls Tryd.prog 38 #[.agg #[.int .u32 (a.toNat : Int), .int .u32 (b.toNat : Int), .int .u32 (c.toNat : Int), .int .u32 (d.toNat : Int), .int .u32 (e.toNat : Int), .int .u32 (f.toNat : Int), .int .u32 (g.toNat : Int), .int .u32 (h.toNat : Int)], .string (str l)] w fun en w' =>
      ∃ (r0 r1 r2 r3 r4 r5 r6 r7 : BitVec 32) (m : List UInt8), en = .returned (.tuple #[.agg #[.int .u32 (r0.toNat : Int), .int .u32 (r1.toNat : Int), .int .u32 (r2.toNat : Int), .int .u32 (r3.toNat : Int), .int .u32 (r4.toNat : Int), .int .u32 (r5.toNat : Int), .int .u32 (r6.toNat : Int), .int .u32 (r7.toNat : Int)], .string (str m)]) ∧ Hid (pThrough ⟨a, b, c, d, e, f, g, h⟩ l = (⟨r0, r1, r2, r3, r4, r5, r6, r7⟩, m)) ∧ Below w.heap.size w w' := by
  refine (through_calls ⟨a, b, c, d, e, f, g, h⟩ l hl w tabs).mono ?_
  rintro en w' ⟨rfl, hb⟩
  generalize hT : pThrough ⟨a, b, c, d, e, f, g, h⟩ l = T
  obtain ⟨⟨r0, r1, r2, r3, r4, r5, r6, r7⟩, m⟩ := T
  exact ⟨r0, r1, r2, r3, r4, r5, r6, r7, m, rfl, rfl, hb⟩
theorem pThrough_rest_le (s : S8) (l : List UInt8) : (pThrough s l).2.length < 64 ∧ (pThrough s l).2.length ≤ l.length := by
  generalize hn : l.length = n
  induction n using Nat.strongRecOn generalizing s l with
  | _ n ih =>
    by_cases h : 64 ≤ l.length
    · rw [pThrough_step s l h]
      have := ih (l.drop 64).length (by simp; omega) (pBlock s (l.take 64)) (l.drop 64) rfl
      simp at this; omega
    · rw [pThrough_end s l (by omega)]; simp; omega
end Go.Proofs.YtccecnohgakllaaDoor
