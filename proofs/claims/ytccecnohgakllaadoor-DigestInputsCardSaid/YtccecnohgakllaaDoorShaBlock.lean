/-
  WHAT sha.Block RETURNS.
-/
import Derived.Test.YtccecnohgakllaaDoorShaSched
import Derived.Test.YtccecnohgakllaaDoorShaBlockP
import Derived.Test.YtccecnohgakllaaDoorKit
import Derived.StillTailTactics
namespace Go.Proofs.YtccecnohgakllaaDoor
open Go.RowKit
set_option linter.unusedSimpArgs false
set_option linter.unusedVariables false

/-- The two tables of package sha lie in memory as its text lays them. -/
structure Tabs (w : World) : Prop where
  size : 0 < w.heap.size ∧ 1 < w.heap.size
  k : ∀ j, j < 64 → w.cell? ⟨1, j, none⟩ = some (.int .u32 ((kWords.getD j 0).toNat : Int))
  h : ∀ j, j < 8 → w.cell? ⟨0, j, none⟩ = some (.int .u32 ((hWords.getD j 0).toNat : Int))
theorem Tabs.below {B : Nat} {w w' : World} (t : Tabs w) (hb : Below B w w') (hB : w.heap.size ≤ B) : Tabs w' := by
  obtain ⟨s, k, h⟩ := t
  refine ⟨⟨Nat.lt_of_lt_of_le s.1 hb.size, Nat.lt_of_lt_of_le s.2 hb.size⟩, fun j hj => ?_, fun j hj => ?_⟩
  · rw [hb.cell (by show 1 < B; omega)]; exact k j hj
  · rw [hb.cell (by show 0 < B; omega)]; exact h j hj

theorem u8w : (Tryd.prog.info? 58).map (·.size) = some 1 := by kernel_rfl
theorem keyw : Tryd.prog.plainKey 58 = true := by kernel_rfl
theorem index64 (ws : List (BitVec 32)) (h : ws.length = 64) (k : Nat) (hk : k < 64) (w : World) : (Instr.index 93 (.agg (wc ws)) (.int .i64 (k : Int))).run Tryd.prog w = .ok (.int .u32 ((ws.getD k 0).toNat : Int)) w :=
  run_index_row 93 58 64 _ k _ Tryd.underlying93 keyw u8w hk (wc_at ws k (by omega)) w
theorem index8 (ws : List (BitVec 32)) (h : ws.length = 8) (k : Nat) (hk : k < 8) (w : World) : (Instr.index 59 (.agg (wc ws)) (.int .i64 (k : Int))).run Tryd.prog w = .ok (.int .u32 ((ws.getD k 0).toNat : Int)) w :=
  run_index_row 59 58 8 _ k _ Tryd.underlying59 keyw u8w hk (wc_at ws k (by omega)) w

set_option maxHeartbeats 400000 in
set_option maxRecDepth 100000 in
theorem block_other (st : S8) (s : ByteArray) (hs : s.size ≠ 64) (hm : s.size ≤ maxLen) (w : World) :
    Calls Tryd.prog 46 #[.agg st.cells, .string s] w fun e w' => e = .returned (.agg st.cells) ∧ Below w.heap.size w w' := by
  have hne : ((s.size : Int) != 64) = true := by simp; omega
  obtain ⟨a, b, c, d, e, f, g, h⟩ := st
  simp only [S8.cells, S8.list, wc, List.map]
  go_enter Tryd.func46, Tryd.ntmps46
  go_wp2
  exact bodyPost_ret (results_cell_row rfl _ _ (w.heap.size + 1) _ _ _ _ rfl (heap_alloc2_new _ _ _) Tryd.underlying59 rfl (by kernel_rfl)) rfl ⟨rfl, ((Below.refl _ _).alloc (Nat.le_refl _) _).alloc (by simp) _⟩

set_option maxHeartbeats 400000 in
set_option maxRecDepth 100000 in
theorem block_calls (st : S8) (s : ByteArray) (hs : s.size = 64) (w : World) (tabs : Tabs w) :
    Calls Tryd.prog 46 #[.agg st.cells, .string s] w fun e w' => e = .returned (.agg (pBlock st s.data.toList).cells) ∧ Below w.heap.size w w' := by
  have hne : ((s.size : Int) != 64) = false := by simp; omega
  obtain ⟨a, b, c, d, e, f, g, h⟩ := st
  simp only [S8.cells, S8.list, wc, List.map]
  go_enter Tryd.func46, Tryd.ntmps46
  go_wp2_with (go_at_call 51; refine (schedule_calls s hs _).mono ?_; rintro e w1 ⟨rfl, hb1⟩)
  have hB : w.heap.size + 1 + 1 + 1 ≤ w1.heap.size := by have := hb1.size; simpa using this
  have q0 : w1.heap[w.heap.size]? = some (.cells (wc [a, b, c, d, e, f, g, h]) 59 (0, 0)) := Below.at hb1 (by simp; omega) (al3 _ _ _ _).1
  have q1 : w1.heap[w.heap.size + 1]? = some (.cells (wc (List.replicate 8 0)) 59 (0, 0)) := Below.at hb1 (by simp) (al3 _ _ _ _).2.1
  have q2 : w1.heap[w.heap.size + 1 + 1]? = some (.cells (pRounds (sched s.data.toList) ⟨a, b, c, d, e, f, g, h⟩ 0).cells 59 (0, 0)) := Below.at hb1 (by simp) (al3 _ _ _ _).2.2
  have hb : Below w.heap.size w w1 := (bel3 _ _ _ _).trans (hb1.mono (by simp; omega))
  clear hb1
  generalize hst : S8.mk a b c d e f g h = st at q2
  have Hst := hide hst
  clear hst
  go_loopw [19] (fun i wr => ∃ k : Nat, k ≤ 64 ∧ i = .int .i64 k ∧ Below w.heap.size w wr ∧ w.heap.size + 1 + 1 + 1 ≤ wr.heap.size ∧ wr.heap[w.heap.size]? = some (.cells (wc [a, b, c, d, e, f, g, h]) 59 (0, 0)) ∧ wr.heap[w.heap.size + 1]? = some (.cells (wc (List.replicate 8 0)) 59 (0, 0)) ∧ wr.heap[w.heap.size + 1 + 1]? = some (.cells (pRounds (sched s.data.toList) st k).cells 59 (0, 0))) (fun i _ => 64 - (intOf i).toNat)
  case atStart => exact ⟨0, by omega, rfl, hb, hB, q0, q1, q2⟩
  case round =>
    clear hb hB q0 q1 q2
    obtain ⟨k, hk, rfl, hb, hB, q0, q1, q2⟩ := hrel
    by_cases hlt : k < 64
    · have tb := tabs.below hb (Nat.le_refl _)
      have hidx := index64 (sched s.data.toList) (sched_length _) k hlt
      generalize hr : pRounds (sched s.data.toList) st k = r at q2
      have Hr := hide hr
      clear hr
      obtain ⟨r0, r1, r2, r3, r4, r5, r6, r7⟩ := r
      have c0 : wr.cell? ⟨w.heap.size + 1 + 1, 0, none⟩ = some (.int .u32 (r0.toNat : Int)) := cell_of_row _ _ _ _ _ _ q2
      have c1 : wr.cell? ⟨w.heap.size + 1 + 1, 1, none⟩ = some (.int .u32 (r1.toNat : Int)) := cell_of_row _ _ _ _ _ _ q2
      have c2 : wr.cell? ⟨w.heap.size + 1 + 1, 2, none⟩ = some (.int .u32 (r2.toNat : Int)) := cell_of_row _ _ _ _ _ _ q2
      have c4 : wr.cell? ⟨w.heap.size + 1 + 1, 4, none⟩ = some (.int .u32 (r4.toNat : Int)) := cell_of_row _ _ _ _ _ _ q2
      have c5 : wr.cell? ⟨w.heap.size + 1 + 1, 5, none⟩ = some (.int .u32 (r5.toNat : Int)) := cell_of_row _ _ _ _ _ _ q2
      have c6 : wr.cell? ⟨w.heap.size + 1 + 1, 6, none⟩ = some (.int .u32 (r6.toNat : Int)) := cell_of_row _ _ _ _ _ _ q2
      have c7 : wr.cell? ⟨w.heap.size + 1 + 1, 7, none⟩ = some (.int .u32 (r7.toNat : Int)) := cell_of_row _ _ _ _ _ _ q2
      obtain ⟨xk, ek, ck⟩ : ∃ x : BitVec 32, Hid (kWords.getD k 0 = x) ∧ wr.cell? ⟨1, k, none⟩ = some (.int .u32 (x.toNat : Int)) := ⟨_, rfl, tb.k k hlt⟩
      obtain ⟨xw, ew, cw⟩ : ∃ x : BitVec 32, Hid ((sched s.data.toList).getD k 0 = x) ∧ ∀ w, (Instr.index 93 (.agg (wc (sched s.data.toList))) (.int .i64 (k : Int))).run Tryd.prog w = .ok (.int .u32 (x.toNat : Int)) w := ⟨_, rfl, hidx⟩
      clear hidx tb
      have bk : (0:Int) ≤ k ∧ (k : Int) < 64 := by omega
      have am := a_mod
      have aw := a_wrap
      go_wp2
      go_quiet ((first | (go_at_call 52; exact Calls.quiet_of_same (bigOne_calls _ _)) | (go_at_call 53; exact Calls.quiet_of_same (choice_calls _ _ _ _))))
      go_wp2
      generalize hw2 : wr.drewN nq = w2
      have hc2 : ∀ p, w2.cell? p = wr.cell? p := fun p => by rw [← hw2]; rfl
      have Hw2 := hide hw2
      clear hw2
      go_quiet ((first | (go_at_call 54; exact Calls.quiet_of_same (bigZero_calls _ _)) | (go_at_call 55; exact Calls.quiet_of_same (majority_calls _ _ _ _))))
      go_wp2
      have q3 : (w2.drewN nq).heap[w.heap.size + 1 + 1]? = some (.cells (wc [r0, r1, r2, r3, r4, r5, r6, r7]) 59 (0, 0)) := by rw [World.heap_drewN, ← unhide Hw2]; exact q2
      have q4 : ∀ k : Nat, (w2.drewN nq).heap[k]? = wr.heap[k]? := by intro k; rw [World.heap_drewN, ← unhide Hw2]; rfl
      have q5 : Below wr.heap.size wr (w2.drewN nq) := by rw [← unhide Hw2]; exact below_drewN (below_drewN (Below.refl _ _) _) _
      generalize w2.drewN nq = w3 at *
      clear hc2 Hw2
      refine wp_region_still_tail 2 mixed (by kernel_rfl) ?_
      simp only [List.take_succ_cons, List.take_zero, List.drop_succ_cons, List.drop_zero]
      iterate 2 still_step
      refine wpStill_nil ?_
      refine wpList_copy_abs (w := w3.drew) rfl (.tmp 54) (.tmp 55) 99 99 rfl 58 Tryd.underlying99 u8w (w.heap.size + 1 + 1) 1 7 7 ⟨w.heap.size + 1 + 1, 0, none⟩ 7 8 rfl rfl _ _ q3 (wc [r0, r1, r2, r3, r4, r5, r6]).toList rfl (src_of_row _ _ _ _ _ q3 _ ⟨(wc [r7]).toList, rfl⟩) (by simp) ?one (wc [r0, r0, r1, r2, r3, r4, r5, r6]) rfl ?_
      case one => intro v hv; exact List.all_eq_true.1 (by simpa using wc_oneCell [r0, r1, r2, r3, r4, r5, r6]) v hv
      intro w4 p4 k4 s4 b4
      have d3 : w4.cell? ⟨w.heap.size + 1 + 1, 4, none⟩ = some (.int .u32 (r3.toNat : Int)) := cell_of_row _ _ _ _ _ _ p4
      have d0 : w4.cell? ⟨w.heap.size + 1 + 1, 0, none⟩ = some (.int .u32 (r0.toNat : Int)) := cell_of_row _ _ _ _ _ _ p4
      have f0 : w4.frozen? ⟨w.heap.size + 1 + 1, 0, none⟩ = false := frozen_of_row _ _ _ _ _ p4
      have f4 : w4.frozen? ⟨w.heap.size + 1 + 1, 4, none⟩ = false := frozen_of_row _ _ _ _ _ p4
      have K4 := hide k4
      have P4 := hide p4
      have Q4 := hide q4
      clear k4 p4 q4 q3 c0 c1 c2 c4 c5 c6 c7 cw ck
      go_wp2
      go_roundw
      case rel =>
        have e4 : (w3.drew).heap.size = w3.heap.size := rfl
        have z5 := q5.size
        refine ⟨k + 1, by omega, by go_num, ?_, ?_, ?_, ?_, ?_⟩
        · exact ((((hb.trans (q5.mono (by omega))).drew).trans (b4.mono (by omega))).setCell (by simp; omega) _).setCell (by simp; omega) _
        · simp only [World.size_setCell]; omega
        · rw [heap_setCell_other _ _ _ _ (by simp; omega), heap_setCell_other _ _ _ _ (by simp; omega), unhide K4 _ (by omega)]; exact (unhide Q4 _).trans q0
        · rw [heap_setCell_other _ _ _ _ (by simp), heap_setCell_other _ _ _ _ (by simp), unhide K4 _ (by omega)]; exact (unhide Q4 _).trans q1
        · rw [heap_setCell_same _ _ _ _ _ _ (heap_setCell_same _ _ _ _ _ _ (unhide P4))]
          have er : pRounds (sched s.data.toList) st (k + 1) = pRound xk xw ⟨r0, r1, r2, r3, r4, r5, r6, r7⟩ := by
            show pRound _ _ (pRounds _ _ k) = _
            rw [unhide Hr, unhide ek, unhide ew]
          rw [er]; rfl
      case measure => simp [intOf]; omega
    · have q2' : wr.heap[w.heap.size + 1 + 1]? = some (.cells (pRounds (sched s.data.toList) st 64).cells 59 (0, 0)) := by rw [q2, show k = 64 by omega]
      clear q2
      generalize hr : pRounds (sched s.data.toList) st 64 = r at q2'
      have Hr := hide hr
      clear hr
      have hir : (Tryd.prog.info? 59).map (·.size) = some r.cells.size := by show _ = some 8; kernel_rfl
      have hd : decide ((k : Int) < 64) = false := by simp; omega
      go_wp2_with (refine wpList_load_row rfl 59 (.tmp 5) rfl (w.heap.size + 1 + 1) rfl 59 _ (0, 0) _ q2' Tryd.underlying59 rfl hir ?_)
      generalize hx : [a, b, c, d, e, f, g, h] = xs at *
      have hxl : xs.length = 8 := by rw [← hx]; rfl
      have Hx := hide hx
      clear hx
      go_loopw [68] (fun i wr => ∃ j : Nat, j ≤ 8 ∧ i = .int .i64 j ∧ Below w.heap.size w wr ∧ wr.heap[w.heap.size]? = some (.cells (wc (addTo xs r.list j)) 59 (0, 0)) ∧ wr.heap[w.heap.size + 1]? = some (.cells (wc (List.replicate 8 0)) 59 (0, 0))) (fun i _ => 8 - (intOf i).toNat)
      case atStart => exact ⟨0, by omega, rfl, hb, by rw [addTo_zero]; exact q0, q1⟩
      case round =>
        clear hb hB q0 q1 q2' hir
        obtain ⟨j, hj, rfl, hb, q0, q1⟩ := hrel
        by_cases hlt : j < 8
        · have c0 : wr.cell? ⟨w.heap.size, j, none⟩ = some (.int .u32 ((xs.getD j 0).toNat : Int)) := by
            rw [cell_of_row _ _ _ _ _ _ q0, wc_at _ _ (by rw [addTo_length _ _ _ (by omega) (by rw [hxl]; rfl)]; omega), addTo_get _ _ _ (by omega) (by rw [hxl]; rfl)]
          have f0 : wr.frozen? ⟨w.heap.size, j, none⟩ = false := frozen_of_row _ _ _ _ _ q0
          have hidx : ∀ w, (Instr.index 59 (.agg r.cells) (.int .i64 (j : Int))).run Tryd.prog w = .ok (.int .u32 ((r.list.getD j 0).toNat : Int)) w := index8 r.list rfl j hlt
          generalize hy : r.list.getD j 0 = y at hidx
          generalize hx : xs.getD j 0 = x at c0
          have Hy := hide hy
          have Hxx := hide hx
          clear hx hy
          have bj : (0:Int) ≤ j ∧ (j : Int) < 8 := by omega
          have am := a_mod
          have aw := a_wrap
          go_wp2
          go_roundw
          case rel =>
            refine ⟨j + 1, by omega, by go_num, ?_, ?_, ?_⟩
            · exact hb.setCell (by simp) _
            · rw [heap_setCell_same _ _ _ _ _ _ q0, ← addTo_set _ _ _ (by omega) (by rw [hxl]; rfl), unhide Hy, unhide Hxx]
            · rw [heap_setCell_other _ _ _ _ (by simp)]; exact q1
          case measure => simp [intOf]; omega
        · have q0' : wr.heap[w.heap.size]? = some (.cells (pBlock st s.data.toList).cells 59 (0, 0)) := by
            have e1 : (pBlock st s.data.toList).list = addTo xs r.list 8 := by
              have hl : s.data.toList.length = 64 := by simpa using hs
              rw [pBlock, if_pos hl, S8.add_list, unhide Hr, addTo_all _ _ _ hxl.symm (by rw [hxl]; rfl), ← unhide Hx, ← unhide Hst]; rfl
            rw [q0, show j = 8 by omega, ← e1]; rfl
          have hib : (Tryd.prog.info? 59).map (·.size) = some (pBlock st s.data.toList).cells.size := by show _ = some 8; kernel_rfl
          have ho1 : (pBlock st s.data.toList).cells.all (·.oneCell') = true := wc_oneCell _
          generalize hpb : pBlock st s.data.toList = pb at q0' hib ho1
          have Hpb := hide hpb
          clear hpb q0
          have hd : decide ((j : Int) < 8) = false := by simp; omega
          go_wp2_with (first
            | (refine wpList_load_row rfl 59 (.tmp 2) rfl w.heap.size rfl 59 _ (0, 0) _ q0' Tryd.underlying59 rfl hib ?_)
            | (refine wpList_store_row rfl 59 (.tmp 4) (.tmp 79) rfl (w.heap.size + 1) _ rfl rfl 59 _ q1 hib rfl ho1 ?_))
          exact bodyPost_ret (results_cell_row rfl _ _ (w.heap.size + 1) _ _ _ _ rfl (setRow_heap _ _ _ _ _ _ q1) Tryd.underlying59 rfl hib) rfl ⟨by rw [← unhide Hpb, ← unhide Hst]; rfl, below_setRow hb (by simp) _⟩
end Go.Proofs.YtccecnohgakllaaDoor
