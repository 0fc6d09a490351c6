/-
  WHAT sha.wordAt AND sha.schedule RETURN.
-/
import Derived.Test.YtccecnohgakllaaDoorShaSchedP
import Derived.Test.YtccecnohgakllaaDoorCellsB
import Derived.StillTailTactics
import Derived.Laws.CopyOwn
namespace Go.Proofs.YtccecnohgakllaaDoor
open Go.RowKit
set_option linter.unusedSimpArgs false
set_option linter.unusedVariables false

set_option maxHeartbeats 400000 in
theorem wordAt_calls (s : ByteArray) (k : Int) (h0 : 0 ≤ k) (h : k + 3 < s.size) (hs : s.size ≤ maxLen) (w : World) :
    Calls Tryd.prog 56 #[.string s, .int .i64 k] w fun e w' => e = .returned (.int .u32 (wAt s.data.toList k.toNat).toNat) ∧ ∃ n, w' = w.drewN n := by
  obtain ⟨k, rfl⟩ := Int.eq_ofNat_of_zero_le h0
  unfold maxLen at hs
  have h0 : (k : Int) < s.size := by omega
  have h1 : (0:Int) ≤ k + 1 ∧ (k : Int) + 1 < s.size := by omega
  have h2 : (0:Int) ≤ k + 2 ∧ (k : Int) + 2 < s.size := by omega
  have h3 : (0:Int) ≤ k + 3 ∧ (k : Int) + 3 < s.size := by omega
  have w1 := wi64 (k + 1) (by omega) (by omega)
  have w2 := wi64 (k + 2) (by omega) (by omega)
  have w3 := wi64 (k + 3) (by omega) (by omega)
  go_enter Tryd.func56, Tryd.ntmps56
  go_wp2
  go_quiet (fail)
  go_wp2
  go_ret
  refine ⟨?_, _, rfl⟩
  have e := word_or s[k] s[k + 1] s[k + 2] s[k + 3]
  refine Eq.trans (congrArg (fun x => Ending.returned (.int .u32 x)) e) ?_
  rw [byte_at s k (by omega), byte_at s (k + 1) (by omega), byte_at s (k + 2) (by omega), byte_at s (k + 3) (by omega)]
  rfl

theorem row_set (w : World) (g : Nat) (ws zs : List (BitVec 32)) (z x : BitVec 32) (i : Nat) (t : TypeId) (n : Nat) (hg : w.heap[g]? = some (.cells (wc (ws ++ z :: zs)) t (0, 0))) (hi : i = ws.length) :
    ((w.drewN n).setCell ⟨g, i, none⟩ (.int .u32 (x.toNat : Int))).heap[g]? = some (.cells (wc (ws ++ [x] ++ zs)) t (0, 0)) := by
  rw [heap_setCell_same (w.drewN n) g i _ t _ hg, wc_set ws zs z x i hi]
theorem row_other (w : World) (a : Addr) (k n : Nat) (v : Value) (o : Option Obj) (hg : w.heap[k]? = o) (h : k ≠ a.block) : ((w.drewN n).setCell a v).heap[k]? = o := by
  rw [heap_setCell_other (w.drewN n) a k v h]; exact hg

set_option maxHeartbeats 1000000 in
set_option maxRecDepth 100000 in
theorem schedule_calls (s : ByteArray) (hs : s.size = 64) (w : World) :
    Calls Tryd.prog 51 #[.string s] w fun e w' => e = .returned (.agg (wc (sched s.data.toList))) ∧ Below w.heap.size w w' := by
  go_enter Tryd.func51, Tryd.ntmps51
  go_wp2
  go_loopw [4, 6] (fun _ i wr => ∃ k : Nat, k ≤ 16 ∧ i = .int .i64 k ∧ Below w.heap.size w wr ∧ wr.heap.size = w.heap.size + 2 ∧ wr.heap[w.heap.size + 1]? = some (.cells (wc (sched16 s.data.toList k ++ List.replicate (64 - k) 0)) 93 (0, 0)) ∧ wr.heap[w.heap.size]? = some (.cells (wc (List.replicate 64 0)) 93 (0, 0))) (fun _ i _ => 16 - (intOf i).toNat)
  case atStart =>
    exact ⟨0, by omega, rfl, ((Below.refl _ _).alloc (Nat.le_refl _) _).alloc (by simp) _, by simp, heap_alloc2_new _ _ _, heap_alloc2_old _ _ _⟩
  case round =>
    obtain ⟨k, hk, rfl, hb, hz, hc, hr⟩ := hrel
    by_cases hlt : k < 16
    · have hlen : (sched16 s.data.toList k ++ List.replicate (64 - k) (0 : BitVec 32)).length = 64 := by simp [sched16_length]; omega
      have hcell : wr.cell? ⟨w.heap.size + 1, k, none⟩ = some (.int .u32 (((sched16 s.data.toList k ++ List.replicate (64 - k) (0 : BitVec 32)).getD k 0).toNat : Int)) := by
        rw [cell_of_row _ _ _ _ _ _ hc]; exact wc_at _ _ (by rw [hlen]; omega)
      have hfz : wr.frozen? ⟨w.heap.size + 1, k, none⟩ = false := frozen_of_row _ _ _ _ _ hc
      go_wp2_with (go_at_call 56; refine (wordAt_calls _ _ (by omega) (by omega) (by unfold maxLen; omega) _).mono ?_; rintro e w1 ⟨rfl, n1, rfl⟩)
      go_roundw
      case rel =>
        refine ⟨k + 1, by omega, by go_num, ?_, ?_, ?_, ?_⟩
        · exact (below_drewN hb _).setCell (by simp) _
        · simpa using hz
        · have e : List.replicate (64 - k) (0 : BitVec 32) = 0 :: List.replicate (64 - (k + 1)) 0 := by rw [show 64 - k = (64 - (k + 1)) + 1 by omega]; rfl
          rw [e] at hc
          rw [sched16_succ]
          exact row_set _ _ _ _ _ _ _ _ _ hc (sched16_length _ _).symm
        · exact row_other _ _ _ _ _ _ hr (by simp)
      case measure => simp [intOf]; omega
    · have hc' : wr.heap[w.heap.size + 1]? = some (.cells (wc (schedN s.data.toList 0 ++ List.replicate (48 - 0) 0)) 93 (0, 0)) := by
        rw [hc, show k = 16 by omega]; rfl
      have hd : decide ((k : Int) < 16) = false := by simp; omega
      clear hc
      go_wp2
      go_loopw [5] (fun i wr => ∃ k : Nat, k ≤ 48 ∧ i = .int .i64 (16 + k : Nat) ∧ Below w.heap.size w wr ∧ wr.heap.size = w.heap.size + 2 ∧ wr.heap[w.heap.size + 1]? = some (.cells (wc (schedN s.data.toList k ++ List.replicate (48 - k) 0)) 93 (0, 0)) ∧ wr.heap[w.heap.size]? = some (.cells (wc (List.replicate 64 0)) 93 (0, 0))) (fun i _ => 64 - (intOf i).toNat)
      case atStart => exact ⟨0, by omega, rfl, hb, hz, hc', hr⟩
      case round =>
        clear hb hz hr hc'
        obtain ⟨k, hk, rfl, hb, hz, hc, hr⟩ := hrel
        by_cases hlt : k < 48
        · generalize hn : 16 + k = n
          have hlen : (schedN s.data.toList k ++ List.replicate (48 - k) (0 : BitVec 32)).length = 64 := by simp [schedN_length]; omega
          have hcell : ∀ j, j < 64 → wr.cell? ⟨w.heap.size + 1, j, none⟩ = some (.int .u32 (((schedN s.data.toList k ++ List.replicate (48 - k) (0 : BitVec 32)).getD j 0).toNat : Int)) := fun j hj => by
            rw [cell_of_row _ _ _ _ _ _ hc]; exact wc_at _ _ (by rw [hlen]; omega)
          have hget : ∀ j, j < n → ∃ x : BitVec 32, Hid ((schedN s.data.toList k).getD j 0 = x) ∧ wr.cell? ⟨w.heap.size + 1, j, none⟩ = some (.int .u32 (x.toNat : Int)) := fun j hj =>
            ⟨_, rfl, by rw [hcell j (by omega), List.getD_eq_getElem?_getD, List.getElem?_append_left (by rw [schedN_length]; omega), ← List.getD_eq_getElem?_getD]⟩
          have hfz : wr.frozen? ⟨w.heap.size + 1, n, none⟩ = false := frozen_of_row _ _ _ _ _ hc
          have c0 := hcell n (by omega)
          obtain ⟨x2, e2, c2⟩ := hget (n - 2) (by omega)
          obtain ⟨x7, e7, c7⟩ := hget (n - 7) (by omega)
          obtain ⟨x15, e15, c15⟩ := hget (n - 15) (by omega)
          obtain ⟨x16, e16, c16⟩ := hget (n - 16) (by omega)
          have am := a_mod
          have aw := a_wrap
          have b0 : (0:Int) ≤ n ∧ (n : Int) < 64 := by omega
          have b2 : (2:Int) ≤ n ∧ (n : Int) - 2 < 64 := by omega
          have t2 : ((n : Int) - 2).toNat = n - 2 := by omega
          have b7 : (7:Int) ≤ n ∧ (n : Int) - 7 < 64 := by omega
          have t7 : ((n : Int) - 7).toNat = n - 7 := by omega
          have b15 : (15:Int) ≤ n ∧ (n : Int) - 15 < 64 := by omega
          have t15 : ((n : Int) - 15).toNat = n - 15 := by omega
          have b16 : (16:Int) ≤ n ∧ (n : Int) - 16 < 64 := by omega
          have t16 : ((n : Int) - 16).toNat = n - 16 := by omega
          have w2 := wi64 (n - 2) (by omega) (by omega)
          have w7 := wi64 (n - 7) (by omega) (by omega)
          have w15 := wi64 (n - 15) (by omega) (by omega)
          have w16 := wi64 (n - 16) (by omega) (by omega)
          have Hn := hide hn
          clear hn hcell hget
          go_wp2
          refine wp_region_still_tail 23 mixed (by kernel_rfl) ?_
          simp only [List.take_succ_cons, List.take_zero, List.drop_succ_cons, List.drop_zero]
          iterate 5 still_step
          still_call (smallOne_calls _ _)
          iterate 9 still_step
          still_call (smallZero_calls _ _)
          iterate 7 still_step
          refine wpStill_nil ?_
          go_wp2
          go_roundw
          case rel =>
            have hn := unhide Hn
            have hx : schedNext (schedN s.data.toList k) = addw (addw (addw (pSmallOne x2) x7) (pSmallZero x15)) x16 := by
              unfold schedNext; rw [schedN_length, hn, unhide e2, unhide e7, unhide e15, unhide e16]
            refine ⟨k + 1, by omega, by rw [← hn]; go_num, ?_, ?_, ?_, ?_⟩
            · exact (hb.setCell (by simp) _).drew
            · simpa using hz
            · have e : List.replicate (48 - k) (0 : BitVec 32) = 0 :: List.replicate (48 - (k + 1)) 0 := by rw [show 48 - k = (48 - (k + 1)) + 1 by omega]; rfl
              rw [e] at hc
              rw [← hx]
              exact row_set wr _ _ _ _ _ _ _ 0 hc (by rw [schedN_length]; omega)
            · exact row_other wr _ _ 0 _ _ hr (by simp)
          case measure => simp [intOf]; omega
        · obtain rfl : k = 48 := by omega
          have hc' : wr.heap[w.heap.size + 1]? = some (.cells (wc (sched s.data.toList)) 93 (0, 0)) := by simpa [sched] using hc
          have hi : (Tryd.prog.info? 93).map (·.size) = some (wc (sched s.data.toList)).size := by rw [wc_size, sched_length]; kernel_rfl
          clear hc
          have hold : (wc (List.replicate 64 (0 : BitVec 32))).size = (wc (sched s.data.toList)).size := by simp [sched_length]
          go_wp2_with (first
            | (refine wpList_load_row rfl 93 (.tmp 3) rfl (w.heap.size + 1) rfl 93 _ (0, 0) _ hc' Tryd.underlying93 rfl hi ?_)
            | (refine wpList_store_row rfl 93 (.tmp 2) (.tmp 43) rfl w.heap.size _ rfl rfl 93 _ hr hi hold (wc_oneCell _) ?_))
          exact bodyPost_ret (results_cell_row rfl _ _ w.heap.size _ _ _ _ rfl (setRow_heap _ _ _ _ _ _ hr) Tryd.underlying93 rfl hi) rfl ⟨rfl, below_setRow hb (Nat.le_refl _) _⟩
end Go.Proofs.YtccecnohgakllaaDoor
