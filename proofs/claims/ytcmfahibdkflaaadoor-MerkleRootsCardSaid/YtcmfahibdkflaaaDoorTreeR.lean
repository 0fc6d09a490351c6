/-
  WHAT merkle's Root RETTryd.underlying27NS.
-/
import Derived.Test.YtcmfahibdkflaaaDoorTreeI
namespace Go.Proofs.YtcmfahibdkflaaaDoor
open Go Go.RowKit
set_option linter.unusedSimpArgs false
set_option linter.unusedVariables false

/-- What is come to at a level. -/
def pTop (c : Nat) (L : List UInt8) : Nat → List UInt8
  | 0 => pNought 0
  | k + 1 => if c / 2 ^ k % 2 = 1 then pNode (chk L k) (pTop c L k) else pNode (pTop c L k) (pNought k)
theorem pTop_length (c : Nat) (L : List UInt8) : ∀ k, (pTop c L k).length = 32
  | 0 => rfl
  | k + 1 => by unfold pTop; split <;> exact pNode_length _ _
theorem al4 (w : World) (A B C D : Obj) : ((((w.alloc A).alloc B).alloc C).alloc D).heap[w.heap.size]? = some A ∧ ((((w.alloc A).alloc B).alloc C).alloc D).heap[w.heap.size + 1]? = some B ∧ ((((w.alloc A).alloc B).alloc C).alloc D).heap[w.heap.size + 1 + 1]? = some C ∧ ((((w.alloc A).alloc B).alloc C).alloc D).heap[w.heap.size + 1 + 1 + 1]? = some D := by
  have h := al3 w A B C
  refine ⟨?_, ?_, ?_, ?_⟩
  · rw [Below.heap_alloc _ _ _ (by first | (simp; done) | (simp; omega))]; exact h.1
  · rw [Below.heap_alloc _ _ _ (by first | (simp; done) | (simp; omega))]; exact h.2.1
  · rw [Below.heap_alloc _ _ _ (by simp)]; exact h.2.2
  · have := al1 (((w.alloc A).alloc B).alloc C) D
    simp only [World.size_alloc] at this
    exact this
set_option maxHeartbeats 4000000 in
set_option maxRecDepth 100000 in
theorem root_calls (c : Nat) (hc : c < 4294967296) (L : List UInt8) (hL : L.length = 1024) (w : World) (tabs : Tabs w) :
    Calls Tryd.prog 12 #[.pointer none, .agg (tr c L)] w fun e w' => e = .returned (.agg (bc (pTop c L 32))) ∧ Below w.heap.size w w' := by
  have hiT := treeInfo c L hL
  have A4 := hide (al4 w (.cells (tr c L) 27) (.cells (bc (pNought 0)) 24) (.cells (bc (pNought 0)) 24) (.cells (bc (pNought 0)) 24))
  have B4 := hide ((bel3 w (.cells (tr c L) 27) (.cells (bc (pNought 0)) 24) (.cells (bc (pNought 0)) 24)).alloc (by simp; omega) (.cells (bc (pNought 0)) 24))
  have HT := hide tabs
  have HL := hide hL
  have Hc := hide hc
  have HI := hide (fun k => digInfo (pNought k) (pNought_length k))
  have HO := hide (fun k => bc_oneCell (pNought k))
  have HTl := hide (pTop_length c L)
  clear tabs hL hc
  go_enter Tryd.func12, Tryd.ntmps12
  go_wp2
  obtain ⟨N, hN⟩ : ∃ N, w.heap.size = N := ⟨_, rfl⟩
  have HN := hide hN
  go_loopw [8] (fun i wr => ∃ k : Nat, k ≤ 32 ∧ i = .int .i64 (k : Int) ∧ Below N w wr ∧ wr.heap[N]? = some (.cells (tr c L) 27 (0, 0)) ∧ wr.heap[N + 1]? = some (.cells (bc (pNought 0)) 24 (0, 0)) ∧ wr.heap[N + 1 + 1]? = some (.cells (bc (pTop c L k)) 24 (0, 0)) ∧ wr.heap[N + 1 + 1 + 1]? = some (.cells (bc (pNought k)) 24 (0, 0))) (fun i _ => 32 - (intOf i).toNat)
  case atStart =>
    subst hN
    exact ⟨0, by omega, rfl, unhide B4, (unhide A4).1, (unhide A4).2.1, (unhide A4).2.2.1, (unhide A4).2.2.2⟩
  case round =>
    obtain ⟨k, hk, rfl, hb, q0, q1, q2, q3⟩ := hrel
    rw [hN]
    clear A4 B4
    by_cases hlt : k < 32
    · have hd : decide ((k : Int) < 32) = true := by simp; omega
      obtain ⟨c0, f0⟩ := tr_cell q0
      have hTl := unhide HTl k
      have hT1l := unhide HTl (k + 1)
      have hiTp := digInfo _ hTl
      have hi1 := digInfo _ hT1l
      have ho1 := bc_oneCell (pTop c L (k + 1))
      have hz1 : (bc (pTop c L k)).size = (bc (pTop c L (k + 1))).size := by rw [bc_size, bc_size, hTl, hT1l]
      have hiN := unhide HI k
      have hiN1 := unhide HI (k + 1)
      have hoN1 := unhide HO (k + 1)
      have hzN : (bc (pNought k)).size = (bc (pNought (k + 1))).size := by rw [bc_size, bc_size, pNought_length, pNought_length]
      have hTe : pTop c L (k + 1) = if c / 2 ^ k % 2 = 1 then pNode (chk L k) (pTop c L k) else pNode (pTop c L k) (pNought k) := rfl
      have hNe : pNought (k + 1) = pNode (pNought k) (pNought k) := rfl
      obtain ⟨B, hB⟩ : ∃ B, c / 2 ^ k = B := ⟨_, rfl⟩
      have hBl : B < 4294967296 := by rw [← hB]; exact Nat.lt_of_le_of_lt (Nat.div_le_self _ _) (unhide Hc)
      have fB : (c : Int) / 2 ^ k = (B : Int) := by rw [← hB]; push_cast; rfl
      have fA := and_one B hBl
      rw [hB] at hTe
      have hz : N + 1 + 1 + 1 < wr.heap.size := (Array.getElem?_eq_some_iff.1 q3).1
      have b2 : (0 : Int) ≤ k ∧ (k : Int) < 32 := by omega
      have tb := (unhide HT).below hb (by rw [unhide HN]; exact Nat.le_refl _)
      have hChl := chk_length L (unhide HL) k hlt
      have hr := tr_range q0 k
      have hNl := pNought_length k
      obtain ⟨NO, hNO⟩ : ∃ P, pNought k = P := ⟨_, rfl⟩
      obtain ⟨N1, hN1⟩ : ∃ P, pNought (k + 1) = P := ⟨_, rfl⟩
      obtain ⟨T0, hT0⟩ : ∃ P, pTop c L k = P := ⟨_, rfl⟩
      obtain ⟨T1, hT1⟩ : ∃ P, pTop c L (k + 1) = P := ⟨_, rfl⟩
      obtain ⟨CH, hCH⟩ : ∃ P, chk L k = P := ⟨_, rfl⟩
      rw [hNO] at hTe hNe hiN hzN q3 hNl
      rw [hN1] at hNe hiN1 hoN1 hzN
      rw [hT0] at hTe hTl hiTp hz1 q2
      rw [hT1] at hTe hT1l hi1 ho1 hz1
      rw [hCH] at hTe hChl hr
      have HN1 := hide hN1
      have HT1 := hide hT1
      have HNe := hide hNe
      have HTe := hide hTe
      have HChl := hide hChl
      have HTl2 := hide hTl
      have HNl := hide hNl
      have TB := hide tb
      have HR := hide hr
      have Q0 := hide q0
      have Q1 := hide q1
      have Q2 := hide q2
      have Q3 := hide q3
      have HB := hide hb
      have Hk := hide hlt
      have Hz := hide hz
      clear q0 q1 q2 q3 hb hlt hz tb hr hChl hNe hTe hN1 hT1 hNO hT0 hCH hTl hT1l hNl hB hBl hk
      have REST : Hid (∀ w3, Below N w w3 → Calls Tryd.prog 29 #[.pointer none, .agg (bc NO), .agg (bc NO)] w3 fun e w' => e = .returned (.agg (bc N1)) ∧ Below w3.heap.size w3 w') := fun w3 hb3 => by
        rw [unhide HNe]
        exact node_calls NO NO (unhide HNl) (unhide HNl) w3 ((unhide HT).below hb3 (by rw [unhide HN]; exact Nat.le_refl _))
      by_cases hbit : B % 2 = 1
      case' pos =>
        have e1 := unhide HTe
        rw [if_pos hbit] at e1
        have kN : Hid (∀ dd os, Calls Tryd.prog 29 #[.pointer none, .agg (bc CH), .agg (bc T0)] (Sort.grow (redrawn wr dd) os) fun e w'' => e = .returned (.agg (bc T1)) ∧ ∃ p : Regrown, w'' = Sort.grow (redrawn wr p.d) p.os) := fun dd os => by
          rw [e1]; exact Calls.regrown_of (node_calls CH T0 (unhide HChl) (unhide HTl2) _ ((unhide TB).below (below_regrown wr dd os) (Nat.le_refl _)))
        have RM : Hid (∀ w', (∃ p : Regrown, w' = Sort.grow (redrawn wr p.d) p.os) → w'.rangeAt N (1 + k * 32) (Lib.byteCells CH)) := fun w' ⟨p, hp⟩ => by
          rw [hp]; exact rangeAt_below (unhide HR) (below_regrown wr p.d p.os) (by have := unhide Hz; omega)
        have R2 : Hid (∀ w', (∃ p : Regrown, w' = Sort.grow (redrawn wr p.d) p.os) → w'.heap[N + 1 + 1]? = some (.cells (bc T0) 24 (0, 0))) := fun w' ⟨p, hp⟩ => by
          rw [hp]; exact Below.at (below_regrown wr p.d p.os) (by have := unhide Hz; omega) (unhide Q2)
        rw [hbit] at fA
        clear e1 hbit
        go_wp2_with fail
        refine wp_region_below_tail 7 mixed (by kernel_rfl) ?_
        simp only [List.take_succ_cons, List.take_zero, List.drop_succ_cons, List.drop_zero]
        quiet_step (fail)
        quiet_step (fail)
        quiet_step (fail)
        quiet_step (fail)
        refine wpQuiet_load_mid rfl 24 (.tmp 20) rfl N (1 + k * 32) rfl (Lib.byteCells CH) _ (unhide RM) Tryd.underlying24 rfl (by rw [Lib.byteCells_length, unhide HChl]; kernel_rfl) ?_
        refine wpQuiet_load_row rfl 24 (.tmp 5) rfl (N + 1 + 1) rfl 24 _ (0, 0) _ (unhide R2) Tryd.underlying24 rfl hiTp ?_
        quiet_step (exact unhide kN _ _)
        refine wpQuiet_nil ?_
        intro w2 hb2
        have p0 := hide (Below.at hb2 (by have := unhide Hz; omega) (unhide Q0))
        have p1 := hide (Below.at hb2 (by have := unhide Hz; omega) (unhide Q1))
        have p2 := hide (Below.at hb2 (by have := unhide Hz; omega) (unhide Q2))
        have p3 := hide (Below.at hb2 (unhide Hz) (unhide Q3))
        have BB := hide ((unhide HB).trans (hb2.mono (by have := unhide Hz; omega)))
        have Z2 := hide hb2.size
        clear hb2
        refine wpList_store_row rfl 24 (.tmp 5) (.tmp 23) rfl (N + 1 + 1) _ rfl rfl 24 _ (unhide p2) hi1 hz1 ho1 ?_
      case' neg =>
        have e1 := unhide HTe
        rw [if_neg hbit] at e1
        have kN : Hid (Calls Tryd.prog 29 #[.pointer none, .agg (bc T0), .agg (bc NO)] wr fun e w' => e = .returned (.agg (bc T1)) ∧ Below wr.heap.size wr w') := by
          rw [e1]; exact node_calls T0 NO (unhide HTl2) (unhide HNl) wr (unhide TB)
        rw [show B % 2 = 0 by omega] at fA
        clear e1 hbit
        go_wp2_with (first
          | refine wpList_load_row rfl 24 (.tmp 5) rfl (N + 1 + 1) rfl 24 _ (0, 0) _ (unhide Q2) Tryd.underlying24 rfl hiTp ?_
          | refine wpList_load_row rfl 24 (.tmp 6) rfl (N + 1 + 1 + 1) rfl 24 _ (0, 0) _ (unhide Q3) Tryd.underlying24 rfl hiN ?_)
        refine (unhide kN).mono ?_
        rintro e w2 ⟨rfl, hb2⟩
        have p0 := hide (Below.at hb2 (by have := unhide Hz; omega) (unhide Q0))
        have p1 := hide (Below.at hb2 (by have := unhide Hz; omega) (unhide Q1))
        have p2 := hide (Below.at hb2 (by have := unhide Hz; omega) (unhide Q2))
        have p3 := hide (Below.at hb2 (unhide Hz) (unhide Q3))
        have BB := hide ((unhide HB).trans (hb2.mono (by have := unhide Hz; omega)))
        have Z2 := hide hb2.size
        clear hb2
        go_wp2_with (first
          | refine wpList_store_row rfl 24 (.tmp 5) (.tmp 27) rfl (N + 1 + 1) _ rfl rfl 24 _ (unhide p2) hi1 hz1 ho1 ?_
          | refine wpList_load_row rfl 24 (.tmp 6) rfl (N + 1 + 1 + 1) rfl 24 _ (0, 0) _ ((setRow_other _ _ _ _ (by omega)).trans (unhide p3)) Tryd.underlying24 rfl hiN ?_)
      case' pos =>
        go_wp2_with (refine wpList_load_row rfl 24 (.tmp 6) rfl (N + 1 + 1 + 1) rfl 24 _ (0, 0) _ ((setRow_other _ _ _ _ (by omega)).trans (unhide p3)) Tryd.underlying24 rfl hiN ?_)
      all_goals
        refine (unhide REST _ (below_setRow (unhide BB) (by omega) _)).mono ?_
        rintro e w4 ⟨rfl, hb4⟩
        have s4 : N + 1 + 1 + 1 < (w2.setRow (N + 1 + 1) (bc T1)).heap.size := by rw [size_setRow]; have := unhide Hz; have := unhide Z2; omega
        have r0 := hide (Below.at hb4 (by omega) ((setRow_other _ _ _ _ (by omega)).trans (unhide p0)))
        have r1 := hide (Below.at hb4 (by omega) ((setRow_other _ _ _ _ (by omega)).trans (unhide p1)))
        have r2 := hide (Below.at hb4 (by omega) (setRow_heap _ _ _ _ _ _ (unhide p2)))
        have r3 := hide (Below.at hb4 s4 ((setRow_other _ _ _ _ (by omega)).trans (unhide p3)))
        have B4 := hide ((below_setRow (unhide BB) (by omega) _).trans (hb4.mono (by omega)))
        clear hb4 s4
        go_wp2_with (refine wpList_store_row rfl 24 (.tmp 6) (.tmp 31) rfl (N + 1 + 1 + 1) _ rfl rfl 24 _ (unhide r3) hiN1 hzN hoN1 ?_)
        refine ⟨⟨k + 1, by have := unhide Hk; omega, by go_num, below_setRow (unhide B4) (by omega) _, ?_, ?_, ?_, ?_⟩, by have := unhide Hk; simp [intOf]; omega⟩
        · rw [setRow_other _ _ _ _ (by omega)]; exact unhide r0
        · rw [setRow_other _ _ _ _ (by omega)]; exact unhide r1
        · rw [setRow_other _ _ _ _ (by omega), unhide HT1]; exact unhide r2
        · rw [unhide HN1]; exact setRow_heap _ _ _ _ _ _ (unhide r3)
    · have hd : decide ((k : Int) < 32) = false := by simp; omega
      have hkl : k = 32 := by omega
      subst hkl
      have hM := unhide HTl 32
      have hi := digInfo _ hM
      have hz : (bc (pNought 0)).size = (bc (pTop c L 32)).size := by rw [bc_size, bc_size, hM]; rfl
      have ho := bc_oneCell (pTop c L 32)
      have Q1 := hide q1
      have Q2 := hide q2
      have HB := hide hb
      clear q0 q1 q2 q3 hb hlt hM
      rw [show ((32 : Nat) : Int) = 32 from rfl]
      go_wp2_with (first
        | refine wpList_load_row rfl 24 (.tmp 5) rfl (N + 1 + 1) rfl 24 _ (0, 0) _ (unhide Q2) Tryd.underlying24 rfl hi ?_
        | refine wpList_store_row rfl 24 (.tmp 4) (.tmp 33) rfl (N + 1) _ rfl rfl 24 _ (unhide Q1) hi hz ho ?_)
      exact bodyPost_ret (results_cell_row rfl _ _ (N + 1) _ _ _ _ rfl (setRow_heap _ _ _ _ _ _ (unhide Q1)) Tryd.underlying24 rfl hi) rfl ⟨rfl, by rw [unhide HN]; exact below_setRow (unhide HB) (by omega) _⟩
end Go.Proofs.YtcmfahibdkflaaaDoor
