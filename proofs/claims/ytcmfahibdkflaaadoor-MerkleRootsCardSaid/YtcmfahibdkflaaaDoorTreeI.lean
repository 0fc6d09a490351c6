/-
  WHAT merkle's Insert RETTryd.underlying27NS.
-/
import Derived.Test.YtcmfahibdkflaaaDoorTreeB
namespace Go.Proofs.YtcmfahibdkflaaaDoor
open Go Go.RowKit
set_option linter.unusedSimpArgs false
set_option linter.unusedVariables false

/-- What is come to at a level: the digest of the last whole part. -/
def pPart (L leaf : List UInt8) : Nat → List UInt8
  | 0 => leaf
  | k + 1 => pNode (chk L k) (pPart L leaf k)
theorem pPart_length (L leaf : List UInt8) (h : leaf.length = 32) : ∀ k, (pPart L leaf k).length = 32
  | 0 => h
  | k + 1 => pNode_length _ _
/-- The lowest bit. -/
def Low (m k : Nat) : Prop := m / 2 ^ k % 2 = 1 ∧ ∀ j, j < k → m / 2 ^ j % 2 = 0
theorem low_le (m k : Nat) (h0 : 0 < m) (hm : m ≤ 4096) (h : ∀ j, j < k → m / 2 ^ j % 2 = 0) : k ≤ 12 := by
  have h1 := low_zero m k h
  have h2 : 2 ^ k ≤ m := Nat.le_of_dvd h0 (Nat.dvd_of_mod_eq_zero h1)
  by_cases hk : k ≤ 12
  · exact hk
  · have : 2 ^ 13 ≤ 2 ^ k := Nat.pow_le_pow_right (by decide) (by omega)
    omega
set_option maxHeartbeats 1000000 in
set_option maxRecDepth 100000 in
theorem insert_many (c : Nat) (hc : c < 4294967296) (hm : 4096 ≤ c) (L leaf : List UInt8) (hL : L.length = 1024) (hl : leaf.length = 32) (w : World) :
    Calls Tryd.prog 10 #[.pointer none, .agg (tr c L), .agg (bc leaf)] w fun e w' => e = .returned (.tuple #[.agg (tr c L), .int .i64 6]) ∧ Below w.heap.size w w' := by
  have hiT := treeInfo c L hL
  have hil := digInfo leaf hl
  have hoT := tr_one c L
  have A3 := hide (al3 w (.cells (tr c L) 27) (.cells (bc leaf) 24) (.cells (tr 0 (List.replicate 1024 0)) 27))
  have B3 := hide (bel3 w (.cells (tr c L) 27) (.cells (bc leaf) 24) (.cells (tr 0 (List.replicate 1024 0)) 27))
  have c0 := (tr_cell (unhide A3).1).1
  have hz : (tr 0 (List.replicate 1024 0)).size = (tr c L).size := by rw [tr_size, tr_size, hL]; rfl
  have d : decide ((4096 : Int) ≤ (c : Int)) = true := by simp; omega
  rw [← zeroTree] at A3 B3 c0 hz
  go_enter Tryd.func10, Tryd.ntmps10
  go_wp2_with (first
    | refine wpList_load_row rfl 27 (.tmp 4) rfl w.heap.size rfl 27 _ (0, 0) _ (unhide A3).1 Tryd.underlying27 rfl hiT ?_
    | refine wpList_store_row rfl 27 (.tmp 6) (.tmp 13) rfl (w.heap.size + 1 + 1) _ rfl rfl 27 _ (unhide A3).2.2 hiT hz hoT ?_)
  exact bodyPost_ret (results_row_tmp rfl _ _ (w.heap.size + 1 + 1) _ _ _ _ rfl (setRow_heap _ _ _ _ _ _ (unhide A3).2.2) Tryd.underlying27 rfl hiT) rfl ⟨rfl, below_setRow (unhide B3) (by omega) _⟩
set_option maxHeartbeats 4000000 in
set_option maxRecDepth 100000 in
theorem insert_calls (c : Nat) (hm : c < 4096) (L leaf : List UInt8) (hL : L.length = 1024) (hl : leaf.length = 32) (w : World) (tabs : Tabs w) :
    Calls Tryd.prog 10 #[.pointer none, .agg (tr c L), .agg (bc leaf)] w fun e w' => (∃ k, Low (c + 1) k ∧ k ≤ 12 ∧ e = .returned (.tuple #[.agg (tr (c + 1) (putAt L (k * 32) (pPart L leaf k))), .int .i64 0])) ∧ Below w.heap.size w w' := by
  have hiT := treeInfo c L hL
  have hil := digInfo leaf hl
  have hol := bc_oneCell leaf
  have hzl := zeroSize leaf hl
  have A3 := hide (al3 w (.cells (tr c L) 27) (.cells (bc leaf) 24) (.cells (tr 0 (List.replicate 1024 0)) 27))
  have B3 := hide (bel3 w (.cells (tr c L) 27) (.cells (bc leaf) 24) (.cells (tr 0 (List.replicate 1024 0)) 27))
  have c0 := (tr_cell (unhide A3).1).1
  have f0 := (tr_cell (unhide A3).1).2
  have d : decide ((4096 : Int) ≤ (c : Int)) = false := by simp; omega
  rw [← zeroTree] at A3 B3 c0 f0
  obtain ⟨X, hX⟩ : ∃ X, ((w.alloc (.cells (tr c L) 27)).alloc (.cells (bc leaf) 24)).alloc (.cells Tryd.zeroCells27 27) = X := ⟨_, rfl⟩
  have S3 : Hid (X.heap.size = w.heap.size + 1 + 1 + 1) := hide (by rw [← hX]; simp)
  rw [hX] at A3 B3 c0 f0
  obtain ⟨c1, hc1, HC1⟩ : ∃ c1 : Nat, ((c : Int) + 1) % 4294967296 = (c1 : Int) ∧ Hid (c1 = c + 1) := ⟨c + 1, by omega, rfl⟩
  have q8 : ∀ v, ((X.setCell ⟨w.heap.size, 0, none⟩ v).alloc (.cells (bc (List.replicate 32 0)) 24)).heap[X.heap.size]? = some (.cells (bc (List.replicate 32 0)) 24 (0, 0)) := fun v => by
    have := al1 (X.setCell ⟨w.heap.size, 0, none⟩ v) (.cells (bc (List.replicate 32 0)) 24)
    rwa [show (X.setCell ⟨w.heap.size, 0, none⟩ v).heap.size = X.heap.size by simp [World.setCell]] at this
  have Hm := hide hm
  have HT := hide tabs
  have HL := hide hL
  have HPl := hide (pPart_length L leaf hl)
  have Q8 := hide q8
  clear tabs q8 hm
  go_enter Tryd.func10, Tryd.ntmps10
  go_wp2_with (first
    | rw [hX]
    | refine wpList_load_row rfl 24 (.tmp 5) rfl (w.heap.size + 1) rfl 24 _ (0, 0) _ ((Below.heap_setCell _ _ _ _ (by simp)).trans (unhide A3).2.1) Tryd.underlying24 rfl hil ?_
    | refine wpList_store_row rfl 24 (.tmp 8) (.tmp 18) rfl X.heap.size _ rfl rfl 24 _ (unhide Q8 _) hil hzl hol ?_)
  have sX := unhide S3
  obtain ⟨G, hG⟩ : ∃ G, X.heap.size = G := ⟨_, rfl⟩
  obtain ⟨N, hN⟩ : ∃ N, w.heap.size = N := ⟨_, rfl⟩
  rw [hG, hN] at sX
  have hZ : Hid (∀ v, Below w.heap.size w (((X.setCell ⟨w.heap.size, 0, none⟩ v).alloc (.cells (bc (List.replicate 32 0)) 24)).setRow X.heap.size (bc leaf))) := fun v =>
    below_setRow ((((unhide B3).setCell (p := ⟨w.heap.size, 0, none⟩) (Nat.le_refl _) v)).alloc (by simp [World.setCell]; omega) _) (by omega) _
  have SN := hide sX
  have HN := hide hN
  have Z0 : Hid ((((X.setCell ⟨w.heap.size, 0, none⟩ (.int .u32 (c1 : Int))).alloc (.cells (bc (List.replicate 32 0)) 24)).setRow X.heap.size (bc leaf)).heap[w.heap.size]? = some (.cells (tr c1 L) 27 (0, 0))) := hide (by
    rw [setRow_other _ _ _ _ (by omega), Below.heap_alloc _ _ _ (by simp [World.setCell]; omega), heap_setCell_same _ _ _ _ _ _ (unhide A3).1, tr_set])
  have Z2 : Hid ((((X.setCell ⟨w.heap.size, 0, none⟩ (.int .u32 (c1 : Int))).alloc (.cells (bc (List.replicate 32 0)) 24)).setRow X.heap.size (bc leaf)).heap[w.heap.size + 1 + 1]? = some (.cells Tryd.zeroCells27 27 (0, 0))) := hide (by
    rw [setRow_other _ _ _ _ (by omega), Below.heap_alloc _ _ _ (by simp [World.setCell]; omega), Below.heap_setCell _ _ _ _ (by simp; omega)]; exact (unhide A3).2.2)
  have Z3 : Hid ((((X.setCell ⟨w.heap.size, 0, none⟩ (.int .u32 (c1 : Int))).alloc (.cells (bc (List.replicate 32 0)) 24)).setRow X.heap.size (bc leaf)).heap[X.heap.size]? = some (.cells (bc leaf) 24 (0, 0))) := hide (setRow_heap _ _ _ _ _ _ (unhide Q8 _))
  have hZc := hide (unhide hZ (.int .u32 (c1 : Int)))
  change Code.wp _ _ _ _ (((X.setCell ⟨w.heap.size, 0, none⟩ (.int .u32 (c1 : Int))).alloc (.cells (bc (List.replicate 32 0)) 24)).setRow X.heap.size (bc leaf))
  generalize ((X.setCell ⟨w.heap.size, 0, none⟩ (.int .u32 (c1 : Int))).alloc (.cells (bc (List.replicate 32 0)) 24)).setRow X.heap.size (bc leaf) = Z at *
  clear hX c0 f0 A3 B3 hZ Q8 hc1 d hil hol hzl hiT sX S3
  rw [hG] at Z3
  rw [hN] at Z0 Z2 hZc
  have hiZ : Hid (∀ M, M.length = 1024 → (Tryd.prog.info? 27).map (·.size) = some (tr c1 M).size) := fun M h => treeInfo c1 M h
  go_loopw [19] (fun i wr => ∃ k : Nat, k ≤ 12 ∧ i = .int .i64 (k : Int) ∧ (∀ j, j < k → c1 / 2 ^ j % 2 = 0) ∧ Below N w wr ∧ wr.heap[N]? = some (.cells (tr c1 L) 27 (0, 0)) ∧ wr.heap[N + 1 + 1]? = some (.cells Tryd.zeroCells27 27 (0, 0)) ∧ wr.heap[G]? = some (.cells (bc (pPart L leaf k)) 24 (0, 0))) (fun i _ => 32 - (intOf i).toNat)
  case atStart =>
    exact ⟨0, by omega, rfl, fun j hj => by omega, unhide hZc, unhide Z0, unhide Z2, unhide Z3⟩
  case round =>
    obtain ⟨k, hk, rfl, hlow, hb, q0, q2, q3⟩ := hrel
    clear Z0 Z2 Z3 hZc Z
    rw [hN, hG]
    have hd : decide ((k : Int) < 32) = true := by simp; omega
    obtain ⟨c0, f0⟩ := tr_cell q0
    have hPl := unhide HPl k
    have hiP := digInfo _ hPl
    obtain ⟨B, hB⟩ : ∃ B, c1 / 2 ^ k = B := ⟨_, rfl⟩
    have hBl : B < 4294967296 := by rw [← hB]; exact Nat.lt_of_le_of_lt (Nat.div_le_self _ _) (by have := unhide HC1; have := unhide Hm; omega)
    have fB : (c1 : Int) / 2 ^ k = (B : Int) := by rw [← hB]; push_cast; rfl
    have fA := and_one B hBl
    have hz : G < wr.heap.size := (Array.getElem?_eq_some_iff.1 q3).1
    have b2 : (0 : Int) ≤ k ∧ (k : Int) < 32 := by omega
    have tb := (unhide HT).below hb (by rw [unhide HN]; exact Nat.le_refl _)
    by_cases hbit : B % 2 = 1
    · have hle : k * 32 + (pPart L leaf k).length ≤ L.length := by rw [hPl, unhide HL]; omega
      have hT2 : (putAt L (k * 32) (pPart L leaf k)).length = 1024 := by rw [putAt_length _ _ _ hle]; exact unhide HL
      have hiT := treeInfo c1 _ hT2
      have hoT := tr_one c1 (putAt L (k * 32) (pPart L leaf k))
      have hzT : (Tryd.zeroCells27).size = (tr c1 (putAt L (k * 32) (pPart L leaf k))).size := by rw [zeroTree, tr_size, tr_size, hT2]; rfl
      have Hres : Hid (Low (c + 1) k) := hide (by rw [← unhide HC1]; exact ⟨by rw [hB]; exact hbit, hlow⟩)
      have hcc := unhide HC1
      have HPE := hide (show tr (c + 1) (putAt L (k * 32) (pPart L leaf k)) = tr c1 (putAt L (k * 32) (pPart L leaf k)) by rw [hcc])
      rw [hbit] at fA
      have Q0 := hide q0
      have Q2 := hide q2
      have Q3 := hide q3
      have HB := hide hb
      have Hk := hide hk
      have HLe := hide hle
      clear q0 q2 q3 hb hz tb hlow hbit hB hBl hcc hk hle
      go_wp2_with (first
        | refine wpList_load_row rfl 24 (.tmp 8) rfl G rfl 24 _ (0, 0) _ (unhide Q3) Tryd.underlying24 rfl hiP ?_
        | (refine wpList_store_tr rfl 24 (.tmp 31) (.tmp 29) rfl N (k * 32) c1 L (pPart L leaf k) 27 (by first | rfl | (simp; done)) rfl (unhide Q0) (unhide HLe) hiP ?_
           intro w3 r1 r2 r3 r4
           have S0 := hide r1
           have S2 := hide ((r2 (N + 1 + 1) (by omega)).trans (unhide Q2))
           have B3 := hide ((unhide HB).trans (r4 N (Nat.le_refl _)))
           clear r1 r2 r3 r4)
        | refine wpList_load_row rfl 27 (.tmp 4) rfl N rfl 27 _ (0, 0) _ (unhide S0) Tryd.underlying27 rfl hiT ?_
        | refine wpList_store_row rfl 27 (.tmp 6) (.tmp 40) rfl (N + 1 + 1) _ rfl rfl 27 _ (unhide S2) hiT hzT hoT ?_)
      refine bodyPost_ret (results_row_tmp rfl _ _ (N + 1 + 1) _ _ _ _ rfl (setRow_heap _ _ _ _ _ _ (unhide S2)) Tryd.underlying27 rfl hiT) rfl ⟨⟨k, unhide Hres, unhide Hk, ?_⟩, by rw [unhide HN]; exact below_setRow (unhide B3) (by omega) _⟩
      rw [unhide HPE]; rfl
    · have hk12 : k + 1 ≤ 12 := by
        have hlow' : ∀ j, j < k + 1 → c1 / 2 ^ j % 2 = 0 := fun j hj => by
          by_cases e : j = k
          · subst e; rw [hB]; omega
          · exact hlow j (by omega)
        exact low_le c1 (k + 1) (by have := unhide HC1; omega) (by have := unhide HC1; have := unhide Hm; omega) hlow'
      have hlow' : ∀ j, j < k + 1 → c1 / 2 ^ j % 2 = 0 := fun j hj => by
        by_cases e : j = k
        · subst e; rw [hB]; omega
        · exact hlow j (by omega)
      have hChl := chk_length L (unhide HL) k (by omega)
      have hr := tr_range q0 k
      have hP1 := unhide HPl (k + 1)
      have hi1 := digInfo _ hP1
      have ho1 := bc_oneCell (pPart L leaf (k + 1))
      have hz1 : (bc (pPart L leaf k)).size = (bc (pPart L leaf (k + 1))).size := by rw [bc_size, bc_size, hPl, hP1]
      have kN : Hid (∀ dd os, Calls Tryd.prog 29 #[.pointer none, .agg (bc (chk L k)), .agg (bc (pPart L leaf k))] (Sort.grow (redrawn wr dd) os) fun e w'' => e = .returned (.agg (bc (pPart L leaf (k + 1)))) ∧ ∃ p : Regrown, w'' = Sort.grow (redrawn wr p.d) p.os) := fun dd os =>
        Calls.regrown_of (node_calls (chk L k) (pPart L leaf k) hChl hPl _ (tb.below (below_regrown wr dd os) (Nat.le_refl _)))
      have RM : Hid (∀ w', (∃ p : Regrown, w' = Sort.grow (redrawn wr p.d) p.os) → w'.rangeAt N (1 + k * 32) (Lib.byteCells (chk L k))) := fun w' ⟨p, hp⟩ => by
        rw [hp]; exact rangeAt_below hr (below_regrown wr p.d p.os) (by have := unhide SN; omega)
      have R3 : Hid (∀ w', (∃ p : Regrown, w' = Sort.grow (redrawn wr p.d) p.os) → w'.heap[G]? = some (.cells (bc (pPart L leaf k)) 24 (0, 0))) := fun w' ⟨p, hp⟩ => by
        rw [hp]; exact Below.at (below_regrown wr p.d p.os) hz q3
      rw [show B % 2 = 0 by omega] at fA
      have HCl := hide hChl
      have Hlow := hide hlow'
      have Hk12 := hide hk12
      have Q0 := hide q0
      have Q2 := hide q2
      have Q3 := hide q3
      have HB := hide hb
      have Hz := hide hz
      obtain ⟨P1, hP1e⟩ : ∃ P, pPart L leaf k = P := ⟨_, rfl⟩
      obtain ⟨P2, hP2e⟩ : ∃ P, pPart L leaf (k + 1) = P := ⟨_, rfl⟩
      obtain ⟨CH, hCH⟩ : ∃ P, chk L k = P := ⟨_, rfl⟩
      rw [hP1e] at kN R3 Q3 hiP hz1
      rw [hP2e] at kN hi1 ho1 hz1
      rw [hCH] at kN RM HCl
      have HP2 := hide hP2e
      clear q0 q2 q3 hb hz tb hlow hlow' hbit hB hBl hk hk12 hr hChl hP1 hPl hP1e hP2e hCH
      go_wp2_with fail
      refine wp_region_below_tail 7 mixed (by kernel_rfl) ?_
      simp only [List.take_succ_cons, List.take_zero, List.drop_succ_cons, List.drop_zero]
      quiet_step (fail)
      quiet_step (fail)
      quiet_step (fail)
      quiet_step (fail)
      refine wpQuiet_load_mid rfl 24 (.tmp 35) (by first | rfl | (simp; done)) N (1 + k * 32) (by first | rfl | (simp; done)) (Lib.byteCells CH) _ (unhide RM) Tryd.underlying24 rfl (by rw [Lib.byteCells_length, unhide HCl]; kernel_rfl) ?_
      refine wpQuiet_load_row rfl 24 (.tmp 8) rfl G rfl 24 _ (0, 0) _ (unhide R3) Tryd.underlying24 rfl hiP ?_
      quiet_step (exact unhide kN _ _)
      refine wpQuiet_nil ?_
      intro w2 hb2
      have p0 := Below.at hb2 (by have := unhide Hz; have := unhide SN; omega) (unhide Q0)
      have p2 := Below.at hb2 (by have := unhide Hz; have := unhide SN; omega) (unhide Q2)
      have p3 := Below.at hb2 (unhide Hz) (unhide Q3)
      have bb : Below N w w2 := (unhide HB).trans (hb2.mono (by have := unhide Hz; have := unhide SN; omega))
      have P0 := hide p0
      have P2' := hide p2
      have P3 := hide p3
      have BB := hide bb
      clear p0 p2 p3 bb hb2
      refine wpList_store_row rfl 24 (.tmp 8) (.tmp 38) rfl G _ rfl rfl 24 _ (unhide P3) hi1 hz1 ho1 ?_
      go_wp2
      refine ⟨⟨k + 1, unhide Hk12, by go_num, unhide Hlow, below_setRow (unhide BB) (by have := unhide SN; omega) _, ?_, ?_, ?_⟩, by have := unhide Hk12; simp [intOf]; omega⟩
      · rw [setRow_other _ _ _ _ (by have := unhide SN; omega)]; exact unhide P0
      · rw [setRow_other _ _ _ _ (by have := unhide SN; omega)]; exact unhide P2'
      · rw [unhide HP2]; exact setRow_heap _ _ _ _ _ _ (unhide P3)
end Go.Proofs.YtcmfahibdkflaaaDoor
