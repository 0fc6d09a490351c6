/-
  LISTS OF DIGESTS IN MEMORY; WHAT merkle's standing RETURNS.
-/
import Derived.Test.YtcmfahibdkflaaaDoorMerkA
import Derived.Test.YtcmfahibdkflaaaDoorMidB
import Derived.Test.YtcmfahibdkflaaaDoorQuietMid
import Derived.Deep.MidRow
namespace Go.Proofs.YtcmfahibdkflaaaDoor
open Go Go.RowKit
set_option linter.unusedSimpArgs false
set_option linter.unusedVariables false

/-- A list of digests lies where a slice points. -/
def DL (w : World) (p : Option Addr) (ds : List (List UInt8)) : Prop :=
  (∀ d ∈ ds, d.length = 32) ∧ (ds ≠ [] → ∃ b off, p = some ⟨b, off, none⟩ ∧ b < w.heap.size ∧ ∀ i, i < ds.length → w.rangeAt b (off + i * 32) (Lib.byteCells (ds.getD i [])))
theorem rangeAt_below {w w' : World} {B b off : Nat} {cs : List Value} (h : w.rangeAt b off cs) (hb : Below B w w') (hB : b < B) : w'.rangeAt b off cs := fun i v hv => by
  rw [← h i v hv]
  exact hb.cell (p := ⟨b, off + i, none⟩) hB
theorem DL.below {w w' : World} {B : Nat} {p : Option Addr} {ds : List (List UInt8)} (h : DL w p ds) (hb : Below B w w') (hB : w.heap.size ≤ B) : DL w' p ds := by
  refine ⟨h.1, fun hn => ?_⟩
  obtain ⟨b, off, rfl, hlt, hc⟩ := h.2 hn
  exact ⟨b, off, rfl, Nat.lt_of_lt_of_le hlt hb.size, fun i hi => rangeAt_below (hc i hi) hb (Nat.lt_of_lt_of_le hlt hB)⟩
theorem DL.len {w : World} {p : Option Addr} {ds : List (List UInt8)} (h : DL w p ds) (i : Nat) (hi : i < ds.length) : (ds.getD i []).length = 32 := by
  have := h.1 (ds[i]'hi) (List.getElem_mem _)
  simpa [List.getD, hi] using this
/-- What stands at a place. -/
def pStand (ds : List (List UInt8)) (x : Nat) (z : List UInt8) : List UInt8 := if x < ds.length then ds.getD x [] else z
theorem pStand_length {ds : List (List UInt8)} (h : ∀ d ∈ ds, d.length = 32) (x : Nat) (z : List UInt8) (hz : z.length = 32) : (pStand ds x z).length = 32 := by
  unfold pStand
  split
  · rename_i hi
    have := h (ds[x]'hi) (List.getElem_mem _)
    simpa [List.getD, hi] using this
  · exact hz
set_option maxHeartbeats 1000000 in
set_option maxRecDepth 100000 in
theorem standing_calls (ds : List (List UInt8)) (p : Option Addr) (cap : Nat) (x : Nat) (z : List UInt8) (hz : z.length = 32) (hlen : ds.length ≤ 1000000000) (w : World) (hD : DL w p ds) :
    Calls Tryd.prog 35 #[.slice p ds.length cap, .int .i64 (x : Int), .agg (bc z)] w fun e w' => e = .returned (.agg (bc (pStand ds x z))) ∧ Below w.heap.size w w' := by
  have A2 := hide (al2 w (.cells (bc z) 24) (.cells (bc (List.replicate 32 0)) 24))
  have B2 := hide (bel2 w (.cells (bc z) 24) (.cells (bc (List.replicate 32 0)) 24))
  have hiz := digInfo z hz
  have hzz := zeroSize z hz
  have hoz := bc_oneCell z
  unfold pStand
  by_cases hx : x < ds.length
  · rw [if_pos hx]
    have hl := hD.len x hx
    obtain ⟨b, off, rfl, hlt, hc⟩ := hD.2 (by intro h; rw [h] at hx; simp at hx)
    have hr := rangeAt_below (hc x hx) (unhide B2) hlt
    generalize ds.getD x [] = D at *
    have hi1 := digInfo D hl
    have hz1 := zeroSize D hl
    have ho1 := bc_oneCell D
    have hd : decide (x < ds.length) = true := by simpa using hx
    have b1 : (0 : Int) ≤ x ∧ (x : Int) < ds.length := by omega
    have HR := hide hr
    have Hl := hide hl
    clear hc hr hlt hD hx hz hl
    go_enter Tryd.func35, Tryd.ntmps35
    go_wp2_with (first
      | refine wpList_load_mid rfl 24 (.tmp 13) rfl b (off + x * 32) rfl (Lib.byteCells D) _ (unhide HR) Tryd.underlying24 rfl (by rw [Lib.byteCells_length, unhide Hl]; kernel_rfl) ?_
      | refine wpList_store_row rfl 24 (.tmp 6) (.tmp 14) rfl (w.heap.size + 1) (bc D) rfl rfl 24 _ (unhide A2).2 hi1 hz1 ho1 ?_)
    exact bodyPost_ret (results_cell_row rfl _ _ (w.heap.size + 1) _ _ _ _ rfl (setRow_heap _ _ _ _ _ _ (unhide A2).2) Tryd.underlying24 rfl hi1) rfl ⟨rfl, below_setRow (unhide B2) (by omega) _⟩
  · rw [if_neg hx]
    have hd : decide (x < ds.length) = false := by simpa using hx
    clear hD hx hz
    go_enter Tryd.func35, Tryd.ntmps35
    go_wp2_with (first
      | refine wpList_load_row rfl 24 (.tmp 5) rfl w.heap.size rfl 24 _ (0, 0) _ (unhide A2).1 Tryd.underlying24 rfl hiz ?_
      | refine wpList_store_row rfl 24 (.tmp 6) (.tmp 15) rfl (w.heap.size + 1) (bc z) rfl rfl 24 _ (unhide A2).2 hiz hzz hoz ?_)
    exact bodyPost_ret (results_cell_row rfl _ _ (w.heap.size + 1) _ _ _ _ rfl (setRow_heap _ _ _ _ _ _ (unhide A2).2) Tryd.underlying24 rfl hiz) rfl ⟨rfl, below_setRow (unhide B2) (by omega) _⟩
theorem first_calls (p : Option Addr) (n cap : Nat) (hcap : n ≤ cap) (hn : n ≤ 1000000000) (w : World) :
    Calls Tryd.prog 33 #[.slice p n cap] w fun e w' => e = .returned (.slice p (min n 4096) cap) ∧ w' = w := by
  go_enter Tryd.func33, Tryd.ntmps33
  go_wp2
  go_ret
  refine ⟨?_, rfl⟩
  show Ending.returned (Value.slice p (min (n : Int) 4096).toNat cap) = _
  rw [show (min (n : Int) 4096).toNat = min n 4096 by omega]
/-- Up a branch. -/
def pClimb (leaf : List UInt8) (at' : Nat) (ds : List (List UInt8)) : Nat → List UInt8
  | 0 => leaf
  | k + 1 => if at' / 2 ^ k % 2 = 1 then pNode (ds.getD k []) (pClimb leaf at' ds k) else pNode (pClimb leaf at' ds k) (ds.getD k [])
theorem pClimb_length (leaf : List UInt8) (at' : Nat) (ds : List (List UInt8)) (hl : leaf.length = 32) : ∀ k, (pClimb leaf at' ds k).length = 32
  | 0 => hl
  | k + 1 => by unfold pClimb; split <;> exact pNode_length _ _
theorem and_one (M : Nat) (h : M < 4294967296) : bits .and .u32 (M : Int) 1 = ((M % 2 : Nat) : Int) := by
  have := u32_and_nat M 1 h (by omega)
  rw [Nat.and_one_is_mod] at this
  exact this
set_option maxHeartbeats 2000000 in
set_option maxRecDepth 100000 in
theorem climb_calls (leaf : List UInt8) (hl : leaf.length = 32) (x : Nat) (hx : x < 4294967296) (ds : List (List UInt8)) (p : Option Addr) (cap : Nat) (hlen : ds.length ≤ 1000000000) (w : World) (hD : DL w p ds) (tabs : Tabs w) :
    Calls Tryd.prog 23 #[.pointer none, .agg (bc leaf), .int .u32 (x : Int), .slice p ds.length cap] w fun e w' => e = .returned (.agg (bc (pClimb leaf x ds (min ds.length 32)))) ∧ Below w.heap.size w w' := by
  have A3 := hide (al3 w (.cells (bc leaf) 24) (.cells (bc (List.replicate 32 0)) 24) (.cells (bc (List.replicate 32 0)) 24))
  have B3 := hide (bel3 w (.cells (bc leaf) 24) (.cells (bc (List.replicate 32 0)) 24) (.cells (bc (List.replicate 32 0)) 24))
  have hil := digInfo leaf hl
  have hzl := zeroSize leaf hl
  have hol := bc_oneCell leaf
  have HD := hide hD
  have HT := hide tabs
  have HL := hide (pClimb_length leaf x ds hl)
  have hmin : min (ds.length : Int) 32 = ((min ds.length 32 : Nat) : Int) := by omega
  have Hm32 : Hid (min ds.length 32 ≤ 32) := hide (Nat.min_le_right _ _)
  have Hmd : Hid (min ds.length 32 ≤ ds.length) := hide (Nat.min_le_left _ _)
  have Hx := hide hx
  have Hlen := hide hlen
  obtain ⟨M, hM⟩ : ∃ M, min ds.length 32 = M := ⟨_, rfl⟩
  rw [hM] at hmin Hm32 Hmd
  rw [hM]
  clear tabs hD hM hx hlen
  go_enter Tryd.func23, Tryd.ntmps23
  go_wp2_with (first
    | refine wpList_load_row rfl 24 (.tmp 5) rfl w.heap.size rfl 24 _ (0, 0) _ (al2 w (.cells (bc leaf) 24) (.cells (bc (List.replicate 32 0)) 24)).1 Tryd.underlying24 rfl hil ?_
    | refine wpList_store_row rfl 24 (.tmp 9) (.tmp 11) rfl (w.heap.size + 1 + 1) _ rfl rfl 24 _ (unhide A3).2.2 hil hzl hol ?_)
  obtain ⟨N, hN⟩ : ∃ N, w.heap.size = N := ⟨_, rfl⟩
  have HN := hide hN
  go_loopw [15] (fun i wr => ∃ k : Nat, k ≤ M ∧ i = .int .i64 (k : Int) ∧ Below N w wr ∧ wr.heap[N + 1]? = some (.cells (bc (List.replicate 32 0)) 24 (0, 0)) ∧ wr.heap[N + 1 + 1]? = some (.cells (bc (pClimb leaf x ds k)) 24 (0, 0))) (fun i _ => M - (intOf i).toNat)
  case atStart =>
    subst hN
    refine ⟨0, by omega, rfl, below_setRow (unhide B3) (by omega) _, ?_, ?_⟩
    · exact (setRow_other _ _ _ _ (by omega)).trans (unhide A3).2.1
    · exact setRow_heap _ _ _ _ _ _ (unhide A3).2.2
  case round =>
    obtain ⟨k, hk, rfl, hb, q1, q2⟩ := hrel
    rw [hN]
    clear A3 B3
    by_cases hlt : k < M
    · have hd : decide (k < M) = true := by simpa using hlt
      have hkd : k < ds.length := by have := unhide Hmd; omega
      have hDk := unhide HD
      obtain ⟨b, off, rfl, hlt2, hc⟩ := hDk.2 (by intro h; rw [h] at hkd; simp at hkd)
      have hEl := hDk.len k hkd
      have hr := rangeAt_below (hc k hkd) hb (by rw [← hN]; exact hlt2)
      have hTl := unhide HL k
      have hiT := digInfo _ hTl
      have hT2l := unhide HL (k + 1)
      have hi1 := digInfo _ hT2l
      have ho1 := bc_oneCell (pClimb leaf x ds (k + 1))
      have hz1 : (bc (pClimb leaf x ds k)).size = (bc (pClimb leaf x ds (k + 1))).size := by rw [bc_size, bc_size, hTl, hT2l]
      have tb := (unhide HT).below hb (by rw [← hN]; exact Nat.le_refl _)
      have hz : N + 1 + 1 < wr.heap.size := (Array.getElem?_eq_some_iff.1 q2).1
      have hT2e : pClimb leaf x ds (k + 1) = if x / 2 ^ k % 2 = 1 then pNode (ds.getD k []) (pClimb leaf x ds k) else pNode (pClimb leaf x ds k) (ds.getD k []) := rfl
      obtain ⟨E, hE⟩ : ∃ E, ds.getD k [] = E := ⟨_, rfl⟩
      rw [hE] at hEl hr hT2e
      obtain ⟨T1, hT1⟩ : ∃ T, pClimb leaf x ds k = T := ⟨_, rfl⟩
      rw [hT1] at hTl hiT hz1 q2 hT2e
      obtain ⟨T2, hT2⟩ : ∃ T, pClimb leaf x ds (k + 1) = T := ⟨_, rfl⟩
      rw [hT2] at hi1 ho1 hz1 hT2e hT2l
      obtain ⟨B, hB⟩ : ∃ B, x / 2 ^ k = B := ⟨_, rfl⟩
      have hBl : B < 4294967296 := by rw [← hB]; exact Nat.lt_of_le_of_lt (Nat.div_le_self _ _) (unhide Hx)
      have fB : (x : Int) / 2 ^ k = (B : Int) := by rw [← hB]; push_cast; rfl
      have fA := and_one B hBl
      rw [hB] at hT2e
      have hk32 : k ≤ 31 := by have := unhide Hm32; omega
      have RM : Hid (∀ w', (∃ p : Regrown, w' = Sort.grow (redrawn wr p.d) p.os) → w'.rangeAt b (off + k * 32) (Lib.byteCells E)) := fun w' ⟨p, hp⟩ => by
        rw [hp]; exact rangeAt_below hr (below_regrown wr p.d p.os) (by have := hb.size; omega)
      have R2 : Hid (∀ w', (∃ p : Regrown, w' = Sort.grow (redrawn wr p.d) p.os) → w'.heap[N + 1 + 1]? = some (.cells (bc T1) 24 (0, 0))) := fun w' ⟨p, hp⟩ => by
        rw [hp]; exact Below.at (below_regrown wr p.d p.os) hz q2
      have HEl := hide hEl
      have HTl := hide hTl
      have HT2 := hide hT2
      have Q1 := hide q1
      have Q2 := hide q2
      have HB := hide hb
      have Hk := hide hlt
      have Hz := hide hz
      have TB := hide tb
      have HT2e := hide hT2e
      have b1 : (0 : Int) ≤ k ∧ (k : Int) < ds.length := by omega
      clear q1 q2 hb hlt hz tb hT2 hT2e hE hT1 hr hc hlt2 hkd hB hEl hTl hT2l hDk hBl
      by_cases hbit : B % 2 = 1
      · have e1 := unhide HT2e
        rw [if_pos hbit] at e1
        have kN : Hid (∀ dd os, Calls Tryd.prog 29 #[.pointer none, .agg (bc E), .agg (bc T1)] (Sort.grow (redrawn wr dd) os) fun e w'' => e = .returned (.agg (bc T2)) ∧ ∃ p : Regrown, w'' = Sort.grow (redrawn wr p.d) p.os) := fun dd os => by
          rw [e1]; exact Calls.regrown_of (node_calls E T1 (unhide HEl) (unhide HTl) _ ((unhide TB).below (below_regrown wr dd os) (Nat.le_refl _)))
        rw [hbit] at fA
        clear e1 HT2e hbit
        go_wp2_with fail
        refine wp_region_below_tail 7 mixed (by kernel_rfl) ?_
        simp only [List.take_succ_cons, List.take_zero, List.drop_succ_cons, List.drop_zero]
        quiet_step (fail)
        quiet_step (fail)
        quiet_step (fail)
        quiet_step (fail)
        refine wpQuiet_load_mid rfl 24 (.tmp 26) rfl b (off + k * 32) rfl (Lib.byteCells E) _ (unhide RM) Tryd.underlying24 rfl (by rw [Lib.byteCells_length, unhide HEl]; kernel_rfl) ?_
        refine wpQuiet_load_row rfl 24 (.tmp 9) rfl (N + 1 + 1) rfl 24 _ (0, 0) _ (unhide R2) Tryd.underlying24 rfl hiT ?_
        quiet_step (exact unhide kN _ _)
        refine wpQuiet_nil ?_
        intro w2 hb2
        have p1 := Below.at hb2 (by have := unhide Hz; omega) (unhide Q1)
        have p2 := Below.at hb2 (unhide Hz) (unhide Q2)
        have bb : Below N w w2 := (unhide HB).trans (hb2.mono (by have := unhide Hz; omega))
        have P1 := hide p1
        have P2 := hide p2
        have BB := hide bb
        clear p1 p2 bb hb2
        refine wpList_store_row rfl 24 (.tmp 9) (.tmp 29) rfl (N + 1 + 1) _ rfl rfl 24 _ (unhide P2) hi1 hz1 ho1 ?_
        go_wp2
        refine ⟨⟨k + 1, by have := unhide Hk; omega, by go_num, below_setRow (unhide BB) (by omega) _, ?_, ?_⟩, by have := unhide Hk; simp [intOf]; omega⟩
        · rw [setRow_other _ _ _ _ (by omega)]; exact unhide P1
        · rw [unhide HT2]; exact setRow_heap _ _ _ _ _ _ (unhide P2)
      · have e1 := unhide HT2e
        rw [if_neg hbit] at e1
        have kN : Hid (∀ dd os, Calls Tryd.prog 29 #[.pointer none, .agg (bc T1), .agg (bc E)] (Sort.grow (redrawn wr dd) os) fun e w'' => e = .returned (.agg (bc T2)) ∧ ∃ p : Regrown, w'' = Sort.grow (redrawn wr p.d) p.os) := fun dd os => by
          rw [e1]; exact Calls.regrown_of (node_calls T1 E (unhide HTl) (unhide HEl) _ ((unhide TB).below (below_regrown wr dd os) (Nat.le_refl _)))
        rw [show B % 2 = 0 by omega] at fA
        clear e1 HT2e hbit
        go_wp2_with fail
        refine wp_region_below_tail 7 mixed (by kernel_rfl) ?_
        simp only [List.take_succ_cons, List.take_zero, List.drop_succ_cons, List.drop_zero]
        quiet_step (fail)
        refine wpQuiet_load_row rfl 24 (.tmp 9) rfl (N + 1 + 1) rfl 24 _ (0, 0) _ (unhide R2) Tryd.underlying24 rfl hiT ?_
        quiet_step (fail)
        quiet_step (fail)
        quiet_step (fail)
        refine wpQuiet_load_mid rfl 24 (.tmp 34) rfl b (off + k * 32) rfl (Lib.byteCells E) _ (unhide RM) Tryd.underlying24 rfl (by rw [Lib.byteCells_length, unhide HEl]; kernel_rfl) ?_
        quiet_step (exact unhide kN _ _)
        refine wpQuiet_nil ?_
        intro w2 hb2
        have p1 := Below.at hb2 (by have := unhide Hz; omega) (unhide Q1)
        have p2 := Below.at hb2 (unhide Hz) (unhide Q2)
        have bb : Below N w w2 := (unhide HB).trans (hb2.mono (by have := unhide Hz; omega))
        have P1 := hide p1
        have P2 := hide p2
        have BB := hide bb
        clear p1 p2 bb hb2
        refine wpList_store_row rfl 24 (.tmp 9) (.tmp 36) rfl (N + 1 + 1) _ rfl rfl 24 _ (unhide P2) hi1 hz1 ho1 ?_
        go_wp2
        refine ⟨⟨k + 1, by have := unhide Hk; omega, by go_num, below_setRow (unhide BB) (by omega) _, ?_, ?_⟩, by have := unhide Hk; simp [intOf]; omega⟩
        · rw [setRow_other _ _ _ _ (by omega)]; exact unhide P1
        · rw [unhide HT2]; exact setRow_heap _ _ _ _ _ _ (unhide P2)
    · have hd : decide (k < M) = false := by simpa using hlt
      have hkl : k = M := by omega
      have hM1 := unhide HL M
      have hi := digInfo _ hM1
      have hz := zeroSize _ hM1
      have ho := bc_oneCell (pClimb leaf x ds M)
      rw [hkl] at q2
      have Q1 := hide q1
      have Q2 := hide q2
      have HB := hide hb
      clear q1 q2 hb hkl hlt hM1
      go_wp2_with (first
        | refine wpList_load_row rfl 24 (.tmp 9) rfl (N + 1 + 1) rfl 24 _ (0, 0) _ (unhide Q2) Tryd.underlying24 rfl hi ?_
        | refine wpList_store_row rfl 24 (.tmp 8) (.tmp 38) rfl (N + 1) _ rfl rfl 24 _ (unhide Q1) hi hz ho ?_)
      exact bodyPost_ret (results_cell_row rfl _ _ (N + 1) _ _ _ _ rfl (setRow_heap _ _ _ _ _ _ (unhide Q1)) Tryd.underlying24 rfl hi) rfl ⟨rfl, by rw [unhide HN]; exact below_setRow (unhide HB) (by omega) _⟩
end Go.Proofs.YtcmfahibdkflaaaDoor
