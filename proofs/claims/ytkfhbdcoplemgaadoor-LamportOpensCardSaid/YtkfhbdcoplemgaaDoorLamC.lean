/-
  WHAT lamport's Word RETURNS, where there is no log.
-/
import Derived.Test.YtkfhbdcoplemgaaDoorLamW
import Derived.Test.YtkfhbdcoplemgaaDoorQuietRow
namespace Go.Proofs.YtkfhbdcoplemgaaDoor
open Go Go.RowKit
set_option linter.unusedSimpArgs false
set_option linter.unusedVariables false

/-- A key's public, by its number: two a place. -/
def pubAt (seed : List UInt8) (index j : Nat) : List UInt8 := pPublic (pSecret seed index (j / 2) (j % 2))
def pubs (seed : List UInt8) (index k : Nat) : List UInt8 := (List.range k).flatMap (pubAt seed index)
def pWord (seed : List UInt8) (index : Nat) : List UInt8 := pWordOf (pubs seed index 64)
theorem flat32 (f : Nat → List UInt8) (hf : ∀ j, (f j).length = 32) (k : Nat) : ((List.range k).flatMap f).length = 32 * k := by
  induction k with
  | zero => rfl
  | succ k ih => rw [List.range_succ, List.flatMap_append, List.length_append, ih]; simp [hf]; omega
theorem pubs_length (seed : List UInt8) (index k : Nat) : (pubs seed index k).length = 32 * k := flat32 _ (fun j => pPublic_length _) k
theorem pubs_succ (seed : List UInt8) (index k : Nat) : pubs seed index (k + 1) = pubs seed index k ++ pubAt seed index k := by
  unfold pubs; rw [List.range_succ, List.flatMap_append]; simp
theorem zero84 : Tryd.zeroCells84 = bc (List.replicate 2048 0) := by kernel_rfl
theorem pubs_put (seed : List UInt8) (index i j : Nat) (hi : i < 32) (hj : j < 2) : putAt (pubs seed index (2 * i + j) ++ List.replicate (2048 - 32 * (2 * i + j)) 0) (i * 64 + j * 32) (pPublic (pSecret seed index i j)) = pubs seed index (2 * i + (j + 1)) ++ List.replicate (2048 - 32 * (2 * i + (j + 1))) 0 := by
  rw [putAt_zeros _ _ _ _ (by rw [pubs_length]; omega) (by rw [pPublic_length]; omega), pPublic_length, show 2 * i + (j + 1) = (2 * i + j) + 1 by omega, pubs_succ]
  have e : pubAt seed index (2 * i + j) = pPublic (pSecret seed index i j) := by
    unfold pubAt
    rw [show (2 * i + j) / 2 = i by omega, show (2 * i + j) % 2 = j by omega]
  rw [e, show 2048 - 32 * (2 * i + j) - 32 = 2048 - 32 * (2 * i + j + 1) by omega]
set_option maxHeartbeats 4000000 in
set_option maxRecDepth 100000 in
theorem word_calls (seed : List UInt8) (hs : seed.length = 32) (x : Int) (index : Nat) (hx : x % 4294967296 = (index : Int)) (w : World) (tabs : Tabs w) :
    Calls Tryd.prog 30 #[.pointer none, .agg (bc seed), .int .i64 x] w fun e w' => e = .returned (.agg (bc (pWord seed index))) ∧ Below w.heap.size w w' := by
  have hW : (pWord seed index).length = 32 := pOf_length _ _
  have hi1 := digInfo (pWord seed index) hW
  have hz1 := zeroSize (pWord seed index) hW
  have ho1 := bc_oneCell (pWord seed index)
  have hi0 := digInfo seed hs
  have cW := fun w tabs => wordOf_calls (pubs seed index 64) (pubs_length _ _ _) w tabs
  have e1 : pWordOf (pubs seed index 64) = pWord seed index := rfl
  rw [e1] at cW
  have hiP := pubsInfo (pubs seed index 64) (pubs_length _ _ _)
  have cS := fun i b hi hb w tabs => secret_calls seed hs x index i b hx hi hb w tabs
  have HPut := hide (pubs_put seed index)
  generalize pWord seed index = D at *
  have HT := hide tabs
  have HiP := hide hiP
  have CW := hide cW
  have CS := hide cS
  have hA := al2 w (.cells (bc seed) 24) (.cells (bc (List.replicate 32 0)) 24)
  have hbA := bel2 w (.cells (bc seed) 24) (.cells (bc (List.replicate 32 0)) 24)
  have hsX : ((w.alloc (.cells (bc seed) 24)).alloc (.cells (bc (List.replicate 32 0)) 24)).heap.size = w.heap.size + 1 + 1 := by simp
  have HA := hide hA
  have HbA := hide hbA
  have HsX := hide hsX
  clear tabs hiP cW cS e1 hA hbA hsX
  go_enter Tryd.func30, Tryd.ntmps30
  go_wp2
  rw [zero84]
  go_loopw [8, 9, 10] (fun _ _ i wr => ∃ k : Nat, k ≤ 32 ∧ i = .int .i64 (k : Int) ∧ wr.heap[w.heap.size + 1 + 1]? = some (.cells (bc (pubs seed index (2 * k) ++ List.replicate (2048 - 32 * (2 * k)) 0)) 84 (0, 0)) ∧ Below (w.heap.size + 1 + 1) ((w.alloc (.cells (bc seed) 24)).alloc (.cells (bc (List.replicate 32 0)) 24)) wr) (fun _ _ i _ => 32 - (intOf i).toNat)
  case atStart =>
    refine ⟨0, by omega, rfl, ?_, ?_⟩
    · have := al1 ((w.alloc (.cells (bc seed) 24)).alloc (.cells (bc (List.replicate 32 0)) 24)) (.cells (bc (List.replicate 2048 0)) 84)
      rw [unhide HsX] at this
      exact this
    · have := (Below.refl ((w.alloc (.cells (bc seed) 24)).alloc (.cells (bc (List.replicate 32 0)) 24)).heap.size ((w.alloc (.cells (bc seed) 24)).alloc (.cells (bc (List.replicate 32 0)) 24))).alloc (Nat.le_refl _) (.cells (bc (List.replicate 2048 0)) 84)
      rw [unhide HsX] at this
      exact this
  case round =>
    obtain ⟨k, hk, rfl, q, hb⟩ := hrel
    by_cases hlt : k < 32
    · have hd1 : decide ((k : Int) < 32) = true := by simp; omega
      have Q := hide q
      have HB := hide hb
      clear q hb
      go_wp2
      go_loopw [9, 13] (fun _ b wr2 => ∃ j : Nat, j ≤ 2 ∧ b = .int .i64 (j : Int) ∧ wr2.heap[w.heap.size + 1 + 1]? = some (.cells (bc (pubs seed index (2 * k + j) ++ List.replicate (2048 - 32 * (2 * k + j)) 0)) 84 (0, 0)) ∧ Below (w.heap.size + 1 + 1) ((w.alloc (.cells (bc seed) 24)).alloc (.cells (bc (List.replicate 32 0)) 24)) wr2) (fun _ b _ => 2 - (intOf b).toNat)
      case atStart => exact ⟨0, by omega, rfl, unhide Q, unhide HB⟩
      case round =>
        clear Q HB
        obtain ⟨j, hj, rfl, q, hb⟩ := hrel
        by_cases hjl : j < 2
        · have hd2 : decide ((j : Int) < 2) = true := by simp; omega
          have hput := unhide HPut k j hlt hjl
          have hll : (pubs seed index (2 * k + j) ++ List.replicate (2048 - 32 * (2 * k + j)) 0).length = 2048 := by
            rw [List.length_append, pubs_length, List.length_replicate]; omega
          have hw : Below w.heap.size w wr := (unhide HbA).trans (hb.mono (by omega))
          have tb := (unhide HT).below hw (Nat.le_refl _)
          have hz : w.heap.size + 1 + 1 < wr.heap.size := (Array.getElem?_eq_some_iff.1 q).1
          have kS : Hid (∀ dd os, Calls Tryd.prog 24 #[.pointer none, .agg (bc seed), .int .i64 x, .int .i64 (k : Int), .int .i64 (j : Int)] (Sort.grow (redrawn wr dd) os) fun e w'' => e = .returned (.agg (bc (pSecret seed index k j))) ∧ ∃ p : Regrown, w'' = Sort.grow (redrawn wr p.d) p.os) := fun dd os => Calls.regrown_of (unhide CS k j (by omega) (by omega) _ (tb.below (below_regrown wr dd os) (Nat.le_refl _)))
          have kP : Hid (∀ dd os, Calls Tryd.prog 28 #[.pointer none, .agg (bc (pSecret seed index k j))] (Sort.grow (redrawn wr dd) os) fun e w'' => e = .returned (.agg (bc (pPublic (pSecret seed index k j)))) ∧ ∃ p : Regrown, w'' = Sort.grow (redrawn wr p.d) p.os) := fun dd os => Calls.regrown_of (public_calls _ (pSecret_length _ _ _ _) _ (tb.below (below_regrown wr dd os) (Nat.le_refl _)))
          have q0 := Below.at hb (by omega) (unhide HA).1
          have rowD : Hid (∀ w', (∃ p : Regrown, w' = Sort.grow (redrawn wr p.d) p.os) → w'.heap[w.heap.size]? = some (.cells (bc seed) 24 (0, 0))) := fun w' ⟨p, hp⟩ => by
            rw [hp]; exact Below.at (below_regrown wr p.d p.os) (by omega) q0
          have hDl : (pPublic (pSecret seed index k j)).length = 32 := pPublic_length _
          have hi2 := digInfo (pPublic (pSecret seed index k j)) hDl
          generalize pPublic (pSecret seed index k j) = PD at *
          generalize pSecret seed index k j = SD at *
          generalize pubs seed index (2 * k + j) ++ List.replicate (2048 - 32 * (2 * k + j)) 0 = L at *
          have b1 : (0 : Int) ≤ k ∧ (k : Int) < 32 := by omega
          have b2 : (0 : Int) ≤ j ∧ (j : Int) < 2 := by omega
          have Q := hide q
          have HB := hide hb
          have HPt := hide hput
          clear q hb hput tb hw q0
          go_wp2_with fail
          refine wp_region_below_tail 12 mixed (by kernel_rfl) ?_
          simp only [List.take_succ_cons, List.take_zero, List.drop_succ_cons, List.drop_zero]
          quiet_step (fail)
          quiet_step (fail)
          quiet_step (fail)
          quiet_step (fail)
          refine wpQuiet_load_row rfl 24 (.tmp 4) rfl w.heap.size rfl 24 _ (0, 0) _ (unhide rowD) Tryd.underlying24 rfl hi0 ?_
          quiet_step (fail)
          quiet_step (fail)
          quiet_step (fail)
          quiet_step (exact unhide kS _ _)
          quiet_step (exact unhide kP _ _)
          quiet_step (fail)
          quiet_step (fail)
          refine wpQuiet_nil ?_
          intro w3 hb3
          have q3 := Below.at hb3 hz (unhide Q)
          have hb5 := (unhide HB).trans (hb3.mono (Nat.le_of_lt hz))
          clear hb3
          go_wp2_with (refine wpList_store_at rfl 24 (.tmp 27) (.tmp 25) rfl (w.heap.size + 1 + 1) (k * 64 + j * 32) L PD 84 rfl rfl q3 (by rw [hDl, hll]; omega) hi2 ?_; intro w4 q4 ho4 hs4 hb4)
          rw [unhide HPt] at q4
          have hb6 := hb5.trans (hb4 _ (Nat.le_refl _))
          have Q4 := hide q4
          have HB6 := hide hb6
          clear q4 ho4 hs4 hb4 hb5 q3 hb6
          go_wp2
          go_roundw
          case rel => exact ⟨j + 1, by omega, by go_num, unhide Q4, unhide HB6⟩
          case measure => simp [intOf]; omega
        · have hd2 : decide ((j : Int) < 2) = false := by simp; omega
          have hj2 : j = 2 := by omega
          subst hj2
          have Q := hide q
          have HB := hide hb
          clear q hb
          go_wp2
          go_roundw
          case rel => exact ⟨k + 1, by omega, by go_num, unhide Q, unhide HB⟩
          case measure => simp [intOf]; omega
    · have hd1 : decide ((k : Int) < 32) = false := by simp; omega
      have hk32 : k = 32 := by omega
      subst hk32
      have ee : pubs seed index (2 * 32) ++ List.replicate (2048 - 32 * (2 * 32)) 0 = pubs seed index 64 := by simp
      rw [ee] at q
      have hiP := unhide HiP
      have cW := unhide CW
      have hw : Below w.heap.size w wr := (unhide HbA).trans (hb.mono (by omega))
      have tb := (unhide HT).below hw (Nat.le_refl _)
      have hz : w.heap.size + 1 + 1 < wr.heap.size := (Array.getElem?_eq_some_iff.1 q).1
      have q1 := Below.at hb (by omega) (unhide HA).2
      generalize pubs seed index 64 = L at *
      have CW2 := hide cW
      clear hb ee CW cW CS HPut
      go_wp2_with (refine wpList_load_row rfl 84 (.tmp 7) rfl (w.heap.size + 1 + 1) rfl 84 _ (0, 0) _ q Tryd.underlying84 rfl hiP ?_)
      refine (unhide CW2 _ tb).mono ?_
      rintro e w3 ⟨rfl, b3⟩
      have q3 := Below.at b3 (by omega) q1
      have hw3 := hw.trans (b3.mono (by omega))
      clear b3 q1 q tb
      go_wp2_with (refine wpList_store_row rfl 24 (.tmp 6) (.tmp 32) rfl (w.heap.size + 1) _ rfl rfl 24 _ q3 hi1 hz1 ho1 ?_)
      exact bodyPost_ret (results_cell_row rfl _ _ (w.heap.size + 1) _ _ _ _ rfl (setRow_heap _ _ _ _ _ _ q3) Tryd.underlying24 rfl hi1) rfl ⟨rfl, below_setRow hw3 (by omega) _⟩
end Go.Proofs.YtkfhbdcoplemgaaDoor
