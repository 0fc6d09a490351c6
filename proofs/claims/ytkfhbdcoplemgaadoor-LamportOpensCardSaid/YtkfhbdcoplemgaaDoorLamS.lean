/-
  WHAT lamport's Sign RETURNS, where there is no log.
-/
import Derived.Test.YtkfhbdcoplemgaaDoorLamC
import Derived.Test.YtkfhbdcoplemgaaDoorMakeDig
namespace Go.Proofs.YtkfhbdcoplemgaaDoor
open Go Go.RowKit
set_option linter.unusedSimpArgs false
set_option linter.unusedVariables false

def partAt (seed : List UInt8) (index : Nat) (d : List UInt8) (i : Nat) : List UInt8 := pSecret seed index i (pBit d i)
def otherAt (seed : List UInt8) (index : Nat) (d : List UInt8) (i : Nat) : List UInt8 := pPublic (pSecret seed index i (1 - pBit d i))
def pParts (seed : List UInt8) (index : Nat) (d : List UInt8) (k : Nat) : List UInt8 := (List.range k).flatMap (partAt seed index d)
def pOthers (seed : List UInt8) (index : Nat) (d : List UInt8) (k : Nat) : List UInt8 := (List.range k).flatMap (otherAt seed index d)
theorem pParts_length (seed : List UInt8) (index : Nat) (d : List UInt8) (k : Nat) : (pParts seed index d k).length = 32 * k := flat32 _ (fun j => pSecret_length _ _ _ _) k
theorem pOthers_length (seed : List UInt8) (index : Nat) (d : List UInt8) (k : Nat) : (pOthers seed index d k).length = 32 * k := flat32 _ (fun j => pPublic_length _) k
theorem flat_put (f : Nat → List UInt8) (hf : ∀ j, (f j).length = 32) (k : Nat) (hk : k < 32) : putAt ((List.range k).flatMap f ++ List.replicate (1024 - 32 * k) 0) (k * 32) (f k) = (List.range (k + 1)).flatMap f ++ List.replicate (1024 - 32 * (k + 1)) 0 := by
  rw [putAt_zeros _ _ _ _ (by rw [flat32 f hf]; omega) (by rw [hf]; omega), hf, List.range_succ, List.flatMap_append]
  rw [show 1024 - 32 * k - 32 = 1024 - 32 * (k + 1) by omega]
  simp
set_option maxHeartbeats 4000000 in
set_option maxRecDepth 100000 in
theorem sign_calls (seed : List UInt8) (hs : seed.length = 32) (d : List UInt8) (hd : d.length = 32) (x : Int) (index : Nat) (hx : x % 4294967296 = (index : Int)) (w : World) (tabs : Tabs w) :
    Calls Tryd.prog 32 #[.pointer none, .agg (bc seed), .int .i64 x, .agg (bc d)] w fun e w' => ∃ g : Nat, w.heap.size ≤ g ∧ e = .returned (.tuple #[.slice (some ⟨g, 0, none⟩) 32 32, .slice (some ⟨g + 1, 0, none⟩) 32 32]) ∧ Below w.heap.size w w' ∧ w'.heap[g]? = some (.cells (bc (pParts seed index d 32)) 24 (0, 0)) ∧ w'.heap[g + 1]? = some (.cells (bc (pOthers seed index d 32)) 24 (0, 0)) := by
  have hi0 := digInfo seed hs
  have hi1 := digInfo d hd
  have cS := fun i b hi hb w tabs => secret_calls seed hs x index i b hx hi hb w tabs
  have cB := fun i hi w => bit_calls d hd i hi w
  have HPut := hide (flat_put (partAt seed index d) (fun j => pSecret_length _ _ _ _))
  have HPuo := hide (flat_put (otherAt seed index d) (fun j => pPublic_length _))
  have mk : ∀ w, (Instr.makeSlice 54 (.int .i64 32) (.int .i64 32)).run Tryd.prog w = .ok (.slice (some ⟨w.heap.size, 0, none⟩) 32 32) (w.alloc (.cells (bc (List.replicate (32 * 32) 0)) 24)) := fun w => make_digests 32 (by omega) w
  have HT := hide tabs
  have CS := hide cS
  have CB := hide cB
  have hA := al2 w (.cells (bc seed) 24) (.cells (bc d) 24)
  have hbA := bel2 w (.cells (bc seed) 24) (.cells (bc d) 24)
  have hsX : ((w.alloc (.cells (bc seed) 24)).alloc (.cells (bc d) 24)).heap.size = w.heap.size + 1 + 1 := by simp
  have hA2 := al2 ((w.alloc (.cells (bc seed) 24)).alloc (.cells (bc d) 24)) (.cells (bc (List.replicate (32 * 32) 0)) 24) (.cells (bc (List.replicate (32 * 32) 0)) 24)
  have hbA2 := bel2 ((w.alloc (.cells (bc seed) 24)).alloc (.cells (bc d) 24)) (.cells (bc (List.replicate (32 * 32) 0)) 24) (.cells (bc (List.replicate (32 * 32) 0)) 24)
  rw [hsX] at hA2 hbA2
  have HA := hide hA
  have HbA := hide hbA
  have HA2 := hide hA2
  have HbA2 := hide hbA2
  clear tabs cS cB hA hbA hsX hA2 hbA2
  go_enter Tryd.func32, Tryd.ntmps32
  go_wp2
  go_loopw [12, 13, 16] (fun _ _ i wr => ∃ k : Nat, k ≤ 32 ∧ i = .int .i64 (k : Int) ∧ wr.heap[w.heap.size + 1 + 1]? = some (.cells (bc (pParts seed index d k ++ List.replicate (1024 - 32 * k) 0)) 24 (0, 0)) ∧ wr.heap[w.heap.size + 1 + 1 + 1]? = some (.cells (bc (pOthers seed index d k ++ List.replicate (1024 - 32 * k) 0)) 24 (0, 0)) ∧ Below (w.heap.size + 1 + 1) ((w.alloc (.cells (bc seed) 24)).alloc (.cells (bc d) 24)) wr) (fun _ _ i _ => 32 - (intOf i).toNat)
  case atStart => exact ⟨0, by omega, rfl, (unhide HA2).1, (unhide HA2).2, unhide HbA2⟩
  case round =>
    clear HA2 HbA2 mk
    obtain ⟨k, hk, rfl, q1, q2, hb⟩ := hrel
    by_cases hlt : k < 32
    · have hd1 : decide ((k : Int) < 32) = true := by simp; omega
      have hput := unhide HPut k hlt
      have hpuo := unhide HPuo k hlt
      have hl1 : (pParts seed index d k ++ List.replicate (1024 - 32 * k) 0).length = 1024 := by rw [List.length_append, pParts_length, List.length_replicate]; omega
      have hl2 : (pOthers seed index d k ++ List.replicate (1024 - 32 * k) 0).length = 1024 := by rw [List.length_append, pOthers_length, List.length_replicate]; omega
      have hw : Below w.heap.size w wr := (unhide HbA).trans (hb.mono (by omega))
      have tb := (unhide HT).below hw (Nat.le_refl _)
      have hz : w.heap.size + 1 + 1 + 1 < wr.heap.size := (Array.getElem?_eq_some_iff.1 q2).1
      have p0 := Below.at hb (by omega) (unhide HA).1
      have p1 := Below.at hb (by omega) (unhide HA).2
      have cB := fun w => unhide CB k (by omega) w
      have hbt := pBit_lt d k
      have cS1 := fun w tabs => unhide CS k (pBit d k) (by omega) (by omega) w tabs
      have cS2 := fun w tabs => unhide CS k (1 - pBit d k) (by omega) (by omega) w tabs
      have cP := fun w tabs => public_calls (pSecret seed index k (1 - pBit d k)) (pSecret_length _ _ _ _) w tabs
      have hD1 : (partAt seed index d k).length = 32 := pSecret_length _ _ _ _
      have hD2 : (otherAt seed index d k).length = 32 := pPublic_length _
      have hi2 := digInfo (partAt seed index d k) hD1
      have hi3 := digInfo (otherAt seed index d k) hD2
      have e1 : pSecret seed index k (pBit d k) = partAt seed index d k := rfl
      have e2 : pPublic (pSecret seed index k (1 - pBit d k)) = otherAt seed index d k := rfl
      have e3 : (List.range k).flatMap (partAt seed index d) = pParts seed index d k := rfl
      have e4 : (List.range k).flatMap (otherAt seed index d) = pOthers seed index d k := rfl
      rw [e1] at cS1
      rw [e2] at cP
      rw [e3] at hput
      rw [e4] at hpuo
      have m1 : (1 : Int) - ((pBit d k : Nat) : Int) = ((1 - pBit d k : Nat) : Int) := by omega
      generalize partAt seed index d k = D1 at *
      generalize otherAt seed index d k = D2 at *
      generalize pSecret seed index k (1 - pBit d k) = S2 at *
      generalize pParts seed index d k ++ List.replicate (1024 - 32 * k) 0 = L1 at *
      generalize pOthers seed index d k ++ List.replicate (1024 - 32 * k) 0 = L2 at *
      generalize 1 - pBit d k = b2 at *
      generalize pBit d k = b1 at *
      have bk : (0 : Int) ≤ k ∧ (k : Int) < 32 := by omega
      have HPt := hide hput
      have HPo := hide hpuo
      have KB := hide cB
      have K1 := hide cS1
      have K2 := hide cS2
      have KP := hide cP
      clear hput hpuo cB cS1 cS2 cP e1 e2 e3 e4
      go_wp2_with (refine wpList_load_row rfl 24 (.tmp 7) rfl (w.heap.size + 1) rfl 24 _ (0, 0) _ p1 Tryd.underlying24 rfl hi1 ?_)
      refine (unhide KB _).mono ?_
      rintro e w2 ⟨rfl, b2'⟩
      have p0' := Below.at b2' (by omega) p0
      have q1' := Below.at b2' (by omega) q1
      have q2' := Below.at b2' (by omega) q2
      have hb2 := hb.trans (b2'.mono (by omega))
      have tb2 := tb.below b2' (Nat.le_refl _)
      have z2 : w.heap.size + 1 + 1 + 1 < w2.heap.size := Nat.lt_of_lt_of_le hz b2'.size
      clear p0 p1 q1 q2 hb tb b2' hw hz
      go_wp2_with (refine wpList_load_row rfl 24 (.tmp 5) rfl w.heap.size rfl 24 _ (0, 0) _ p0' Tryd.underlying24 rfl hi0 ?_)
      refine (unhide K1 _ tb2).mono ?_
      rintro e w3 ⟨rfl, b3⟩
      have p0 := Below.at b3 (by omega) p0'
      have q1 := Below.at b3 (by omega) q1'
      have q2 := Below.at b3 (by omega) q2'
      have hb3 := hb2.trans (b3.mono (by omega))
      have tb3 := tb2.below b3 (Nat.le_refl _)
      have z3 : w.heap.size + 1 + 1 + 1 < w3.heap.size := Nat.lt_of_lt_of_le z2 b3.size
      clear p0' q1' q2' hb2 tb2 b3 z2
      go_wp2_with (first
        | (refine wpList_store_at rfl 24 (.tmp 30) (.tmp 29) rfl (w.heap.size + 1 + 1) (k * 32) L1 D1 24 rfl rfl q1 (by rw [hD1, hl1]; omega) hi2 ?_; intro w4 q4 ho4 hs4 hb4)
        | (refine wpList_load_row rfl 24 (.tmp 5) rfl w.heap.size rfl 24 _ (0, 0) _ ((ho4 _ (by omega)).trans p0) Tryd.underlying24 rfl hi0 ?_))
      rw [unhide HPt] at q4
      have q2' := (ho4 (w.heap.size + 1 + 1 + 1) (by omega)).trans q2
      have p0' := (ho4 w.heap.size (by omega)).trans p0
      have hb4' := hb3.trans (hb4 _ (Nat.le_refl _))
      have z4 : w.heap.size + 1 + 1 + 1 < w4.heap.size := by omega
      have tb4 := (unhide HT).below ((unhide HbA).trans (hb4'.mono (by omega))) (Nat.le_refl _)
      clear q1 q2 p0 hb3 ho4 hs4 hb4 tb3 z3
      refine (unhide K2 _ tb4).mono ?_
      rintro e w5 ⟨rfl, b5⟩
      have q5 := Below.at b5 (by omega) q4
      have r5 := Below.at b5 (by omega) q2'
      have hb5 := hb4'.trans (b5.mono (by omega))
      have tb5 := tb4.below b5 (Nat.le_refl _)
      have z5 : w.heap.size + 1 + 1 + 1 < w5.heap.size := Nat.lt_of_lt_of_le z4 b5.size
      clear q4 q2' p0' hb4' tb4 z4 b5
      go_wp2_with fail
      refine (unhide KP _ tb5).mono ?_
      rintro e w6 ⟨rfl, b6⟩
      have q6 := Below.at b6 (by omega) q5
      have r6 := Below.at b6 (by omega) r5
      have hb6 := hb5.trans (b6.mono (by omega))
      clear q5 r5 hb5 tb5 z5 b6
      go_wp2_with (refine wpList_store_at rfl 24 (.tmp 42) (.tmp 41) rfl (w.heap.size + 1 + 1 + 1) (k * 32) L2 D2 24 rfl rfl r6 (by rw [hD2, hl2]; omega) hi3 ?_; intro w7 q7 ho7 hs7 hb7)
      rw [unhide HPo] at q7
      have r7 := (ho7 (w.heap.size + 1 + 1) (by omega)).trans q6
      have hb8 := hb6.trans (hb7 _ (by omega))
      have Q7 := hide q7
      have R7 := hide r7
      have HB8 := hide hb8
      clear q7 r7 hb8 q6 r6 hb6 ho7 hs7 hb7
      go_wp2
      go_roundw
      case rel => exact ⟨k + 1, by omega, by go_num, unhide R7, unhide Q7, unhide HB8⟩
      case measure => simp [intOf]; omega
    · have hd1 : decide ((k : Int) < 32) = false := by simp; omega
      have hk32 : k = 32 := by omega
      subst hk32
      have e1 : pParts seed index d 32 ++ List.replicate (1024 - 32 * 32) 0 = pParts seed index d 32 := by simp
      have e2 : pOthers seed index d 32 ++ List.replicate (1024 - 32 * 32) 0 = pOthers seed index d 32 := by simp
      rw [e1] at q1
      rw [e2] at q2
      have hw : Below w.heap.size w wr := (unhide HbA).trans (hb.mono (by omega))
      have Q1 := hide q1
      have Q2 := hide q2
      have HW := hide hw
      clear q1 q2 hb hw e1 e2
      go_wp2
      go_ret2
      exact ⟨w.heap.size + 1 + 1, by omega, rfl, unhide HW, unhide Q1, unhide Q2⟩
end Go.Proofs.YtkfhbdcoplemgaaDoor
