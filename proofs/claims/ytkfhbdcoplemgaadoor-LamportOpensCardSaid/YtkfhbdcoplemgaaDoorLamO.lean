/-
  WHAT lamport's Opened RETURNS of thirty-two of each, where there is no log.
-/
import Derived.Test.YtkfhbdcoplemgaaDoorLamS
import Derived.Test.YtkfhbdcoplemgaaDoorQuietMid
namespace Go.Proofs.YtkfhbdcoplemgaaDoor
open Go Go.RowKit
set_option linter.unusedSimpArgs false
set_option linter.unusedVariables false

def chunk (L : List UInt8) (i : Nat) : List UInt8 := (L.drop (32 * i)).take 32
theorem chunk_length (L : List UInt8) (i : Nat) (h : 32 * (i + 1) ≤ L.length) : (chunk L i).length = 32 := by unfold chunk; rw [List.length_take, List.length_drop]; omega
/-- The publics of a place, as a signature tells them. -/
def openAt (d P O : List UInt8) (i : Nat) : List UInt8 := if pBit d i = 0 then pPublic (chunk P i) ++ chunk O i else chunk O i ++ pPublic (chunk P i)
def pOpen (d P O : List UInt8) (k : Nat) : List UInt8 := (List.range k).flatMap (openAt d P O)
theorem openAt_length (d P O : List UInt8) (i : Nat) (h : 32 * (i + 1) ≤ O.length) : (openAt d P O i).length = 64 := by
  have := chunk_length O i h
  unfold openAt; split <;> rw [List.length_append, pPublic_length, this]
theorem pOpen_length (d P O : List UInt8) : ∀ k, 32 * k ≤ O.length → (pOpen d P O k).length = 64 * k
  | 0, _ => rfl
  | k + 1, h => by
    have ih := pOpen_length d P O k (by omega)
    unfold pOpen at ih ⊢
    rw [List.range_succ, List.flatMap_append, List.length_append, ih]
    simp [openAt_length d P O k h]; omega
theorem pOpen_succ (d P O : List UInt8) (k : Nat) : pOpen d P O (k + 1) = pOpen d P O k ++ openAt d P O k := by
  unfold pOpen; rw [List.range_succ, List.flatMap_append]; simp
/-- Two digests written over noughts, one at each half of a place. -/
theorem put_two (A X Y : List UInt8) (n b : Nat) (hb : b < 2) (k : Nat) (hA : A.length = 64 * k) (hX : X.length = 32) (hY : Y.length = 32) (hn : 64 ≤ n) :
    putAt (putAt (A ++ List.replicate n 0) (k * 64 + b * 32) X) (k * 64 + (1 - b) * 32) Y = A ++ (if b = 0 then X ++ Y else Y ++ X) ++ List.replicate (n - 64) 0 := by
  have hr : List.replicate n (0 : UInt8) = List.replicate 32 0 ++ List.replicate 32 0 ++ List.replicate (n - 64) 0 := by
    rw [List.replicate_append_replicate, List.replicate_append_replicate]; congr 1; omega
  rw [hr]
  generalize hz : List.replicate 32 (0 : UInt8) = Z
  have hZ : Z.length = 32 := by rw [← hz]; simp
  generalize List.replicate (n - 64) (0 : UInt8) = R
  have key : ∀ (A U V W : List UInt8) (o : Nat), o = A.length → V.length = U.length → putAt (A ++ (U ++ W)) o V = A ++ (V ++ W) := by
    intro A U V W o ho hV
    subst ho
    unfold putAt
    rw [List.take_left, ← List.drop_drop, List.drop_left, hV, List.drop_left, List.append_assoc]
  match b, hb with
  | 0, _ =>
    rw [if_pos rfl]
    rw [show A ++ (Z ++ Z ++ R) = A ++ (Z ++ (Z ++ R)) by simp, key A Z X (Z ++ R) _ (by omega) (by omega), show A ++ (X ++ (Z ++ R)) = (A ++ X) ++ (Z ++ R) by simp,
      key (A ++ X) Z Y R _ (by rw [List.length_append]; omega) (by omega)]
    simp
  | 1, _ =>
    rw [if_neg (by decide)]
    rw [show A ++ (Z ++ Z ++ R) = (A ++ Z) ++ (Z ++ R) by simp, key (A ++ Z) Z X R _ (by rw [List.length_append]; omega) (by omega), show (A ++ Z) ++ (X ++ R) = A ++ (Z ++ (X ++ R)) by simp,
      key A Z Y (X ++ R) _ (by omega) (by omega)]
    simp
theorem open_put (d P O : List UInt8) (k : Nat) (hk : k < 32) (hO : O.length = 1024) :
    putAt (putAt (pOpen d P O k ++ List.replicate (2048 - 64 * k) 0) (k * 64 + pBit d k * 32) (pPublic (chunk P k))) (k * 64 + (1 - pBit d k) * 32) (chunk O k) = pOpen d P O (k + 1) ++ List.replicate (2048 - 64 * (k + 1)) 0 := by
  rw [put_two _ _ _ _ _ (pBit_lt d k) k (pOpen_length d P O k (by omega)) (pPublic_length _) (chunk_length O k (by omega)) (by omega), pOpen_succ]
  rw [show 2048 - 64 * k - 64 = 2048 - 64 * (k + 1) by omega]
  rfl
theorem bytes_range {w : World} {g off : Nat} {L : List UInt8} (h : Bytes w g off L) (k : Nat) (hk : 32 * (k + 1) ≤ L.length) : w.rangeAt g (off + k * 32) (Lib.byteCells (chunk L k)) := fun i v hv => by
  have hcl := chunk_length L k hk
  have hi : i < 32 := by
    have := (List.getElem?_eq_some_iff.1 hv).1
    rw [Lib.byteCells_length] at this; omega
  have h1 := h (k * 32 + i) (by omega)
  have e : L.getD (k * 32 + i) 0 = (chunk L k).getD i 0 := by
    unfold chunk
    rw [List.getD_eq_getElem?_getD, List.getD_eq_getElem?_getD, List.getElem?_take, if_pos hi, List.getElem?_drop, Nat.mul_comm]
  have hv' : v = .int .u8 (((chunk L k).getD i 0).toNat : Int) := by
    have := bc_at (chunk L k) i (by omega)
    unfold bc at this
    rw [List.getElem?_toArray, hv] at this
    exact Option.some.inj this
  rw [Nat.add_assoc, h1, e, hv']
set_option maxHeartbeats 4000000 in
set_option maxRecDepth 100000 in
theorem opened_calls (d : List UInt8) (hd : d.length = 32) (P O : List UInt8) (hP : P.length = 1024) (hO : O.length = 1024) (g1 o1 c1 g2 o2 c2 : Nat) (w : World) (hg1 : g1 < w.heap.size) (hg2 : g2 < w.heap.size) (bP : Bytes w g1 o1 P) (bO : Bytes w g2 o2 O) (tabs : Tabs w) :
    Calls Tryd.prog 34 #[.pointer none, .agg (bc d), .slice (some ⟨g1, o1, none⟩) 32 c1, .slice (some ⟨g2, o2, none⟩) 32 c2] w fun e w' => e = .returned (.tuple #[.agg (bc (pWordOf (pOpen d P O 32))), .bool true]) ∧ Below w.heap.size w w' := by
  have hLL : (pOpen d P O 32).length = 2048 := pOpen_length d P O 32 (by omega)
  have hW : (pWordOf (pOpen d P O 32)).length = 32 := pOf_length _ _
  have hi1 := digInfo (pWordOf (pOpen d P O 32)) hW
  have hz1 := zeroSize (pWordOf (pOpen d P O 32)) hW
  have ho1 := bc_oneCell (pWordOf (pOpen d P O 32))
  have hi0 := digInfo d hd
  have cW := fun w tabs => wordOf_calls (pOpen d P O 32) hLL w tabs
  have hiP := pubsInfo (pOpen d P O 32) hLL
  have cB := fun i hi w => bit_calls d hd i hi w
  have HPut := hide fun k hk => open_put d P O k hk hO
  generalize pWordOf (pOpen d P O 32) = D at *
  have HT := hide tabs
  have HiP := hide hiP
  have CW := hide cW
  have CB := hide cB
  have HbP := hide bP
  have HbO := hide bO
  have hA := al2 w (.cells (bc d) 24) (.cells (bc (List.replicate 32 0)) 24)
  have hbA := bel2 w (.cells (bc d) 24) (.cells (bc (List.replicate 32 0)) 24)
  have hsX : ((w.alloc (.cells (bc d) 24)).alloc (.cells (bc (List.replicate 32 0)) 24)).heap.size = w.heap.size + 1 + 1 := by simp
  have HA := hide hA
  have HbA := hide hbA
  have HsX := hide hsX
  clear tabs hiP cW cB hA hbA hsX bP bO hLL
  go_enter Tryd.func34, Tryd.ntmps34
  go_wp2
  rw [zero84]
  go_loopw [11, 12, 22] (fun _ _ i wr => ∃ k : Nat, k ≤ 32 ∧ i = .int .i64 (k : Int) ∧ wr.heap[w.heap.size + 1 + 1]? = some (.cells (bc (pOpen d P O k ++ List.replicate (2048 - 64 * k) 0)) 84 (0, 0)) ∧ Below (w.heap.size + 1 + 1) ((w.alloc (.cells (bc d) 24)).alloc (.cells (bc (List.replicate 32 0)) 24)) wr) (fun _ _ i _ => 32 - (intOf i).toNat)
  case atStart =>
    refine ⟨0, by omega, rfl, ?_, ?_⟩
    · have := al1 ((w.alloc (.cells (bc d) 24)).alloc (.cells (bc (List.replicate 32 0)) 24)) (.cells (bc (List.replicate 2048 0)) 84)
      rw [unhide HsX] at this
      exact this
    · have := (Below.refl ((w.alloc (.cells (bc d) 24)).alloc (.cells (bc (List.replicate 32 0)) 24)).heap.size ((w.alloc (.cells (bc d) 24)).alloc (.cells (bc (List.replicate 32 0)) 24))).alloc (Nat.le_refl _) (.cells (bc (List.replicate 2048 0)) 84)
      rw [unhide HsX] at this
      exact this
  case round =>
    obtain ⟨k, hk, rfl, q, hb⟩ := hrel
    have hw : Below w.heap.size w wr := (unhide HbA).trans (hb.mono (by omega))
    have tb := (unhide HT).below hw (Nat.le_refl _)
    have hz : w.heap.size + 1 + 1 < wr.heap.size := (Array.getElem?_eq_some_iff.1 q).1
    by_cases hlt : k < 32
    · have hd1 : decide ((k : Int) < 32) = true := by simp; omega
      have hput := unhide HPut k hlt
      have hll : (pOpen d P O k ++ List.replicate (2048 - 64 * k) 0).length = 2048 := by
        rw [List.length_append, pOpen_length d P O k (by omega), List.length_replicate]; omega
      have p1 := Below.at hb (by omega) (unhide HA).1
      have cB := fun w => unhide CB k (by omega) w
      have hbt := pBit_lt d k
      have hcl1 := chunk_length P k (by omega)
      have hcl2 := chunk_length O k (by omega)
      have cP := fun w tabs => public_calls (chunk P k) hcl1 w tabs
      have hpl : (pPublic (chunk P k)).length = 32 := pPublic_length _
      have hi2 := digInfo (pPublic (chunk P k)) hpl
      have hi3 := digInfo (chunk O k) hcl2
      have rP := bytes_range ((unhide HbP).below hw hg1) k (by omega)
      have rO := bytes_range ((unhide HbO).below hw hg2) k (by omega)
      have m1 : (1 : Int) - ((pBit d k : Nat) : Int) = ((1 - pBit d k : Nat) : Int) := by omega
      have hb2t : 1 - pBit d k < 2 := by omega
      have bk : (0 : Int) ≤ k ∧ (k : Int) < 32 := by omega
      have b1 : (0 : Int) ≤ ((pBit d k : Nat) : Int) ∧ ((pBit d k : Nat) : Int) < 2 := by omega
      have b2 : (0 : Int) ≤ ((1 - pBit d k : Nat) : Int) ∧ ((1 - pBit d k : Nat) : Int) < 2 := by omega
      generalize pOpen d P O k ++ List.replicate (2048 - 64 * k) 0 = L at *
      generalize pPublic (chunk P k) = PD at *
      generalize chunk P k = PC at *
      generalize chunk O k = OC at *
      generalize 1 - pBit d k = bb at *
      generalize pBit d k = ba at *
      have mw : IntKind.i64.wrap (bb : Int) = (bb : Int) := wrap_small _ (by omega) (by omega)
      have HPt := hide hput
      have KB := hide cB
      have KP := hide cP
      have RP := hide rP
      have RO := hide rO
      clear hput cB cP rP rO
      go_wp2_with (refine wpList_load_row rfl 24 (.tmp 5) rfl w.heap.size rfl 24 _ (0, 0) _ p1 Tryd.underlying24 rfl hi0 ?_)
      refine (unhide KB _).mono ?_
      rintro e w2 ⟨rfl, b2'⟩
      have q2 := Below.at b2' hz q
      have hb2 := hb.trans (b2'.mono (by omega))
      have tb2 := tb.below b2' (Nat.le_refl _)
      have z2 : w.heap.size + 1 + 1 < w2.heap.size := Nat.lt_of_lt_of_le hz b2'.size
      have kP : Hid (∀ dd os, Calls Tryd.prog 28 #[.pointer none, .agg (bc PC)] (Sort.grow (redrawn w2 dd) os) fun e w'' => e = .returned (.agg (bc PD)) ∧ ∃ p : Regrown, w'' = Sort.grow (redrawn w2 p.d) p.os) := fun dd os => Calls.regrown_of (unhide KP _ (tb2.below (below_regrown w2 dd os) (Nat.le_refl _)))
      have rowP : Hid (∀ w', (∃ p : Regrown, w' = Sort.grow (redrawn w2 p.d) p.os) → w'.rangeAt g1 (o1 + k * 32) (Lib.byteCells PC)) := fun w' ⟨p, hp⟩ j v hv => by
        rw [hp, (below_regrown w2 p.d p.os).cell (p := ⟨g1, o1 + k * 32 + j, none⟩) (by show g1 < _; omega), b2'.cell (p := ⟨g1, o1 + k * 32 + j, none⟩) (by show g1 < _; omega)]
        exact unhide RP j v hv
      have HQ2 := hide q2
      have HB2 := hide hb2
      have RO2 : Hid (w2.rangeAt g2 (o2 + k * 32) (Lib.byteCells OC)) := fun j v hv => by
        rw [b2'.cell (p := ⟨g2, o2 + k * 32 + j, none⟩) (by show g2 < _; omega)]
        exact unhide RO j v hv
      clear p1 q hb tb b2' hw hz tb2 q2 hb2 RP RO
      go_wp2_with fail
      refine wp_region_below_tail 10 mixed (by kernel_rfl) ?_
      simp only [List.take_succ_cons, List.take_zero, List.drop_succ_cons, List.drop_zero]
      quiet_step (fail)
      quiet_step (fail)
      quiet_step (fail)
      quiet_step (fail)
      quiet_step (fail)
      quiet_step (fail)
      refine wpQuiet_load_mid rfl 24 (.tmp 33) rfl g1 (o1 + k * 32) rfl (Lib.byteCells PC) _ (unhide rowP) Tryd.underlying24 rfl (by rw [Lib.byteCells_length, hcl1]; kernel_rfl) ?_
      quiet_step (exact unhide kP _ _)
      quiet_step (fail)
      quiet_step (fail)
      refine wpQuiet_nil ?_
      intro w3 hb3
      have q3 := Below.at hb3 z2 (unhide HQ2)
      have hb3' := (unhide HB2).trans (hb3.mono (by omega))
      have z3 : w.heap.size + 1 + 1 < w3.heap.size := Nat.lt_of_lt_of_le z2 hb3.size
      have RO3 : Hid (w3.rangeAt g2 (o2 + k * 32) (Lib.byteCells OC)) := fun j v hv => by
        rw [hb3.cell (p := ⟨g2, o2 + k * 32 + j, none⟩) (by show g2 < _; omega)]
        exact unhide RO2 j v hv
      clear hb3 HQ2 HB2 RO2 z2 kP rowP
      go_wp2_with (refine wpList_store_at rfl 24 (.tmp 37) (.tmp 35) rfl (w.heap.size + 1 + 1) (k * 64 + ba * 32) L PD 84 rfl rfl q3 (by rw [hpl, hll]; omega) hi2 ?_; intro w4 q4 ho4 hs4 hb4)
      have hb4' := hb3'.trans (hb4 _ (Nat.le_refl _))
      have z4 : w.heap.size + 1 + 1 < w4.heap.size := by omega
      have rowO : Hid (∀ w', (∃ p : Regrown, w' = Sort.grow (redrawn w4 p.d) p.os) → w'.rangeAt g2 (o2 + k * 32) (Lib.byteCells OC)) := fun w' ⟨p, hp⟩ j v hv => by
        rw [hp, (below_regrown w4 p.d p.os).cell (p := ⟨g2, o2 + k * 32 + j, none⟩) (by show g2 < _; omega), (hb4 _ (Nat.le_refl _)).cell (p := ⟨g2, o2 + k * 32 + j, none⟩) (by show g2 < _; omega)]
        exact unhide RO3 j v hv
      have HQ4 := hide q4
      have HB4 := hide hb4'
      clear q3 hb3' z3 RO3 q4 ho4 hs4 hb4 hb4'
      go_frame
      refine wp_region_below_tail 9 mixed (by kernel_rfl) ?_
      simp only [List.take_succ_cons, List.take_zero, List.drop_succ_cons, List.drop_zero]
      quiet_step (fail)
      quiet_step (fail)
      quiet_step (fail)
      quiet_step (fail)
      quiet_step (fail)
      quiet_step (fail)
      refine wpQuiet_load_mid rfl 24 (.tmp 43) rfl g2 (o2 + k * 32) rfl (Lib.byteCells OC) _ (unhide rowO) Tryd.underlying24 rfl (by rw [Lib.byteCells_length, hcl2]; kernel_rfl) ?_
      quiet_step (fail)
      quiet_step (fail)
      refine wpQuiet_nil ?_
      intro w5 hb5
      have q5 := Below.at hb5 z4 (unhide HQ4)
      have hb5' := (unhide HB4).trans (hb5.mono (by omega))
      have hll2 : (putAt L (k * 64 + ba * 32) PD).length = 2048 := by rw [putAt_length _ _ _ (by rw [hpl, hll]; omega), hll]
      clear hb5 HQ4 HB4 rowO
      go_wp2_with (refine wpList_store_at rfl 24 (.tmp 46) (.tmp 44) rfl (w.heap.size + 1 + 1) (k * 64 + bb * 32) (putAt L (k * 64 + ba * 32) PD) OC 84 rfl rfl q5 (by rw [hcl2, hll2]; omega) hi3 ?_; intro w6 q6 ho6 hs6 hb6)
      rw [unhide HPt] at q6
      have hb7 := hb5'.trans (hb6 _ (Nat.le_refl _))
      have Q6 := hide q6
      have HB7 := hide hb7
      clear q5 hb5' q6 ho6 hs6 hb6 hb7
      go_wp2
      go_roundw
      case rel => exact ⟨k + 1, by omega, by go_num, unhide Q6, unhide HB7⟩
      case measure => simp [intOf]; omega
    · have hd1 : decide ((k : Int) < 32) = false := by simp; omega
      have hk32 : k = 32 := by omega
      subst hk32
      have ee : pOpen d P O 32 ++ List.replicate (2048 - 64 * 32) 0 = pOpen d P O 32 := by simp
      rw [ee] at q
      have hiP := unhide HiP
      have cW := unhide CW
      have q1 := Below.at hb (by omega) (unhide HA).2
      generalize pOpen d P O 32 = L at *
      have CW2 := hide cW
      clear hb ee CW cW CB HPut
      go_wp2_with (refine wpList_load_row rfl 84 (.tmp 10) rfl (w.heap.size + 1 + 1) rfl 84 _ (0, 0) _ q Tryd.underlying84 rfl hiP ?_)
      refine (unhide CW2 _ tb).mono ?_
      rintro e w3 ⟨rfl, b3⟩
      have q3 := Below.at b3 (by omega) q1
      have hw3 := hw.trans (b3.mono (by omega))
      clear b3 q1 q tb
      go_wp2_with (refine wpList_store_row rfl 24 (.tmp 8) (.tmp 50) rfl (w.heap.size + 1) _ rfl rfl 24 _ q3 hi1 hz1 ho1 ?_)
      exact bodyPost_ret (results_row_tmp rfl _ _ (w.heap.size + 1) _ _ _ _ rfl (setRow_heap _ _ _ _ _ _ q3) Tryd.underlying24 rfl hi1) rfl ⟨rfl, below_setRow hw3 (by omega) _⟩
end Go.Proofs.YtkfhbdcoplemgaaDoor
