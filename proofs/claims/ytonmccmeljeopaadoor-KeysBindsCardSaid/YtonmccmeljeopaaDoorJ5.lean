/-
  WHAT lamport's Sign RETURNS, where there is no log.
-/
/-
  WHAT lamport's Opened RETURNS of thirty-two of each, where there is no log.
-/
/-
  BYTES STORED INTO A BLOCK THAT WAS JUST MADE: the world behind it is a letter of which all is known.
-/
/-
  WHAT THE LAWS OF LAYER 5 LEAN ON: equality of digests; what is signed is opened to the key's word; the chapter's example.
-/
/-
  A SIGNER AS A ROW; WHAT keys' New, whole, isKey, Root RETURN, where there is no log.
-/
/-
  WHAT A SIGNER's Root RETURNS, where there is no log.
-/
/-
  WHAT A SIGNER's path AND Again RETURN, where there is no log.
-/
/-
  WHAT A SIGNER's Again RETURNS for one of its keys, where there is no log.
-/
/-
  WHAT keys' Climb RETURNS, where there is no log.
-/
/-
  WHAT update's Claim AND Halt RETURN, where there is no log.
-/
import Derived.Test.YtonmccmeljeopaaDoorJ4
import Derived.Test.YtonmccmeljeopaaDoorJ3
import Derived.Laws.Tables
namespace Go.Proofs.YtonmccmeljeopaaDoor
open Go Go.RowKit
set_option linter.unusedSimpArgs false
set_option linter.unusedVariables false

def partAt (seed : List UInt8) (index : Nat) (d : List UInt8) (i : Nat) : List UInt8 := pSecret seed index i (pBit d i)
def otherAt (seed : List UInt8) (index : Nat) (d : List UInt8) (i : Nat) : List UInt8 := pPublic (pSecret seed index i (1 - pBit d i))
def pParts (seed : List UInt8) (index : Nat) (d : List UInt8) (k : Nat) : List UInt8 := (List.range k).flatMap (partAt seed index d)
def pOthers (seed : List UInt8) (index : Nat) (d : List UInt8) (k : Nat) : List UInt8 := (List.range k).flatMap (otherAt seed index d)
theorem pParts_length (seed : List UInt8) (index : Nat) (d : List UInt8) (k : Nat) : (pParts seed index d k).length = 32 * k := flat32 _ (fun j => pSecret_length _ _ _ _) k
theorem pOthers_length (seed : List UInt8) (index : Nat) (d : List UInt8) (k : Nat) : (pOthers seed index d k).length = 32 * k := flat32 _ (fun j => pPublic_length _) k
theorem flat_put (f : Nat → List UInt8) (hf : ∀ j, (f j).length = 32) (k : Nat) (hk : k < 32) : putAt ((List.range k).flatMap f ++ List.replicate (1024 - 32 * k) 0) (k * 32) (f k) = (List.range (k + 1)).flatMap f ++ List.replicate (1024 - 32 * (k + 1)) 0 := by
  rw [putAt_zeros _ _ _ _ (by rw [flat32 f hf]; omega) (by rw [hf]; omega), hf, List.range_succ, List.flatMap_append]
  rw [show 1024 - 32 * k - 32 = 1024 - 32 * (k + 1) by omega]
  simp
set_option maxHeartbeats 4000000 in
set_option maxRecDepth 100000 in
theorem sign_calls (seed : List UInt8) (hs : seed.length = 32) (d : List UInt8) (hd : d.length = 32) (x : Int) (index : Nat) (hx : x % 4294967296 = (index : Int)) (w : World) (tabs : Tabs w) :
    Calls Tryd.prog 25 #[.pointer none, .agg (bc seed), .int .i64 x, .agg (bc d)] w fun e w' => ∃ g : Nat, w.heap.size ≤ g ∧ e = .returned (.tuple #[.slice (some ⟨g, 0, none⟩) 32 32, .slice (some ⟨g + 1, 0, none⟩) 32 32]) ∧ Below w.heap.size w w' ∧ w'.heap[g]? = some (.cells (bc (pParts seed index d 32)) 23 (0, 0)) ∧ w'.heap[g + 1]? = some (.cells (bc (pOthers seed index d 32)) 23 (0, 0)) := by
  have hi0 := digInfo seed hs
  have hi1 := digInfo d hd
  have cS := fun i b hi hb w tabs => secret_calls seed hs x index i b hx hi hb w tabs
  have cB := fun i hi w => bit_calls d hd i hi w
  have HPut := hide (flat_put (partAt seed index d) (fun j => pSecret_length _ _ _ _))
  have HPuo := hide (flat_put (otherAt seed index d) (fun j => pPublic_length _))
  have mk : ∀ w, (Instr.makeSlice 24 (.int .i64 32) (.int .i64 32)).run Tryd.prog w = .ok (.slice (some ⟨w.heap.size, 0, none⟩) 32 32) (w.alloc (.cells (bc (List.replicate (32 * 32) 0)) 23)) := fun w => make_digests 32 (by omega) w
  have HT := hide tabs
  have CS := hide cS
  have CB := hide cB
  have hA := al2 w (.cells (bc seed) 23) (.cells (bc d) 23)
  have hbA := bel2 w (.cells (bc seed) 23) (.cells (bc d) 23)
  have hsX : ((w.alloc (.cells (bc seed) 23)).alloc (.cells (bc d) 23)).heap.size = w.heap.size + 1 + 1 := by simp
  have hA2 := al2 ((w.alloc (.cells (bc seed) 23)).alloc (.cells (bc d) 23)) (.cells (bc (List.replicate (32 * 32) 0)) 23) (.cells (bc (List.replicate (32 * 32) 0)) 23)
  have hbA2 := bel2 ((w.alloc (.cells (bc seed) 23)).alloc (.cells (bc d) 23)) (.cells (bc (List.replicate (32 * 32) 0)) 23) (.cells (bc (List.replicate (32 * 32) 0)) 23)
  rw [hsX] at hA2 hbA2
  have HA := hide hA
  have HbA := hide hbA
  have HA2 := hide hA2
  have HbA2 := hide hbA2
  clear tabs cS cB hA hbA hsX hA2 hbA2
  go_enter Tryd.func25, Tryd.ntmps25
  go_wp2
  go_loopw [12, 13, 16] (fun _ _ i wr => ∃ k : Nat, k ≤ 32 ∧ i = .int .i64 (k : Int) ∧ wr.heap[w.heap.size + 1 + 1]? = some (.cells (bc (pParts seed index d k ++ List.replicate (1024 - 32 * k) 0)) 23 (0, 0)) ∧ wr.heap[w.heap.size + 1 + 1 + 1]? = some (.cells (bc (pOthers seed index d k ++ List.replicate (1024 - 32 * k) 0)) 23 (0, 0)) ∧ Below (w.heap.size + 1 + 1) ((w.alloc (.cells (bc seed) 23)).alloc (.cells (bc d) 23)) wr) (fun _ _ i _ => 32 - (intOf i).toNat)
  case atStart => exact ⟨0, by omega, rfl, (unhide HA2).1, (unhide HA2).2, unhide HbA2⟩
  case round =>
    clear HA2 HbA2 mk
    obtain ⟨k, hk, rfl, q1, q2, hb⟩ := hrel
    by_cases hlt : k < 32
    · have hd1 : decide ((k : Int) < 32) = true := by simp; omega
      have hput := unhide HPut k hlt
      have hpuo := unhide HPuo k hlt
      have hl1 : (pParts seed index d k ++ List.replicate (1024 - 32 * k) 0).length = 1024 := by rw [List.length_append, pParts_length, List.length_replicate]; omega
      have hl2 : (pOthers seed index d k ++ List.replicate (1024 - 32 * k) 0).length = 1024 := by rw [List.length_append, pOthers_length, List.length_replicate]; omega
      have hw : Below w.heap.size w wr := (unhide HbA).trans (hb.mono (by omega))
      have tb := (unhide HT).below hw (Nat.le_refl _)
      have hz : w.heap.size + 1 + 1 + 1 < wr.heap.size := (Array.getElem?_eq_some_iff.1 q2).1
      have p0 := Below.at hb (by omega) (unhide HA).1
      have p1 := Below.at hb (by omega) (unhide HA).2
      have cB := fun w => unhide CB k (by omega) w
      have hbt := pBit_lt d k
      have cS1 := fun w tabs => unhide CS k (pBit d k) (by omega) (by omega) w tabs
      have cS2 := fun w tabs => unhide CS k (1 - pBit d k) (by omega) (by omega) w tabs
      have cP := fun w tabs => public_calls (pSecret seed index k (1 - pBit d k)) (pSecret_length _ _ _ _) w tabs
      have hD1 : (partAt seed index d k).length = 32 := pSecret_length _ _ _ _
      have hD2 : (otherAt seed index d k).length = 32 := pPublic_length _
      have hi2 := digInfo (partAt seed index d k) hD1
      have hi3 := digInfo (otherAt seed index d k) hD2
      have e1 : pSecret seed index k (pBit d k) = partAt seed index d k := rfl
      have e2 : pPublic (pSecret seed index k (1 - pBit d k)) = otherAt seed index d k := rfl
      have e3 : (List.range k).flatMap (partAt seed index d) = pParts seed index d k := rfl
      have e4 : (List.range k).flatMap (otherAt seed index d) = pOthers seed index d k := rfl
      rw [e1] at cS1
      rw [e2] at cP
      rw [e3] at hput
      rw [e4] at hpuo
      have m1 : (1 : Int) - ((pBit d k : Nat) : Int) = ((1 - pBit d k : Nat) : Int) := by omega
      generalize partAt seed index d k = D1 at *
      generalize otherAt seed index d k = D2 at *
      generalize pSecret seed index k (1 - pBit d k) = S2 at *
      generalize pParts seed index d k ++ List.replicate (1024 - 32 * k) 0 = L1 at *
      generalize pOthers seed index d k ++ List.replicate (1024 - 32 * k) 0 = L2 at *
      generalize 1 - pBit d k = b2 at *
      generalize pBit d k = b1 at *
      have bk : (0 : Int) ≤ k ∧ (k : Int) < 32 := by omega
      have HPt := hide hput
      have HPo := hide hpuo
      have KB := hide cB
      have K1 := hide cS1
      have K2 := hide cS2
      have KP := hide cP
      clear hput hpuo cB cS1 cS2 cP e1 e2 e3 e4
      go_wp2_with (refine wpList_load_row rfl 23 (.tmp 7) rfl (w.heap.size + 1) rfl 23 _ (0, 0) _ p1 Tryd.underlying23 rfl hi1 ?_)
      refine (unhide KB _).mono ?_
      rintro e w2 ⟨rfl, b2'⟩
      have p0' := Below.at b2' (by omega) p0
      have q1' := Below.at b2' (by omega) q1
      have q2' := Below.at b2' (by omega) q2
      have hb2 := hb.trans (b2'.mono (by omega))
      have tb2 := tb.below b2' (Nat.le_refl _)
      have z2 : w.heap.size + 1 + 1 + 1 < w2.heap.size := Nat.lt_of_lt_of_le hz b2'.size
      clear p0 p1 q1 q2 hb tb b2' hw hz
      go_wp2_with (refine wpList_load_row rfl 23 (.tmp 5) rfl w.heap.size rfl 23 _ (0, 0) _ p0' Tryd.underlying23 rfl hi0 ?_)
      refine (unhide K1 _ tb2).mono ?_
      rintro e w3 ⟨rfl, b3⟩
      have p0 := Below.at b3 (by omega) p0'
      have q1 := Below.at b3 (by omega) q1'
      have q2 := Below.at b3 (by omega) q2'
      have hb3 := hb2.trans (b3.mono (by omega))
      have tb3 := tb2.below b3 (Nat.le_refl _)
      have z3 : w.heap.size + 1 + 1 + 1 < w3.heap.size := Nat.lt_of_lt_of_le z2 b3.size
      clear p0' q1' q2' hb2 tb2 b3 z2
      go_wp2_with (first
        | (refine wpList_store_at rfl 23 (.tmp 30) (.tmp 29) rfl (w.heap.size + 1 + 1) (k * 32) L1 D1 23 rfl rfl q1 (by rw [hD1, hl1]; omega) hi2 ?_; intro w4 q4 ho4 hs4 hb4)
        | (refine wpList_load_row rfl 23 (.tmp 5) rfl w.heap.size rfl 23 _ (0, 0) _ ((ho4 _ (by omega)).trans p0) Tryd.underlying23 rfl hi0 ?_))
      rw [unhide HPt] at q4
      have q2' := (ho4 (w.heap.size + 1 + 1 + 1) (by omega)).trans q2
      have p0' := (ho4 w.heap.size (by omega)).trans p0
      have hb4' := hb3.trans (hb4 _ (Nat.le_refl _))
      have z4 : w.heap.size + 1 + 1 + 1 < w4.heap.size := by omega
      have tb4 := (unhide HT).below ((unhide HbA).trans (hb4'.mono (by omega))) (Nat.le_refl _)
      clear q1 q2 p0 hb3 ho4 hs4 hb4 tb3 z3
      refine (unhide K2 _ tb4).mono ?_
      rintro e w5 ⟨rfl, b5⟩
      have q5 := Below.at b5 (by omega) q4
      have r5 := Below.at b5 (by omega) q2'
      have hb5 := hb4'.trans (b5.mono (by omega))
      have tb5 := tb4.below b5 (Nat.le_refl _)
      have z5 : w.heap.size + 1 + 1 + 1 < w5.heap.size := Nat.lt_of_lt_of_le z4 b5.size
      clear q4 q2' p0' hb4' tb4 z4 b5
      go_wp2_with fail
      refine (unhide KP _ tb5).mono ?_
      rintro e w6 ⟨rfl, b6⟩
      have q6 := Below.at b6 (by omega) q5
      have r6 := Below.at b6 (by omega) r5
      have hb6 := hb5.trans (b6.mono (by omega))
      clear q5 r5 hb5 tb5 z5 b6
      go_wp2_with (refine wpList_store_at rfl 23 (.tmp 42) (.tmp 41) rfl (w.heap.size + 1 + 1 + 1) (k * 32) L2 D2 23 rfl rfl r6 (by rw [hD2, hl2]; omega) hi3 ?_; intro w7 q7 ho7 hs7 hb7)
      rw [unhide HPo] at q7
      have r7 := (ho7 (w.heap.size + 1 + 1) (by omega)).trans q6
      have hb8 := hb6.trans (hb7 _ (by omega))
      have Q7 := hide q7
      have R7 := hide r7
      have HB8 := hide hb8
      clear q7 r7 hb8 q6 r6 hb6 ho7 hs7 hb7
      go_wp2
      go_roundw
      case rel => exact ⟨k + 1, by omega, by go_num, unhide R7, unhide Q7, unhide HB8⟩
      case measure => simp [intOf]; omega
    · have hd1 : decide ((k : Int) < 32) = false := by simp; omega
      have hk32 : k = 32 := by omega
      subst hk32
      have e1 : pParts seed index d 32 ++ List.replicate (1024 - 32 * 32) 0 = pParts seed index d 32 := by simp
      have e2 : pOthers seed index d 32 ++ List.replicate (1024 - 32 * 32) 0 = pOthers seed index d 32 := by simp
      rw [e1] at q1
      rw [e2] at q2
      have hw : Below w.heap.size w wr := (unhide HbA).trans (hb.mono (by omega))
      have Q1 := hide q1
      have Q2 := hide q2
      have HW := hide hw
      clear q1 q2 hb hw e1 e2
      go_wp2
      go_ret2
      exact ⟨w.heap.size + 1 + 1, by omega, rfl, unhide HW, unhide Q1, unhide Q2⟩
end Go.Proofs.YtonmccmeljeopaaDoor

namespace Go.Proofs.YtonmccmeljeopaaDoor
open Go Go.RowKit
set_option linter.unusedSimpArgs false
set_option linter.unusedVariables false

def chunk (L : List UInt8) (i : Nat) : List UInt8 := (L.drop (32 * i)).take 32
theorem chunk_length (L : List UInt8) (i : Nat) (h : 32 * (i + 1) ≤ L.length) : (chunk L i).length = 32 := by unfold chunk; rw [List.length_take, List.length_drop]; omega
/-- The publics of a place, as a signature tells them. -/
def openAt (d P O : List UInt8) (i : Nat) : List UInt8 := if pBit d i = 0 then pPublic (chunk P i) ++ chunk O i else chunk O i ++ pPublic (chunk P i)
def pOpen (d P O : List UInt8) (k : Nat) : List UInt8 := (List.range k).flatMap (openAt d P O)
theorem openAt_length (d P O : List UInt8) (i : Nat) (h : 32 * (i + 1) ≤ O.length) : (openAt d P O i).length = 64 := by
  have := chunk_length O i h
  unfold openAt; split <;> rw [List.length_append, pPublic_length, this]
theorem pOpen_length (d P O : List UInt8) : ∀ k, 32 * k ≤ O.length → (pOpen d P O k).length = 64 * k
  | 0, _ => rfl
  | k + 1, h => by
    have ih := pOpen_length d P O k (by omega)
    unfold pOpen at ih ⊢
    rw [List.range_succ, List.flatMap_append, List.length_append, ih]
    simp [openAt_length d P O k h]; omega
theorem pOpen_succ (d P O : List UInt8) (k : Nat) : pOpen d P O (k + 1) = pOpen d P O k ++ openAt d P O k := by
  unfold pOpen; rw [List.range_succ, List.flatMap_append]; simp
/-- Two digests written over noughts, one at each half of a place. -/
theorem put_two (A X Y : List UInt8) (n b : Nat) (hb : b < 2) (k : Nat) (hA : A.length = 64 * k) (hX : X.length = 32) (hY : Y.length = 32) (hn : 64 ≤ n) :
    putAt (putAt (A ++ List.replicate n 0) (k * 64 + b * 32) X) (k * 64 + (1 - b) * 32) Y = A ++ (if b = 0 then X ++ Y else Y ++ X) ++ List.replicate (n - 64) 0 := by
  have hr : List.replicate n (0 : UInt8) = List.replicate 32 0 ++ List.replicate 32 0 ++ List.replicate (n - 64) 0 := by
    rw [List.replicate_append_replicate, List.replicate_append_replicate]; congr 1; omega
  rw [hr]
  generalize hz : List.replicate 32 (0 : UInt8) = Z
  have hZ : Z.length = 32 := by rw [← hz]; simp
  generalize List.replicate (n - 64) (0 : UInt8) = R
  have key : ∀ (A U V W : List UInt8) (o : Nat), o = A.length → V.length = U.length → putAt (A ++ (U ++ W)) o V = A ++ (V ++ W) := by
    intro A U V W o ho hV
    subst ho
    unfold putAt
    rw [List.take_left, ← List.drop_drop, List.drop_left, hV, List.drop_left, List.append_assoc]
  match b, hb with
  | 0, _ =>
    rw [if_pos rfl]
    rw [show A ++ (Z ++ Z ++ R) = A ++ (Z ++ (Z ++ R)) by simp, key A Z X (Z ++ R) _ (by omega) (by omega), show A ++ (X ++ (Z ++ R)) = (A ++ X) ++ (Z ++ R) by simp,
      key (A ++ X) Z Y R _ (by rw [List.length_append]; omega) (by omega)]
    simp
  | 1, _ =>
    rw [if_neg (by decide)]
    rw [show A ++ (Z ++ Z ++ R) = (A ++ Z) ++ (Z ++ R) by simp, key (A ++ Z) Z X R _ (by rw [List.length_append]; omega) (by omega), show (A ++ Z) ++ (X ++ R) = A ++ (Z ++ (X ++ R)) by simp,
      key A Z Y (X ++ R) _ (by omega) (by omega)]
    simp
theorem open_put (d P O : List UInt8) (k : Nat) (hk : k < 32) (hO : O.length = 1024) :
    putAt (putAt (pOpen d P O k ++ List.replicate (2048 - 64 * k) 0) (k * 64 + pBit d k * 32) (pPublic (chunk P k))) (k * 64 + (1 - pBit d k) * 32) (chunk O k) = pOpen d P O (k + 1) ++ List.replicate (2048 - 64 * (k + 1)) 0 := by
  rw [put_two _ _ _ _ _ (pBit_lt d k) k (pOpen_length d P O k (by omega)) (pPublic_length _) (chunk_length O k (by omega)) (by omega), pOpen_succ]
  rw [show 2048 - 64 * k - 64 = 2048 - 64 * (k + 1) by omega]
  rfl
theorem bytes_range {w : World} {g off : Nat} {L : List UInt8} (h : Bytes w g off L) (k : Nat) (hk : 32 * (k + 1) ≤ L.length) : w.rangeAt g (off + k * 32) (Lib.byteCells (chunk L k)) := fun i v hv => by
  have hcl := chunk_length L k hk
  have hi : i < 32 := by
    have := (List.getElem?_eq_some_iff.1 hv).1
    rw [Lib.byteCells_length] at this; omega
  have h1 := h (k * 32 + i) (by omega)
  have e : L.getD (k * 32 + i) 0 = (chunk L k).getD i 0 := by
    unfold chunk
    rw [List.getD_eq_getElem?_getD, List.getD_eq_getElem?_getD, List.getElem?_take, if_pos hi, List.getElem?_drop, Nat.mul_comm]
  have hv' : v = .int .u8 (((chunk L k).getD i 0).toNat : Int) := by
    have := bc_at (chunk L k) i (by omega)
    unfold bc at this
    rw [List.getElem?_toArray, hv] at this
    exact Option.some.inj this
  rw [Nat.add_assoc, h1, e, hv']
set_option maxHeartbeats 4000000 in
set_option maxRecDepth 100000 in
theorem opened_calls (d : List UInt8) (hd : d.length = 32) (P O : List UInt8) (hP : P.length = 1024) (hO : O.length = 1024) (g1 o1 c1 g2 o2 c2 : Nat) (w : World) (hg1 : g1 < w.heap.size) (hg2 : g2 < w.heap.size) (bP : Bytes w g1 o1 P) (bO : Bytes w g2 o2 O) (tabs : Tabs w) :
    Calls Tryd.prog 20 #[.pointer none, .agg (bc d), .slice (some ⟨g1, o1, none⟩) 32 c1, .slice (some ⟨g2, o2, none⟩) 32 c2] w fun e w' => e = .returned (.tuple #[.agg (bc (pWordOf (pOpen d P O 32))), .bool true]) ∧ Below w.heap.size w w' := by
  have hLL : (pOpen d P O 32).length = 2048 := pOpen_length d P O 32 (by omega)
  have hW : (pWordOf (pOpen d P O 32)).length = 32 := pOf_length _ _
  have hi1 := digInfo (pWordOf (pOpen d P O 32)) hW
  have hz1 := zeroSize (pWordOf (pOpen d P O 32)) hW
  have ho1 := bc_oneCell (pWordOf (pOpen d P O 32))
  have hi0 := digInfo d hd
  have cW := fun w tabs => wordOf_calls (pOpen d P O 32) hLL w tabs
  have hiP := pubsInfo (pOpen d P O 32) hLL
  have cB := fun i hi w => bit_calls d hd i hi w
  have HPut := hide fun k hk => open_put d P O k hk hO
  generalize pWordOf (pOpen d P O 32) = D at *
  have HT := hide tabs
  have HiP := hide hiP
  have CW := hide cW
  have CB := hide cB
  have HbP := hide bP
  have HbO := hide bO
  have hA := al2 w (.cells (bc d) 23) (.cells (bc (List.replicate 32 0)) 23)
  have hbA := bel2 w (.cells (bc d) 23) (.cells (bc (List.replicate 32 0)) 23)
  have hsX : ((w.alloc (.cells (bc d) 23)).alloc (.cells (bc (List.replicate 32 0)) 23)).heap.size = w.heap.size + 1 + 1 := by simp
  have HA := hide hA
  have HbA := hide hbA
  have HsX := hide hsX
  clear tabs hiP cW cB hA hbA hsX bP bO hLL
  go_enter Tryd.func20, Tryd.ntmps20
  go_wp2
  rw [zero84]
  go_loopw [11, 12, 22] (fun _ _ i wr => ∃ k : Nat, k ≤ 32 ∧ i = .int .i64 (k : Int) ∧ wr.heap[w.heap.size + 1 + 1]? = some (.cells (bc (pOpen d P O k ++ List.replicate (2048 - 64 * k) 0)) 68 (0, 0)) ∧ Below (w.heap.size + 1 + 1) ((w.alloc (.cells (bc d) 23)).alloc (.cells (bc (List.replicate 32 0)) 23)) wr) (fun _ _ i _ => 32 - (intOf i).toNat)
  case atStart =>
    refine ⟨0, by omega, rfl, ?_, ?_⟩
    · have := al1 ((w.alloc (.cells (bc d) 23)).alloc (.cells (bc (List.replicate 32 0)) 23)) (.cells (bc (List.replicate 2048 0)) 68)
      rw [unhide HsX] at this
      exact this
    · have := (Below.refl ((w.alloc (.cells (bc d) 23)).alloc (.cells (bc (List.replicate 32 0)) 23)).heap.size ((w.alloc (.cells (bc d) 23)).alloc (.cells (bc (List.replicate 32 0)) 23))).alloc (Nat.le_refl _) (.cells (bc (List.replicate 2048 0)) 68)
      rw [unhide HsX] at this
      exact this
  case round =>
    obtain ⟨k, hk, rfl, q, hb⟩ := hrel
    have hw : Below w.heap.size w wr := (unhide HbA).trans (hb.mono (by omega))
    have tb := (unhide HT).below hw (Nat.le_refl _)
    have hz : w.heap.size + 1 + 1 < wr.heap.size := (Array.getElem?_eq_some_iff.1 q).1
    by_cases hlt : k < 32
    · have hd1 : decide ((k : Int) < 32) = true := by simp; omega
      have hput := unhide HPut k hlt
      have hll : (pOpen d P O k ++ List.replicate (2048 - 64 * k) 0).length = 2048 := by
        rw [List.length_append, pOpen_length d P O k (by omega), List.length_replicate]; omega
      have p1 := Below.at hb (by omega) (unhide HA).1
      have cB := fun w => unhide CB k (by omega) w
      have hbt := pBit_lt d k
      have hcl1 := chunk_length P k (by omega)
      have hcl2 := chunk_length O k (by omega)
      have cP := fun w tabs => public_calls (chunk P k) hcl1 w tabs
      have hpl : (pPublic (chunk P k)).length = 32 := pPublic_length _
      have hi2 := digInfo (pPublic (chunk P k)) hpl
      have hi3 := digInfo (chunk O k) hcl2
      have rP := bytes_range ((unhide HbP).below hw hg1) k (by omega)
      have rO := bytes_range ((unhide HbO).below hw hg2) k (by omega)
      have m1 : (1 : Int) - ((pBit d k : Nat) : Int) = ((1 - pBit d k : Nat) : Int) := by omega
      have hb2t : 1 - pBit d k < 2 := by omega
      have bk : (0 : Int) ≤ k ∧ (k : Int) < 32 := by omega
      have b1 : (0 : Int) ≤ ((pBit d k : Nat) : Int) ∧ ((pBit d k : Nat) : Int) < 2 := by omega
      have b2 : (0 : Int) ≤ ((1 - pBit d k : Nat) : Int) ∧ ((1 - pBit d k : Nat) : Int) < 2 := by omega
      generalize pOpen d P O k ++ List.replicate (2048 - 64 * k) 0 = L at *
      generalize pPublic (chunk P k) = PD at *
      generalize chunk P k = PC at *
      generalize chunk O k = OC at *
      generalize 1 - pBit d k = bb at *
      generalize pBit d k = ba at *
      have mw : IntKind.i64.wrap (bb : Int) = (bb : Int) := wrap_small _ (by omega) (by omega)
      have HPt := hide hput
      have KB := hide cB
      have KP := hide cP
      have RP := hide rP
      have RO := hide rO
      clear hput cB cP rP rO
      go_wp2_with (refine wpList_load_row rfl 23 (.tmp 5) rfl w.heap.size rfl 23 _ (0, 0) _ p1 Tryd.underlying23 rfl hi0 ?_)
      refine (unhide KB _).mono ?_
      rintro e w2 ⟨rfl, b2'⟩
      have q2 := Below.at b2' hz q
      have hb2 := hb.trans (b2'.mono (by omega))
      have tb2 := tb.below b2' (Nat.le_refl _)
      have z2 : w.heap.size + 1 + 1 < w2.heap.size := Nat.lt_of_lt_of_le hz b2'.size
      have kP : Hid (∀ dd os, Calls Tryd.prog 30 #[.pointer none, .agg (bc PC)] (Sort.grow (redrawn w2 dd) os) fun e w'' => e = .returned (.agg (bc PD)) ∧ ∃ p : Regrown, w'' = Sort.grow (redrawn w2 p.d) p.os) := fun dd os => Calls.regrown_of (unhide KP _ (tb2.below (below_regrown w2 dd os) (Nat.le_refl _)))
      have rowP : Hid (∀ w', (∃ p : Regrown, w' = Sort.grow (redrawn w2 p.d) p.os) → w'.rangeAt g1 (o1 + k * 32) (Lib.byteCells PC)) := fun w' ⟨p, hp⟩ j v hv => by
        rw [hp, (below_regrown w2 p.d p.os).cell (p := ⟨g1, o1 + k * 32 + j, none⟩) (by show g1 < _; omega), b2'.cell (p := ⟨g1, o1 + k * 32 + j, none⟩) (by show g1 < _; omega)]
        exact unhide RP j v hv
      have HQ2 := hide q2
      have HB2 := hide hb2
      have RO2 : Hid (w2.rangeAt g2 (o2 + k * 32) (Lib.byteCells OC)) := fun j v hv => by
        rw [b2'.cell (p := ⟨g2, o2 + k * 32 + j, none⟩) (by show g2 < _; omega)]
        exact unhide RO j v hv
      clear p1 q hb tb b2' hw hz tb2 q2 hb2 RP RO
      go_wp2_with fail
      refine wp_region_below_tail 10 mixed (by kernel_rfl) ?_
      simp only [List.take_succ_cons, List.take_zero, List.drop_succ_cons, List.drop_zero]
      quiet_step (fail)
      quiet_step (fail)
      quiet_step (fail)
      quiet_step (fail)
      quiet_step (fail)
      quiet_step (fail)
      refine wpQuiet_load_mid rfl 23 (.tmp 33) rfl g1 (o1 + k * 32) rfl (Lib.byteCells PC) _ (unhide rowP) Tryd.underlying23 rfl (by rw [Lib.byteCells_length, hcl1]; kernel_rfl) ?_
      quiet_step (exact unhide kP _ _)
      quiet_step (fail)
      quiet_step (fail)
      refine wpQuiet_nil ?_
      intro w3 hb3
      have q3 := Below.at hb3 z2 (unhide HQ2)
      have hb3' := (unhide HB2).trans (hb3.mono (by omega))
      have z3 : w.heap.size + 1 + 1 < w3.heap.size := Nat.lt_of_lt_of_le z2 hb3.size
      have RO3 : Hid (w3.rangeAt g2 (o2 + k * 32) (Lib.byteCells OC)) := fun j v hv => by
        rw [hb3.cell (p := ⟨g2, o2 + k * 32 + j, none⟩) (by show g2 < _; omega)]
        exact unhide RO2 j v hv
      clear hb3 HQ2 HB2 RO2 z2 kP rowP
      go_wp2_with (refine wpList_store_at rfl 23 (.tmp 37) (.tmp 35) rfl (w.heap.size + 1 + 1) (k * 64 + ba * 32) L PD 68 rfl rfl q3 (by rw [hpl, hll]; omega) hi2 ?_; intro w4 q4 ho4 hs4 hb4)
      have hb4' := hb3'.trans (hb4 _ (Nat.le_refl _))
      have z4 : w.heap.size + 1 + 1 < w4.heap.size := by omega
      have rowO : Hid (∀ w', (∃ p : Regrown, w' = Sort.grow (redrawn w4 p.d) p.os) → w'.rangeAt g2 (o2 + k * 32) (Lib.byteCells OC)) := fun w' ⟨p, hp⟩ j v hv => by
        rw [hp, (below_regrown w4 p.d p.os).cell (p := ⟨g2, o2 + k * 32 + j, none⟩) (by show g2 < _; omega), (hb4 _ (Nat.le_refl _)).cell (p := ⟨g2, o2 + k * 32 + j, none⟩) (by show g2 < _; omega)]
        exact unhide RO3 j v hv
      have HQ4 := hide q4
      have HB4 := hide hb4'
      clear q3 hb3' z3 RO3 q4 ho4 hs4 hb4 hb4'
      go_frame
      refine wp_region_below_tail 9 mixed (by kernel_rfl) ?_
      simp only [List.take_succ_cons, List.take_zero, List.drop_succ_cons, List.drop_zero]
      quiet_step (fail)
      quiet_step (fail)
      quiet_step (fail)
      quiet_step (fail)
      quiet_step (fail)
      quiet_step (fail)
      refine wpQuiet_load_mid rfl 23 (.tmp 43) rfl g2 (o2 + k * 32) rfl (Lib.byteCells OC) _ (unhide rowO) Tryd.underlying23 rfl (by rw [Lib.byteCells_length, hcl2]; kernel_rfl) ?_
      quiet_step (fail)
      quiet_step (fail)
      refine wpQuiet_nil ?_
      intro w5 hb5
      have q5 := Below.at hb5 z4 (unhide HQ4)
      have hb5' := (unhide HB4).trans (hb5.mono (by omega))
      have hll2 : (putAt L (k * 64 + ba * 32) PD).length = 2048 := by rw [putAt_length _ _ _ (by rw [hpl, hll]; omega), hll]
      clear hb5 HQ4 HB4 rowO
      go_wp2_with (refine wpList_store_at rfl 23 (.tmp 46) (.tmp 44) rfl (w.heap.size + 1 + 1) (k * 64 + bb * 32) (putAt L (k * 64 + ba * 32) PD) OC 68 rfl rfl q5 (by rw [hcl2, hll2]; omega) hi3 ?_; intro w6 q6 ho6 hs6 hb6)
      rw [unhide HPt] at q6
      have hb7 := hb5'.trans (hb6 _ (Nat.le_refl _))
      have Q6 := hide q6
      have HB7 := hide hb7
      clear q5 hb5' q6 ho6 hs6 hb6 hb7
      go_wp2
      go_roundw
      case rel => exact ⟨k + 1, by omega, by go_num, unhide Q6, unhide HB7⟩
      case measure => simp [intOf]; omega
    · have hd1 : decide ((k : Int) < 32) = false := by simp; omega
      have hk32 : k = 32 := by omega
      subst hk32
      have ee : pOpen d P O 32 ++ List.replicate (2048 - 64 * 32) 0 = pOpen d P O 32 := by simp
      rw [ee] at q
      have hiP := unhide HiP
      have cW := unhide CW
      have q1 := Below.at hb (by omega) (unhide HA).2
      generalize pOpen d P O 32 = L at *
      have CW2 := hide cW
      clear hb ee CW cW CB HPut
      go_wp2_with (refine wpList_load_row rfl 68 (.tmp 10) rfl (w.heap.size + 1 + 1) rfl 68 _ (0, 0) _ q Tryd.underlying68 rfl hiP ?_)
      refine (unhide CW2 _ tb).mono ?_
      rintro e w3 ⟨rfl, b3⟩
      have q3 := Below.at b3 (by omega) q1
      have hw3 := hw.trans (b3.mono (by omega))
      clear b3 q1 q tb
      go_wp2_with (refine wpList_store_row rfl 23 (.tmp 8) (.tmp 50) rfl (w.heap.size + 1) _ rfl rfl 23 _ q3 hi1 hz1 ho1 ?_)
      exact bodyPost_ret (results_row_tmp rfl _ _ (w.heap.size + 1) _ _ _ _ rfl (setRow_heap _ _ _ _ _ _ q3) Tryd.underlying23 rfl hi1) rfl ⟨rfl, below_setRow hw3 (by omega) _⟩
end Go.Proofs.YtonmccmeljeopaaDoor

namespace Go.Proofs.YtonmccmeljeopaaDoor
open Go.RowKit
set_option linter.unusedSimpArgs false
set_option linter.unusedVariables false

theorem wpList_store_new {P : Program} {ops : Array Oper} {rest : List Oper} {op : Oper} {a : Act} {Q : Exit → Act → World → Prop} (hgd : op.guard = none) (ty : TypeId) (x y : Operand) (ho : op.op = .store ty x y)
    (W0 : World) (Z : Array Value) (t : TypeId) (D : List UInt8) (hx : a.eval x = .pointer (some ⟨W0.heap.size, 0, none⟩)) (hy : a.eval y = .agg (bc D))
    (hi : (P.info? ty).map (·.size) = some (bc D).size) (hz : Z.size = (bc D).size)
    (h : ∀ w', w'.heap[W0.heap.size]? = some (.cells (bc D) t (0, 0)) → Below W0.heap.size W0 w' → w'.heap.size = W0.heap.size + 1 → wpList P ops Q rest (a.put op.dst undef) w') :
    wpList P ops Q (op :: rest) a (W0.alloc (.cells Z t)) := by
  refine wpList_store_row hgd ty x y ho W0.heap.size (bc D) hx hy t Z (al1 _ _) hi hz (bc_oneCell D) ?_
  exact h _ (setRow_heap _ _ _ _ _ _ (al1 W0 (.cells Z t))) (below_setRow ((Below.refl _ _).alloc (Nat.le_refl _) _) (Nat.le_refl _) _) (by rw [setRow_size, World.size_alloc])
end Go.Proofs.YtonmccmeljeopaaDoor

namespace Go.Proofs.YtonmccmeljeopaaDoor
open Go Go.RowKit
set_option linter.unusedSimpArgs false
set_option linter.unusedVariables false

theorem digest_eql (d : List UInt8) (hd : d.length = 32) (w : World) : (binOp .eql 23 (.agg (bc d)) (.agg (bc d))).run Tryd.prog w = .ok (.bool true) w := by
  obtain ⟨la, hla⟩ := keyLits_ints (P := Tryd.prog) 23 5 32 .u8 Tryd.underlying23 Tryd.underlying5 (by kernel_rfl) (by kernel_rfl) (d.map fun b => (b.toNat : Int)) (by simpa using hd) (fun z hz => by
    obtain ⟨b, _, rfl⟩ := List.mem_map.1 hz
    have := b.toNat_lt
    simp [Lit.wf, IntKind.min, IntKind.max, IntKind.signed, IntKind.bits]; omega)
  refine eql_refl 23 2 2 (by omega) (by kernel_rfl) _ ?_ la ?_ w
  · simp only [Value.formed, Tryd.underlying23, bc_size, hd]; kernel_rfl
  · rw [← hla]; simp [bc, Lib.byteCells]; rfl
theorem flat_chunk (f : Nat → List UInt8) (hf : ∀ j, (f j).length = 32) : ∀ k i, i < k → chunk ((List.range k).flatMap f) i = f i
  | 0, i, h => absurd h (Nat.not_lt_zero _)
  | k + 1, i, h => by
    have hl := flat32 f hf k
    rw [List.range_succ, List.flatMap_append]
    by_cases hi : i < k
    · have ih := flat_chunk f hf k i hi
      unfold chunk at ih ⊢
      rw [List.drop_append_of_le_length (by omega), List.take_append_of_le_length (by rw [List.length_drop]; omega)]
      exact ih
    · obtain rfl : i = k := by omega
      unfold chunk
      rw [show 32 * i = ((List.range i).flatMap f).length by omega, List.drop_left]
      simp [List.take_of_length_le, hf]
theorem open_at (seed : List UInt8) (index : Nat) (d : List UInt8) (i : Nat) (hi : i < 32) : openAt d (pParts seed index d 32) (pOthers seed index d 32) i = pubAt seed index (2 * i) ++ pubAt seed index (2 * i + 1) := by
  have h1 : chunk (pParts seed index d 32) i = partAt seed index d i := flat_chunk _ (fun j => pSecret_length _ _ _ _) 32 i hi
  have h2 : chunk (pOthers seed index d 32) i = otherAt seed index d i := flat_chunk _ (fun j => pPublic_length _) 32 i hi
  have hb := pBit_lt d i
  unfold openAt
  rw [h1, h2]
  unfold partAt otherAt pubAt
  rw [show 2 * i / 2 = i by omega, show 2 * i % 2 = 0 by omega, show (2 * i + 1) / 2 = i by omega, show (2 * i + 1) % 2 = 1 by omega]
  by_cases h0 : pBit d i = 0
  · rw [if_pos h0, h0]
  · have h1 : pBit d i = 1 := by omega
    rw [if_neg h0, h1]
theorem open_sign (seed : List UInt8) (index : Nat) (d : List UInt8) : ∀ k, k ≤ 32 → pOpen d (pParts seed index d 32) (pOthers seed index d 32) k = pubs seed index (2 * k)
  | 0, _ => rfl
  | k + 1, h => by
    rw [pOpen_succ, open_sign seed index d k (by omega), open_at seed index d k (by omega), show 2 * (k + 1) = 2 * k + 1 + 1 by omega, pubs_succ, pubs_succ, List.append_assoc]
theorem open_word (seed : List UInt8) (index : Nat) (d : List UInt8) : pWordOf (pOpen d (pParts seed index d 32) (pOthers seed index d 32) 32) = pWord seed index := by
  rw [open_sign seed index d 32 (by omega)]; rfl
theorem bytes_of_row {w : World} {g : Nat} {L : List UInt8} {t : TypeId} (h : w.heap[g]? = some (.cells (bc L) t (0, 0))) : Bytes w g 0 L := fun j hj => by
  rw [Nat.zero_add, cell_of_row _ _ _ _ _ _ h, bc_at _ _ hj]
/-- What was signed is opened to the word, whatever lies between. -/
theorem opens_calls (seed : List UInt8) (d : List UInt8) (hd : d.length = 32) (index g : Nat) (w : World) (q1 : w.heap[g]? = some (.cells (bc (pParts seed index d 32)) 23 (0, 0))) (q2 : w.heap[g + 1]? = some (.cells (bc (pOthers seed index d 32)) 23 (0, 0))) (tabs : Tabs w) :
    Calls Tryd.prog 20 #[.pointer none, .agg (bc d), .slice (some ⟨g, 0, none⟩) 32 32, .slice (some ⟨g + 1, 0, none⟩) 32 32] w fun e w' => e = .returned (.tuple #[.agg (bc (pWord seed index)), .bool true]) ∧ Below w.heap.size w w' := by
  have h := opened_calls d hd (pParts seed index d 32) (pOthers seed index d 32) (pParts_length _ _ _ _) (pOthers_length _ _ _ _) g 0 32 (g + 1) 0 32 w (Array.getElem?_eq_some_iff.1 q1).1 (Array.getElem?_eq_some_iff.1 q2).1 (bytes_of_row q1) (bytes_of_row q2) tabs
  rw [open_word] at h
  exact h
def awakeCells : Array Value := #[.int .u8 128, .int .u8 0, .int .u8 0, .int .u8 0, .int .u8 0, .int .u8 0, .int .u8 0, .int .u8 0, .int .u8 0, .int .u8 0, .int .u8 0, .int .u8 0, .int .u8 0, .int .u8 0, .int .u8 0, .int .u8 0, .int .u8 0, .int .u8 0, .int .u8 0, .int .u8 0, .int .u8 0, .int .u8 0, .int .u8 0, .int .u8 0, .int .u8 0, .int .u8 0, .int .u8 0, .int .u8 0, .int .u8 0, .int .u8 0, .int .u8 0, .int .u8 0]
end Go.Proofs.YtonmccmeljeopaaDoor

namespace Go.Proofs.YtonmccmeljeopaaDoor
open Go Go.RowKit
set_option linter.unusedSimpArgs false
set_option linter.unusedVariables false

/-- A signer's cells. -/
def sgc (seed : List UInt8) (n : Int) (v : Value) : Array Value := bc seed ++ #[.int .i64 n, v]
theorem sgc_size (seed : List UInt8) (h : seed.length = 32) (n : Int) (v : Value) : (sgc seed n v).size = 34 := by simp [sgc, bc_size, h]
theorem sgc_info (seed : List UInt8) (h : seed.length = 32) (n : Int) (v : Value) : (Tryd.prog.info? 31).map (·.size) = some (sgc seed n v).size := by rw [sgc_size seed h]; kernel_rfl
theorem sgc_one (seed : List UInt8) (n : Int) (p : Option Addr) (l c : Nat) : (sgc seed n (.slice p l c)).all (·.oneCell') = true := by
  unfold sgc
  rw [Array.all_append, bc_oneCell]
  simp [Value.oneCell']
theorem sgc_next (seed : List UInt8) (h : seed.length = 32) (n : Int) (v : Value) : (sgc seed n v)[32]? = some (.int .i64 n) := by
  unfold sgc
  rw [Array.getElem?_append_right (by rw [bc_size, h]; exact Nat.le_refl _), bc_size, h]; rfl
theorem sgc_leaves (seed : List UInt8) (h : seed.length = 32) (n : Int) (v : Value) : (sgc seed n v)[33]? = some v := by
  unfold sgc
  rw [Array.getElem?_append_right (by rw [bc_size, h]; omega), bc_size, h]; rfl
theorem sgc_seed (seed : List UInt8) (h : seed.length = 32) (n : Int) (v : Value) (w : World) (g : Nat) (t : TypeId) (hg : w.heap[g]? = some (.cells (sgc seed n v) t (0, 0))) : w.rangeAt g 0 (Lib.byteCells seed) := fun i u hu => by
  have hi : i < seed.length := by have := (List.getElem?_eq_some_iff.1 hu).1; rwa [Lib.byteCells_length] at this
  rw [Nat.zero_add, cell_of_row _ _ _ _ _ _ hg]
  unfold sgc
  rw [Array.getElem?_append_left (by rw [bc_size]; exact hi)]
  simpa [bc] using hu
theorem wpList_build_to {P : Program} {ops : Array Oper} {rest : List Oper} {o : Oper} {a : Act} {w : World} {Q : Exit → Act → World → Prop} (hg : o.guard = none) (t : TypeId) (parts : Array (Nat × Operand)) (ho : o.op = .build t parts) (cells : Array Value)
    (hb : P.built t (parts.toList.map fun (i, x) => (i, a.eval x)) = some cells) (h : wpList P ops Q rest (a.put o.dst (.agg cells)) w) : wpList P ops Q (o :: rest) a w := by
  rw [← Array.toList_map] at hb
  refine wpList_build hg t parts ho (by rw [hb]; rfl) ?_
  rw [hb]; exact h
theorem pWord_length (seed : List UInt8) (i : Nat) : (pWord seed i).length = 32 := pOf_length _ _
theorem list32 {α : Type} (l : List α) (h : l.length = 32) : ∃ a0 a1 a2 a3 a4 a5 a6 a7 a8 a9 a10 a11 a12 a13 a14 a15 a16 a17 a18 a19 a20 a21 a22 a23 a24 a25 a26 a27 a28 a29 a30 a31, l = [a0, a1, a2, a3, a4, a5, a6, a7, a8, a9, a10, a11, a12, a13, a14, a15, a16, a17, a18, a19, a20, a21, a22, a23, a24, a25, a26, a27, a28, a29, a30, a31] := by
  match l, h with
  | [a0, a1, a2, a3, a4, a5, a6, a7, a8, a9, a10, a11, a12, a13, a14, a15, a16, a17, a18, a19, a20, a21, a22, a23, a24, a25, a26, a27, a28, a29, a30, a31], _ => exact ⟨a0, a1, a2, a3, a4, a5, a6, a7, a8, a9, a10, a11, a12, a13, a14, a15, a16, a17, a18, a19, a20, a21, a22, a23, a24, a25, a26, a27, a28, a29, a30, a31, rfl⟩
theorem built_sg (seed : List UInt8) (h : seed.length = 32) (p : Option Addr) (l c : Nat) : Tryd.prog.built 31 [(0, .agg (bc seed)), (2, .slice p l c)] = some (sgc seed 0 (.slice p l c)) := by
  obtain ⟨a0, a1, a2, a3, a4, a5, a6, a7, a8, a9, a10, a11, a12, a13, a14, a15, a16, a17, a18, a19, a20, a21, a22, a23, a24, a25, a26, a27, a28, a29, a30, a31, rfl⟩ := list32 seed h
  kernel_rfl
def sg0 : Array Value := sgc (List.replicate 32 0) 0 (.slice none 0 0)
theorem sg0_size (seed : List UInt8) (h : seed.length = 32) (n : Int) (v : Value) : sg0.size = (sgc seed n v).size := by rw [sgc_size seed h]; exact sgc_size _ (by simp) _ _

theorem whole_calls (seed : List UInt8) (h : seed.length = 32) (n : Int) (p : Option Addr) (l c : Nat) (w : World) :
    Calls Tryd.prog 24 #[.agg (sgc seed n (.slice p l c))] w fun e w' => e = .returned (.bool (decide (l = 16))) ∧ Below w.heap.size w w' := by
  have q := al1 w (.cells (sgc seed n (.slice p l c)) 31)
  have c33 : (w.alloc (.cells (sgc seed n (.slice p l c)) 31)).cell? ⟨w.heap.size, 33, none⟩ = some (.slice p l c) := by rw [cell_of_row _ _ _ _ _ _ q]; exact sgc_leaves seed h n _
  have hb := (Below.refl w.heap.size w).alloc (Nat.le_refl _) (.cells (sgc seed n (.slice p l c)) 31)
  have e1 : ((l : Int) == 16) = decide (l = 16) := by
    by_cases h : l = 16
    · subst h; rfl
    · rw [decide_eq_false h]; simp; omega
  generalize decide (l = 16) = R at *
  generalize sgc seed n (.slice p l c) = C at *
  generalize hX : w.alloc (.cells C 31) = X at *
  have HX := hide hX
  clear q hX
  go_enter Tryd.func24, Tryd.ntmps24
  go_wp2_with (rw [unhide HX])
  go_ret
  exact ⟨rfl, hb⟩
theorem isKey_calls (x : Int) (w : World) :
    Calls Tryd.prog 19 #[.int .i64 x] w fun e w' => e = .returned (.bool (if 0 ≤ x then decide (x < 16) else false)) ∧ w' = w := by
  by_cases h : 0 ≤ x
  · rw [if_pos h]
    go_enter Tryd.func19, Tryd.ntmps19
    go_wp2
    go_ret
    exact ⟨rfl, rfl⟩
  · rw [if_neg h]
    have hd : decide ((0 : Int) ≤ x) = false := by simpa using h
    go_enter Tryd.func19, Tryd.ntmps19
    go_wp2
    go_ret
    exact ⟨rfl, rfl⟩
/-- A signer's leaves. -/
def pLeaves (seed : List UInt8) : List (List UInt8) := (List.range 16).map (pWord seed)
theorem pLeaves_len (seed : List UInt8) : (pLeaves seed).length = 16 := by simp [pLeaves]
theorem pLeaves_32 (seed : List UInt8) : ∀ d ∈ pLeaves seed, d.length = 32 := fun d hd => by
  obtain ⟨i, _, rfl⟩ := List.mem_map.1 hd
  exact pWord_length seed i
set_option maxHeartbeats 4000000 in
set_option maxRecDepth 100000 in
theorem new_calls (seed : List UInt8) (h : seed.length = 32) (w : World) (tabs : Tabs w) :
    Calls Tryd.prog 6 #[.pointer none, .agg (bc seed)] w fun e w' => e = .returned (.agg (sgc seed 0 (.slice (some ⟨w.heap.size + 1 + 1, 0, none⟩) 16 16))) ∧ DL w' (some ⟨w.heap.size + 1 + 1, 0, none⟩) (pLeaves seed) ∧ Below w.heap.size w w' := by
  have A3 := hide (al3 w (.cells (bc seed) 23) (.cells sg0 31) (.cells (bc (List.replicate (32 * 16) 0)) 23))
  have B3 := hide (bel3 w (.cells (bc seed) 23) (.cells sg0 31) (.cells (bc (List.replicate (32 * 16) 0)) 23))
  have mk : ∀ w, (Instr.makeSlice 24 (.int .i64 16) (.int .i64 16)).run Tryd.prog w = .ok (.slice (some ⟨w.heap.size, 0, none⟩) 16 16) (w.alloc (.cells (bc (List.replicate (32 * 16) 0)) 23)) := make_digests 16 (by omega)
  have his := digInfo seed h
  have cw := hide fun (k : Nat) (hk : k < 16) W t => word_calls seed h ((k : Nat) : Int) k (by omega) W t
  have hbs := built_sg seed h (some ⟨w.heap.size + 1 + 1, 0, none⟩) 16 16
  have hsi := sgc_info seed h 0 (.slice (some ⟨w.heap.size + 1 + 1, 0, none⟩) 16 16)
  have hso := sgc_one seed 0 (some ⟨w.heap.size + 1 + 1, 0, none⟩) 16 16
  have hsz := sg0_size seed h 0 (.slice (some ⟨w.heap.size + 1 + 1, 0, none⟩) 16 16)
  have HT := hide tabs
  obtain ⟨F, hF⟩ : ∃ F, pWord seed = F := ⟨_, rfl⟩
  have HFl : Hid (∀ j, (F j).length = 32) := hide (by rw [← hF]; exact pWord_length seed)
  have hpa : Hid (pLeaves seed = (List.range 16).map F) := hide (by unfold pLeaves; rw [hF])
  rw [hF] at cw
  rw [unhide hpa]
  clear hF tabs
  obtain ⟨SG, hSG⟩ : ∃ S, sgc seed 0 (.slice (some ⟨w.heap.size + 1 + 1, 0, none⟩) 16 16) = S := ⟨_, rfl⟩
  rw [hSG] at hbs hsi hso hsz
  rw [hSG]
  have HBS := hide hbs
  clear hSG hbs h
  go_enter Tryd.func6, Tryd.ntmps6
  go_wp2
  change Code.wp _ _ _ _ (((w.alloc (.cells (bc seed) 23)).alloc (.cells sg0 31)).alloc (.cells (bc (List.replicate (32 * 16) 0)) 23))
  obtain ⟨N, hN⟩ : ∃ N, w.heap.size = N := ⟨_, rfl⟩
  have HN := hide hN
  go_loopw [10] (fun i wr => ∃ k : Nat, k ≤ 16 ∧ i = .int .i64 (k : Int) ∧ Below N w wr ∧ wr.heap[N]? = some (.cells (bc seed) 23 (0, 0)) ∧ wr.heap[N + 1]? = some (.cells sg0 31 (0, 0)) ∧ wr.heap[N + 1 + 1]? = some (.cells (bc ((List.range k).flatMap F ++ List.replicate (32 * (16 - k)) 0)) 23 (0, 0))) (fun i _ => 16 - (intOf i).toNat)
  case atStart =>
    subst hN
    refine ⟨0, by omega, rfl, unhide B3, (unhide A3).1, (unhide A3).2.1, ?_⟩
    simpa using (unhide A3).2.2
  case round =>
    obtain ⟨k, hk, rfl, hb, q0, q1, q2⟩ := hrel
    rw [hN]
    clear A3 B3 mk
    by_cases hlt : k < 16
    · have hd : decide (k < 16) = true := by simpa using hlt
      have hd' : decide ((k : Int) < 16) = true := by simp; omega
      have b2 : (0 : Int) ≤ k ∧ (k : Int) < 16 := by omega
      have tb := (unhide HT).below hb (by rw [← hN]; exact Nat.le_refl _)
      have cw' := hide (unhide cw k hlt)
      have hput : Hid (putAt ((List.range k).flatMap F ++ List.replicate (32 * (16 - k)) 0) (k * 32) (F k) = (List.range (k + 1)).flatMap F ++ List.replicate (32 * (16 - (k + 1))) 0) := by
        rw [putAt_zeros _ _ _ _ (by rw [flat_len32 F (unhide HFl)]; omega) (by rw [unhide HFl]; omega), unhide HFl, List.range_succ, List.flatMap_append]
        rw [show 32 * (16 - k) - 32 = 32 * (16 - (k + 1)) by omega]
        exact hide (by simp)
      have hll : Hid (k * 32 + (F k).length ≤ ((List.range k).flatMap F ++ List.replicate (32 * (16 - k)) 0).length) := hide (by rw [List.length_append, flat_len32 F (unhide HFl), List.length_replicate, unhide HFl]; omega)
      have hiF := digInfo (F k) (unhide HFl k)
      generalize F k = FK at *
      have Q0 := hide q0
      have Q1 := hide q1
      have Q2 := hide q2
      have HB := hide hb
      have TB := hide tb
      have Hk := hide hlt
      clear q0 q1 q2 hb tb hlt
      go_wp2_with (refine wpList_load_row rfl 23 (.tmp 3) rfl N rfl 23 _ (0, 0) _ (unhide Q0) Tryd.underlying23 rfl his ?_)
      refine (unhide cw' _ (unhide TB)).mono ?_
      rintro e w2 ⟨rfl, b3⟩
      have p0 := hide (Below.at b3 (Array.getElem?_eq_some_iff.1 (unhide Q0)).1 (unhide Q0))
      have p1 := hide (Below.at b3 (Array.getElem?_eq_some_iff.1 (unhide Q1)).1 (unhide Q1))
      have p2 := hide (Below.at b3 (Array.getElem?_eq_some_iff.1 (unhide Q2)).1 (unhide Q2))
      have BB : Hid (Below N w w2) := hide ((unhide HB).trans (b3.mono (by have := (unhide HB).size; rw [← hN]; exact this)))
      clear b3
      go_wp2_with (refine wpList_store_at rfl 23 (.tmp 19) (.tmp 18) rfl (N + 1 + 1) (k * 32) _ FK 23 (by first | rfl | (simp; done)) rfl (unhide p2) (unhide hll) hiF ?_; intro w3 r1 r2 r3 r4; rw [unhide hput] at r1)
      exact ⟨⟨k + 1, by have := unhide Hk; omega, by go_num, (unhide BB).trans (r4 N (by omega)), (r2 N (by omega)).trans (unhide p0), (r2 (N + 1) (by omega)).trans (unhide p1), r1⟩, by have := unhide Hk; simp [intOf]; omega⟩
    · have hd : decide (k < 16) = false := by simpa using hlt
      have hd' : decide ((k : Int) < 16) = false := by simp; omega
      have hkl : k = 16 := by omega
      rw [hkl, Nat.sub_self, Nat.mul_zero, List.replicate_zero, List.append_nil] at q2
      have Q0 := hide q0
      have Q1 := hide q1
      have Q2 := hide q2
      have HB := hide hb
      have HBS2 := HBS
      rw [hN] at HBS2
      clear q0 q1 q2 hb hkl hlt
      go_wp2_with (first
        | (refine wpList_load_row rfl 23 (.tmp 3) rfl N rfl 23 _ (0, 0) _ (unhide Q0) Tryd.underlying23 rfl his ?_)
        | (refine wpList_build_to rfl 31 _ rfl SG (unhide HBS2) ?_)
        | (refine wpList_store_row rfl 31 (.tmp 4) (.tmp 23) rfl (N + 1) _ rfl rfl 31 _ (unhide Q1) hsi hsz hso ?_))
      exact bodyPost_ret (results_cell_row rfl _ _ (N + 1) _ _ _ _ rfl (setRow_heap _ _ _ _ _ _ (unhide Q1)) Tryd.underlying31 rfl hsi) rfl ⟨rfl, by rw [unhide HN]; exact DL_of_flat F (unhide HFl) 16 ((setRow_other _ _ _ _ (by omega)).trans (unhide Q2)), by rw [unhide HN]; exact below_setRow (unhide HB) (by omega) _⟩
end Go.Proofs.YtonmccmeljeopaaDoor

namespace Go.Proofs.YtonmccmeljeopaaDoor
open Go Go.RowKit
set_option linter.unusedSimpArgs false
set_option linter.unusedVariables false

theorem getD_32 {ds : List (List UInt8)} (h : ∀ d ∈ ds, d.length = 32) (i : Nat) (hi : i < ds.length) : (ds.getD i []).length = 32 := by
  rw [List.getD_eq_getElem?_getD, List.getElem?_eq_getElem hi]; exact h _ (List.getElem_mem _)
set_option maxHeartbeats 4000000 in
set_option maxRecDepth 100000 in
theorem kroot_calls (seed : List UInt8) (h : seed.length = 32) (n : Int) (ds : List (List UInt8)) (hds : ds.length = 16) (p : Option Addr) (c : Nat) (w : World) (hD : DL w p ds) (tabs : Tabs w) :
    Calls Tryd.prog 15 #[.agg (sgc seed n (.slice p 16 c)), .pointer none] w fun e w' => e = .returned (.agg (bc (kRoot ds))) ∧ Below w.heap.size w w' := by
  have A2 := hide (al2 w (.cells (sgc seed n (.slice p 16 c)) 31) (.cells (bc (List.replicate 32 0)) 23))
  have B2 := hide (bel2 w (.cells (sgc seed n (.slice p 16 c)) 31) (.cells (bc (List.replicate 32 0)) 23))
  have hi := sgc_info seed h n (.slice p 16 c)
  have cw := hide fun W => whole_calls seed h n p 16 c W
  have c33 : Hid ((sgc seed n (.slice p 16 c))[33]? = some (.slice p 16 c)) := hide (sgc_leaves seed h n _)
  have HD := hide hD
  have HT := hide tabs
  have Hds := hide hds
  have hRl := kRoot_length ds hds
  have hiR := digInfo _ hRl
  have hzR := zeroSize _ hRl
  have hoR := bc_oneCell (kRoot ds)
  obtain ⟨R, hR⟩ : ∃ R, kRoot ds = R := ⟨_, rfl⟩
  rw [hR] at hRl hiR hzR hoR
  rw [hR]
  have HR := hide hR
  generalize sgc seed n (.slice p 16 c) = C at *
  clear hD tabs hds hR hRl
  go_enter Tryd.func15, Tryd.ntmps15
  go_wp2_with (refine wpList_load_row rfl 31 (.tmp 2) rfl w.heap.size rfl 31 C (0, 0) _ (unhide A2).1 Tryd.underlying31 rfl hi ?_)
  refine (unhide cw _).mono ?_
  rintro e w1 ⟨rfl, b1⟩
  have q0 := Below.at b1 (by simp; omega) (unhide A2).1
  have q1 := Below.at b1 (by simp) (unhide A2).2
  have hb1 : Below w.heap.size w w1 := (unhide B2).trans (b1.mono (unhide B2).size)
  have d33 : w1.cell? ⟨w.heap.size, 33, none⟩ = some (.slice p 16 c) := by rw [cell_of_row _ _ _ _ _ _ q0]; exact unhide c33
  have Q1 := hide q1
  have HB1 := hide hb1
  clear A2 B2 b1 q0 q1 hb1
  go_wp2
  obtain ⟨N, hN⟩ : ∃ N, w.heap.size = N := ⟨_, rfl⟩
  have HN := hide hN
  go_loopw [5, 12] (fun v i wr => ∃ (k : Nat) (p' : Option Addr) (c' : Nat), k ≤ 4 ∧ i = .int .i64 (k : Int) ∧ v = .slice p' (kLev ds k).length c' ∧ DL wr p' (kLev ds k) ∧ Below N w wr ∧ wr.heap[N + 1]? = some (.cells (bc (List.replicate 32 0)) 23 (0, 0))) (fun _ i _ => 4 - (intOf i).toNat)
  case atStart =>
    subst hN
    refine ⟨0, p, c, by omega, rfl, ?_, (unhide HD).below (unhide HB1) (Nat.le_refl _), unhide HB1, unhide Q1⟩
    show _ = Value.slice p ds.length c
    rw [unhide Hds]
  case round =>
    obtain ⟨k, p', c', hk, rfl, rfl, hDk, hb, q1⟩ := hrel
    rw [hN]
    clear d33
    by_cases hlt : k < 4
    · have hd : decide ((k : Int) < 4) = true := by simp; omega
      have hkl := kLev_length ds k
      have tb := (unhide HT).below hb (by rw [← hN]; exact Nat.le_refl _)
      have ca := hide (kabove_calls (kLev ds k) p' c' (by rw [hkl, unhide Hds]; have : 16 / 2 ^ k ≤ 16 := Nat.div_le_self _ _; omega) wr hDk tb)
      have he : Hid (pUp (kLev ds k) = kLev ds (k + 1)) := hide rfl
      rw [unhide he] at ca
      have z1 : N + 1 < wr.heap.size := (Array.getElem?_eq_some_iff.1 q1).1
      have HB := hide hb
      have Q1 := hide q1
      have Z1 := hide z1
      have Hk := hide hlt
      clear hDk hb q1 tb z1 hkl hlt
      generalize (kLev ds k).length = ll at *
      go_wp2_with fail
      refine (unhide ca).mono ?_
      rintro e w2 ⟨⟨g, c2, rfl, hc2, hg, hD2⟩, b2⟩
      have HD2 := hide hD2
      have B2 := hide b2
      clear hD2 b2
      go_wp2
      exact ⟨⟨k + 1, some ⟨g, 0, none⟩, c2, by have := unhide Hk; omega, by go_num, rfl, unhide HD2, (unhide HB).trans ((unhide B2).mono (by have := unhide Z1; omega)), Below.at (unhide B2) (unhide Z1) (unhide Q1)⟩, by have := unhide Hk; simp [intOf]; omega⟩
    · have hd : decide ((k : Int) < 4) = false := by simp; omega
      have hk4 : k = 4 := by omega
      rw [hk4] at hDk
      have hl4 := kLev_length ds 4
      rw [unhide Hds] at hl4
      rw [hk4, hl4]
      obtain ⟨b, off, rfl, hlt2, hc⟩ := hDk.2 (by intro h0; rw [h0] at hl4; simp at hl4)
      have hr := hc 0 (by rw [hl4]; decide)
      have he : (kLev ds 4).getD 0 [] = R := unhide HR
      rw [he] at hr
      have HRl : Hid (R.length = 32) := hide (by rw [← he]; exact getD_32 hDk.1 0 (by rw [hl4]; decide))
      have HRg := hide hr
      have HB := hide hb
      have Q1 := hide q1
      clear hDk hb q1 hc hr he hl4 hk4 hlt
      go_wp2_with (first
        | (refine wpList_load_mid rfl 23 (.tmp 19) rfl b (off + 0 * 32) rfl (Lib.byteCells R) _ (unhide HRg) Tryd.underlying23 rfl (by rw [Lib.byteCells_length, unhide HRl]; kernel_rfl) ?_)
        | (refine wpList_store_row rfl 23 (.tmp 4) (.tmp 20) rfl (N + 1) _ rfl rfl 23 _ (unhide Q1) hiR hzR hoR ?_))
      exact bodyPost_ret (results_cell_row rfl _ _ (N + 1) _ _ _ _ rfl (setRow_heap _ _ _ _ _ _ (unhide Q1)) Tryd.underlying23 rfl hiR) rfl ⟨rfl, by rw [unhide HN]; exact below_setRow (unhide HB) (by omega) _⟩
end Go.Proofs.YtonmccmeljeopaaDoor

namespace Go.Proofs.YtonmccmeljeopaaDoor
open Go Go.RowKit
set_option linter.unusedSimpArgs false
set_option linter.unusedVariables false

theorem kxor_one (M : Nat) (h : M < 9223372036854775808) : bits .xor .i64 (M : Int) 1 = ((M ^^^ 1 : Nat) : Int) := by
  have h63 : M ^^^ 1 < 2 ^ 63 := Nat.xor_lt_two_pow (by omega) (by omega)
  have h1 : (BitVec.ofInt 64 (M : Int)).toNat = M := by
    rw [BitVec.ofInt_natCast, BitVec.toNat_ofNat]; exact Nat.mod_eq_of_lt (by omega)
  have h2 : (BitVec.ofInt 64 (1 : Int)).toNat = 1 := by decide
  show IntKind.i64.wrap ((BitVec.ofInt 64 (M : Int) ^^^ BitVec.ofInt 64 (1 : Int)).toNat : Int) = _
  rw [BitVec.toNat_xor, h1, h2, IntKind.wrap_i64]
  omega

theorem pathAt_length (ds : List (List UInt8)) (hds : ds.length = 16) (h : ∀ d ∈ ds, d.length = 32) (x : Nat) (hx : x < 16) (i : Nat) (hi : i < 4) : (pathAt ds x i).length = 32 := by
  unfold pathAt
  refine getD_32 (kLev_32 ds h i) _ ?_
  rw [kLev_length, hds]; exact side_lt x i hx hi
/-- A path's bytes. -/
def pathB (ds : List (List UInt8)) (x k : Nat) : List UInt8 := (List.range k).flatMap (pathAt ds x)
theorem pathB_length (ds : List (List UInt8)) (hds : ds.length = 16) (h : ∀ d ∈ ds, d.length = 32) (x : Nat) (hx : x < 16) : ∀ k, k ≤ 4 → (pathB ds x k).length = 32 * k
  | 0, _ => rfl
  | k + 1, hk => by
    unfold pathB
    rw [List.range_succ, List.flatMap_append, List.length_append]
    have := pathB_length ds hds h x hx k (by omega)
    unfold pathB at this
    rw [this]
    simp [pathAt_length ds hds h x hx k (by omega)]
    omega
set_option maxHeartbeats 4000000 in
set_option maxRecDepth 100000 in
theorem path_calls (seed : List UInt8) (h : seed.length = 32) (n : Int) (ds : List (List UInt8)) (hds : ds.length = 16) (p : Option Addr) (c : Nat) (x : Nat) (hx : x < 16) (w : World) (hD : DL w p ds) (tabs : Tabs w) :
    Calls Tryd.prog 26 #[.agg (sgc seed n (.slice p 16 c)), .pointer none, .int .i64 (x : Int)] w fun e w' => e = .returned (.slice (some ⟨w.heap.size + 1, 0, none⟩) 4 4) ∧ w'.heap[w.heap.size + 1]? = some (.cells (bc (pathB ds x 4)) 23 (0, 0)) ∧ Below w.heap.size w w' := by
  have A2 := hide (al2 w (.cells (sgc seed n (.slice p 16 c)) 31) (.cells (bc (List.replicate (32 * 4) 0)) 23))
  have B2 := hide (bel2 w (.cells (sgc seed n (.slice p 16 c)) 31) (.cells (bc (List.replicate (32 * 4) 0)) 23))
  have mk : ∀ w, (Instr.makeSlice 24 (.int .i64 4) (.int .i64 4)).run Tryd.prog w = .ok (.slice (some ⟨w.heap.size, 0, none⟩) 4 4) (w.alloc (.cells (bc (List.replicate (32 * 4) 0)) 23)) := make_digests 4 (by omega)
  have d33 : ((w.alloc (.cells (sgc seed n (.slice p 16 c)) 31)).alloc (.cells (bc (List.replicate (32 * 4) 0)) 23)).cell? ⟨w.heap.size, 33, none⟩ = some (.slice p 16 c) := by
    rw [cell_of_row _ _ _ _ _ _ (unhide A2).1]; exact sgc_leaves seed h n _
  have HD := hide hD
  have HT := hide tabs
  have Hds := hide hds
  have Hx := hide hx
  have HPl := hide (pathB_length ds hds hD.1 x hx)
  have HAl := hide (pathAt_length ds hds hD.1 x hx)
  generalize sgc seed n (.slice p 16 c) = C at *
  obtain ⟨Z, hZ⟩ : ∃ Z, List.replicate (32 * 4) (0 : UInt8) = Z := ⟨_, rfl⟩
  rw [hZ] at A2 B2 d33
  simp only [hZ] at mk
  have HZ := hide hZ
  clear hZ
  obtain ⟨X, hX⟩ : ∃ X, (w.alloc (.cells C 31)).alloc (.cells (bc Z) 23) = X := ⟨_, rfl⟩
  rw [hX] at A2 B2 d33
  have HX := hide hX
  clear hD tabs hds hX hx
  go_enter Tryd.func26, Tryd.ntmps26
  go_wp2_with (rw [unhide HX])
  obtain ⟨N, hN⟩ : ∃ N, w.heap.size = N := ⟨_, rfl⟩
  have HN := hide hN
  go_loopw [8, 15] (fun v i wr => ∃ (k : Nat) (p' : Option Addr) (c' : Nat), k ≤ 4 ∧ i = .int .i64 (k : Int) ∧ v = .slice p' (kLev ds k).length c' ∧ DL wr p' (kLev ds k) ∧ Far2 N p' (kLev ds k) ∧ Below N w wr ∧ wr.heap[N + 1]? = some (.cells (bc (pathB ds x k ++ List.replicate (32 * (4 - k)) 0)) 23 (0, 0))) (fun _ i _ => 4 - (intOf i).toNat)
  case atStart =>
    subst hN
    refine ⟨0, p, c, by omega, rfl, ?_, (unhide HD).below (unhide B2) (Nat.le_refl _), far2_of (unhide HD) (Nat.le_refl _), unhide B2, ?_⟩
    · show _ = Value.slice p ds.length c
      rw [unhide Hds]
    · have := (unhide A2).2
      rw [← unhide HZ] at this
      simpa [pathB] using this
  case round =>
    obtain ⟨k, p', c', hk, rfl, rfl, hDk, hfar, hb, q1⟩ := hrel
    rw [hN]
    clear d33 A2 B2 mk
    by_cases hlt : k < 4
    · have hd : decide ((k : Int) < 4) = true := by simp; omega
      have hkl := kLev_length ds k
      rw [unhide Hds] at hkl
      have hs := side_lt x k (unhide Hx) hlt
      obtain ⟨B, hB⟩ : ∃ B, x / 2 ^ k = B := ⟨_, rfl⟩
      have fB : (x : Int) / 2 ^ k = (B : Int) := by rw [← hB]; push_cast; rfl
      have hBl : B < 9223372036854775808 := by rw [← hB]; exact Nat.lt_of_le_of_lt (Nat.div_le_self _ _) (by have := unhide Hx; omega)
      have fX := kxor_one B hBl
      rw [hB] at hs
      have hEl := unhide HAl k hlt
      have hEe : pathAt ds x k = (kLev ds k).getD (B ^^^ 1) [] := by unfold pathAt; rw [hB]
      obtain ⟨Y, hY⟩ : ∃ Y, B ^^^ 1 = Y := ⟨_, rfl⟩
      rw [hY] at hs fX hEe
      rw [← hkl] at hs
      have hne : kLev ds k ≠ [] := by intro h0; rw [h0] at hs; simp at hs
      obtain ⟨b, off, rfl, hlt2, hc⟩ := hDk.2 hne
      have hr := hc Y hs
      rw [← hEe] at hr
      have hfb := hfar hne b off rfl
      have b1 : (0 : Int) ≤ Y ∧ (Y : Int) < ((kLev ds k).length : Int) := by omega
      have b2 : (0 : Int) ≤ k ∧ (k : Int) < 4 := by omega
      have hiE := digInfo _ hEl
      have hput : Hid (putAt (pathB ds x k ++ List.replicate (32 * (4 - k)) 0) (k * 32) (pathAt ds x k) = pathB ds x (k + 1) ++ List.replicate (32 * (4 - (k + 1))) 0) := by
        rw [putAt_zeros _ _ _ _ (by rw [unhide HPl k (by omega)]; omega) (by rw [hEl]; omega), hEl]
        unfold pathB
        rw [List.range_succ, List.flatMap_append]
        rw [show 32 * (4 - k) - 32 = 32 * (4 - (k + 1)) by omega]
        exact hide (by simp)
      have hll : Hid (k * 32 + (pathAt ds x k).length ≤ (pathB ds x k ++ List.replicate (32 * (4 - k)) 0).length) := hide (by rw [List.length_append, unhide HPl k (by omega), List.length_replicate, hEl]; omega)
      have tb := (unhide HT).below hb (by rw [← hN]; exact Nat.le_refl _)
      have ca : Hid (∀ W, DL W (some ⟨b, off, none⟩) (kLev ds k) → Tabs W → _) := hide fun W hW tW => kabove_calls (kLev ds k) (some ⟨b, off, none⟩) c' (by rw [hkl]; have : 16 / 2 ^ k ≤ 16 := Nat.div_le_self _ _; omega) W hW tW
      have he : Hid (pUp (kLev ds k) = kLev ds (k + 1)) := hide rfl
      rw [unhide he] at ca
      have z1 : N + 1 < wr.heap.size := (Array.getElem?_eq_some_iff.1 q1).1
      generalize pathAt ds x k = E at *
      have HDk := hide hDk
      have HB := hide hb
      have Q1 := hide q1
      have Z1 := hide z1
      have Hk := hide hlt
      have HRg := hide hr
      have HEl := hide hEl
      have Hfb := hide hfb
      have Hlt2 := hide hlt2
      have TB := hide tb
      have Hne := hide hne
      obtain ⟨ll, hll2⟩ : ∃ ll, (kLev ds k).length = ll := ⟨_, rfl⟩
      rw [hll2] at b1 ca
      rw [hll2]
      clear hDk hb q1 tb z1 hkl hlt hr hEl hfb hlt2 hne hs hEe hB hBl hY hc hfar hll2
      go_wp2_with (first
        | (refine wpList_load_mid rfl 23 (.tmp 25) rfl b (off + Y * 32) rfl (Lib.byteCells E) _ (unhide HRg) Tryd.underlying23 rfl (by rw [Lib.byteCells_length, unhide HEl]; kernel_rfl) ?_)
        | (refine wpList_store_at rfl 23 (.tmp 27) (.tmp 26) rfl (N + 1) (k * 32) _ E 23 (by first | rfl | (simp; done)) rfl (unhide Q1) (unhide hll) hiE ?_; intro w3 r1 r2 r3 r4; rw [unhide hput] at r1))
      have D3 : DL w3 (some ⟨b, off, none⟩) (kLev ds k) := (unhide HDk).other r3 (fun _ b' off' e' => by
        cases e'
        exact r2 b (by rcases unhide Hfb with h0 | h0 <;> omega))
      have B3 : Below N w w3 := (unhide HB).trans (r4 N (by omega))
      have T3 := (unhide HT).below B3 (by rw [← hN]; exact Nat.le_refl _)
      have z3 : N + 1 < w3.heap.size := by rw [r3]; exact unhide Z1
      refine (unhide ca _ D3 T3).mono ?_
      rintro e w4 ⟨⟨g, c2, rfl, hc2, hg, hD2⟩, b4⟩
      have HD2 := hide hD2
      have B4 := hide b4
      have HB3 := hide B3
      have R1 := hide r1
      have Z3 := hide z3
      have Hg := hide hg
      clear hD2 b4 B3 r1 r2 r3 r4 D3 T3 z3 hg
      go_wp2
      exact ⟨⟨k + 1, some ⟨g, 0, none⟩, c2, by have := unhide Hk; omega, by go_num, rfl, unhide HD2, fun _ b' off' e' => by (cases e'; have := unhide Hg; have := unhide Z3; omega), (unhide HB3).trans ((unhide B4).mono (by have := unhide Z3; omega)), Below.at (unhide B4) (unhide Z3) (unhide R1)⟩, by have := unhide Hk; simp [intOf]; omega⟩
    · have hd : decide ((k : Int) < 4) = false := by simp; omega
      have hk4 : k = 4 := by omega
      rw [hk4, Nat.sub_self, Nat.mul_zero, List.replicate_zero, List.append_nil] at q1
      have HB := hide hb
      have Q1 := hide q1
      clear hDk hb q1 hk4 hlt hfar
      go_wp2
      go_ret
      exact ⟨by rw [unhide HN]; rfl, by rw [unhide HN]; exact unhide Q1, by rw [unhide HN]; exact unhide HB⟩
end Go.Proofs.YtonmccmeljeopaaDoor

namespace Go.Proofs.YtonmccmeljeopaaDoor
open Go Go.RowKit
set_option linter.unusedSimpArgs false
set_option linter.unusedVariables false

/-- A signature of a key, in memory: its cells, and the three lists. -/
structure SigAt (w : World) (B : Nat) (seed d : List UInt8) (ds : List (List UInt8)) (x : Nat) (cs : Array Value) : Prop where
  ex : ∃ g gp : Nat, B ≤ g ∧ B ≤ gp ∧ cs = #[.int .i64 (x : Int), .slice (some ⟨g, 0, none⟩) 32 32, .slice (some ⟨g + 1, 0, none⟩) 32 32, .slice (some ⟨gp, 0, none⟩) 4 4] ∧
    w.heap[g]? = some (.cells (bc (pParts seed x d 32)) 23 (0, 0)) ∧ w.heap[g + 1]? = some (.cells (bc (pOthers seed x d 32)) 23 (0, 0)) ∧ w.heap[gp]? = some (.cells (bc (pathB ds x 4)) 23 (0, 0))
theorem SigAt.below {w w' : World} {B : Nat} {seed d : List UInt8} {ds : List (List UInt8)} {x : Nat} {cs : Array Value} (h : SigAt w B seed d ds x cs) (hb : Below w.heap.size w w') : SigAt w' B seed d ds x cs := by
  obtain ⟨g, gp, h1, h2, h3, h4, h5, h6⟩ := h.ex
  exact ⟨g, gp, h1, h2, h3, Below.at hb (Array.getElem?_eq_some_iff.1 h4).1 h4, Below.at hb (Array.getElem?_eq_some_iff.1 h5).1 h5, Below.at hb (Array.getElem?_eq_some_iff.1 h6).1 h6⟩
theorem SigAt.size {w : World} {B : Nat} {seed d : List UInt8} {ds : List (List UInt8)} {x : Nat} {cs : Array Value} (h : SigAt w B seed d ds x cs) : cs.size = 4 ∧ cs.all (·.oneCell') = true := by
  obtain ⟨g, gp, h1, h2, rfl, h4, h5, h6⟩ := h.ex
  exact ⟨rfl, by simp [Value.oneCell']⟩
def sigZ : Array Value := #[.int .i64 0, .slice none 0 0, .slice none 0 0, .slice none 0 0]
theorem sig_info (cs : Array Value) (h : cs.size = 4) : (Tryd.prog.info? 26).map (·.size) = some cs.size := by rw [h]; kernel_rfl
set_option maxHeartbeats 4000000 in
set_option maxRecDepth 100000 in
theorem again_calls (seed : List UInt8) (h : seed.length = 32) (n : Int) (ds : List (List UInt8)) (hds : ds.length = 16) (p : Option Addr) (c : Nat) (x : Nat) (hx : x < 16) (d : List UInt8) (hd : d.length = 32) (w : World) (hD : DL w p ds) (tabs : Tabs w) :
    Calls Tryd.prog 11 #[.agg (sgc seed n (.slice p 16 c)), .pointer none, .int .i64 (x : Int), .agg (bc d)] w fun e w' => (∃ cs, e = .returned (.tuple #[.agg cs, .int .i64 0]) ∧ SigAt w' w.heap.size seed d ds x cs) ∧ Below w.heap.size w w' := by
  have A3 := al3 w (.cells (sgc seed n (.slice p 16 c)) 31) (.cells (bc d) 23) (.cells sigZ 26)
  have B3 := bel3 w (.cells (sgc seed n (.slice p 16 c)) 31) (.cells (bc d) 23) (.cells sigZ 26)
  obtain ⟨q0, q1, q2⟩ := A3
  have hi := sgc_info seed h n (.slice p 16 c)
  have hid := digInfo d hd
  have cw := hide fun W => whole_calls seed h n p 16 c W
  have ck := hide fun W => isKey_calls (x : Int) W
  have hkk : (if (0 : Int) ≤ (x : Int) then decide ((x : Int) < 16) else false) = true := by rw [if_pos (by omega)]; simp; omega
  rw [hkk] at ck
  have cs := hide fun W t => sign_calls seed h d hd (x : Int) x (by omega) W t
  have cp := hide fun W hW t => path_calls seed h n ds hds p c x hx W hW t
  have hsd : Hid (∀ W : World, W.heap[w.heap.size]? = some (.cells (sgc seed n (.slice p 16 c)) 31 (0, 0)) → W.rangeAt w.heap.size 0 (Lib.byteCells seed)) := fun W hW => sgc_seed seed h n _ W _ _ hW
  have HD := hide hD
  have HT := hide tabs
  have Hs := hide h
  have hsz : sigZ.size = 4 := rfl
  generalize sgc seed n (.slice p 16 c) = C at *
  clear hD tabs hkk h hd hds hx
  go_enter Tryd.func11, Tryd.ntmps11
  go_wp2_with (refine wpList_load_row rfl 31 (.tmp 4) rfl w.heap.size rfl 31 C (0, 0) _ q0 Tryd.underlying31 rfl hi ?_)
  refine (unhide cw _).mono ?_
  rintro e w1 ⟨rfl, b1⟩
  have p0 := Below.at b1 (Array.getElem?_eq_some_iff.1 q0).1 q0
  have p1 := Below.at b1 (Array.getElem?_eq_some_iff.1 q1).1 q1
  have p2 := Below.at b1 (Array.getElem?_eq_some_iff.1 q2).1 q2
  have hb1 : Below w.heap.size w w1 := B3.trans (b1.mono B3.size)
  clear q0 q1 q2 B3 b1
  go_wp2_with fail
  refine (unhide ck _).mono ?_
  rintro e w1' ⟨rfl, rfl⟩
  have rs := hide (unhide hsd _ p0)
  go_wp2_with (first
    | (refine wpList_load_mid rfl 23 (.tmp 23) rfl w.heap.size 0 rfl (Lib.byteCells seed) _ (unhide rs) Tryd.underlying23 rfl (by rw [Lib.byteCells_length, unhide Hs]; kernel_rfl) ?_)
    | (refine wpList_load_row rfl 23 (.tmp 7) rfl (w.heap.size + 1) rfl 23 _ (0, 0) _ p1 Tryd.underlying23 rfl hid ?_))
  refine (unhide cs _ ((unhide HT).below hb1 (Nat.le_refl _))).mono ?_
  rintro e w2 ⟨g, hg, rfl, b2, s1, s2⟩
  have p0' := Below.at b2 (Array.getElem?_eq_some_iff.1 p0).1 p0
  have p2' := Below.at b2 (Array.getElem?_eq_some_iff.1 p2).1 p2
  have hb2 : Below w.heap.size w w2 := hb1.trans (b2.mono hb1.size)
  have hg' : w.heap.size ≤ g := Nat.le_trans hb1.size hg
  have hg2 : w.heap.size + 1 + 1 < g := Nat.lt_of_lt_of_le (Array.getElem?_eq_some_iff.1 p2).1 hg
  clear p0 p1 p2 b2 rs hb1
  go_wp2_with (refine wpList_load_row rfl 31 (.tmp 4) rfl w.heap.size rfl 31 C (0, 0) _ p0' Tryd.underlying31 rfl hi ?_)
  refine (unhide cp _ ((unhide HD).below hb2 (Nat.le_refl _)) ((unhide HT).below hb2 (Nat.le_refl _))).mono ?_
  rintro e w3 ⟨rfl, s3, b3⟩
  have r2 := Below.at b3 (Array.getElem?_eq_some_iff.1 p2').1 p2'
  have s1' := Below.at b3 (Array.getElem?_eq_some_iff.1 s1).1 s1
  have s2' := Below.at b3 (Array.getElem?_eq_some_iff.1 s2).1 s2
  have hb3 : Below w.heap.size w w3 := hb2.trans (b3.mono hb2.size)
  have z2 := hb2.size
  obtain ⟨gp, hgp⟩ : ∃ gp, w2.heap.size + 1 = gp := ⟨_, rfl⟩
  rw [hgp] at s3
  rw [hgp]
  have hgp' : w.heap.size + 1 + 1 < gp := by have := (Array.getElem?_eq_some_iff.1 p2').1; omega
  clear p0' p2' s1 s2 b3 hb2 hgp
  obtain ⟨CS, hCS⟩ : ∃ CS, #[Value.int .i64 (x : Int), .slice (some ⟨g, 0, none⟩) 32 32, .slice (some ⟨g + 1, 0, none⟩) 32 32, .slice (some ⟨gp, 0, none⟩) 4 4] = CS := ⟨_, rfl⟩
  have hci := sig_info CS (by rw [← hCS]; rfl)
  have hco : CS.all (·.oneCell') = true := by rw [← hCS]; simp [Value.oneCell']
  have hcz : sigZ.size = CS.size := by rw [← hCS]; rfl
  have HCS := hide hCS
  have S1 := hide s1'
  have S2 := hide s2'
  have S3 := hide s3
  have Hg := hide hg'
  have Hgp := hide hgp'
  have Hg2 := hide hg2
  clear s1' s2' s3 hg' hgp' hg hCS hg2 z2
  go_wp2_with (refine wpList_store_row rfl 26 (.tmp 8) (.tmp 37) rfl (w.heap.size + 1 + 1) CS rfl (congrArg Value.agg (unhide HCS)) 26 _ r2 hci hcz hco ?_)
  refine bodyPost_ret (results_row_tmp rfl _ _ (w.heap.size + 1 + 1) _ _ _ _ rfl (setRow_heap _ _ _ _ _ _ r2) Tryd.underlying26 rfl hci) rfl ⟨⟨CS, rfl, ⟨g, gp, unhide Hg, by have := unhide Hgp; omega, (unhide HCS).symm, ?_, ?_, ?_⟩⟩, below_setRow hb3 (by omega) _⟩
  · exact (setRow_other _ _ _ _ (by have := unhide Hg2; omega)).trans (unhide S1)
  · exact (setRow_other _ _ _ _ (by have := unhide Hg2; omega)).trans (unhide S2)
  · exact (setRow_other _ _ _ _ (by have := unhide Hgp; omega)).trans (unhide S3)
end Go.Proofs.YtonmccmeljeopaaDoor

namespace Go.Proofs.YtonmccmeljeopaaDoor
open Go Go.RowKit
set_option linter.unusedSimpArgs false
set_option linter.unusedVariables false

theorem kand_one (M : Nat) (h : M < 9223372036854775808) : bits .and .i64 (M : Int) 1 = ((M % 2 : Nat) : Int) := by
  have h1 : (BitVec.ofInt 64 (M : Int)).toNat = M := by
    rw [BitVec.ofInt_natCast, BitVec.toNat_ofNat]; exact Nat.mod_eq_of_lt (by omega)
  have h2 : (BitVec.ofInt 64 (1 : Int)).toNat = 1 := by decide
  show IntKind.i64.wrap ((BitVec.ofInt 64 (M : Int) &&& BitVec.ofInt 64 (1 : Int)).toNat : Int) = _
  rw [BitVec.toNat_and, h1, h2, Nat.and_one_is_mod, IntKind.wrap_i64]
  omega
set_option maxHeartbeats 4000000 in
set_option maxRecDepth 100000 in
theorem kclimb_calls (leaf : List UInt8) (hl : leaf.length = 32) (x : Nat) (hx : x < 4294967296) (ds : List (List UInt8)) (p : Option Addr) (cap : Nat) (hlen : ds.length ≤ 60) (w : World) (hD : DL w p ds) (tabs : Tabs w) :
    Calls Tryd.prog 21 #[.pointer none, .agg (bc leaf), .int .i64 (x : Int), .slice p ds.length cap] w fun e w' => e = .returned (.agg (bc (kClimb leaf x ds ds.length))) ∧ Below w.heap.size w w' := by
  have A3 := hide (al3 w (.cells (bc leaf) 23) (.cells (bc (List.replicate 32 0)) 23) (.cells (bc (List.replicate 32 0)) 23))
  have B3 := hide (bel3 w (.cells (bc leaf) 23) (.cells (bc (List.replicate 32 0)) 23) (.cells (bc (List.replicate 32 0)) 23))
  have hil := digInfo leaf hl
  have hzl := zeroSize leaf hl
  have hol := bc_oneCell leaf
  have HD := hide hD
  have HT := hide tabs
  have HL := hide (kClimb_length leaf x ds hl)
  have Hx := hide hx
  have Hlen := hide hlen
  clear tabs hD hx hlen
  go_enter Tryd.func21, Tryd.ntmps21
  go_wp2_with (first
    | refine wpList_load_row rfl 23 (.tmp 5) rfl w.heap.size rfl 23 _ (0, 0) _ (al2 w (.cells (bc leaf) 23) (.cells (bc (List.replicate 32 0)) 23)).1 Tryd.underlying23 rfl hil ?_
    | refine wpList_store_row rfl 23 (.tmp 9) (.tmp 12) rfl (w.heap.size + 1 + 1) _ rfl rfl 23 _ (unhide A3).2.2 hil hzl hol ?_)
  obtain ⟨N, hN⟩ : ∃ N, w.heap.size = N := ⟨_, rfl⟩
  have HN := hide hN
  go_loopw [15] (fun i wr => ∃ k : Nat, k ≤ ds.length ∧ i = .int .i64 (k : Int) ∧ Below N w wr ∧ wr.heap[N + 1]? = some (.cells (bc (List.replicate 32 0)) 23 (0, 0)) ∧ wr.heap[N + 1 + 1]? = some (.cells (bc (kClimb leaf x ds k)) 23 (0, 0))) (fun i _ => ds.length - (intOf i).toNat)
  case atStart =>
    subst hN
    refine ⟨0, by omega, rfl, below_setRow (unhide B3) (by omega) _, ?_, ?_⟩
    · exact (setRow_other _ _ _ _ (by omega)).trans (unhide A3).2.1
    · exact setRow_heap _ _ _ _ _ _ (unhide A3).2.2
  case round =>
    obtain ⟨k, hk, rfl, hb, q1, q2⟩ := hrel
    rw [hN]
    clear A3 B3
    by_cases hlt : k < ds.length
    · have hd : decide (k < ds.length) = true := by simpa using hlt
      have hDk := unhide HD
      obtain ⟨b, off, rfl, hlt2, hc⟩ := hDk.2 (by intro h; rw [h] at hlt; simp at hlt)
      have hEl := hDk.len k hlt
      have hr := rangeAt_below (hc k hlt) hb (by rw [← hN]; exact hlt2)
      have hTl := unhide HL k
      have hT2l := unhide HL (k + 1)
      have hT2e : kClimb leaf x ds (k + 1) = if x / 2 ^ k % 2 = 1 then pOf 4 [ds.getD k [], kClimb leaf x ds k] else pOf 4 [kClimb leaf x ds k, ds.getD k []] := rfl
      obtain ⟨E, hE⟩ : ∃ E, ds.getD k [] = E := ⟨_, rfl⟩
      rw [hE] at hEl hr hT2e
      obtain ⟨T1, hT1⟩ : ∃ T, kClimb leaf x ds k = T := ⟨_, rfl⟩
      rw [hT1] at hTl q2 hT2e
      obtain ⟨T2, hT2⟩ : ∃ T, kClimb leaf x ds (k + 1) = T := ⟨_, rfl⟩
      rw [hT2] at hT2e hT2l
      obtain ⟨B, hB⟩ : ∃ B, x / 2 ^ k = B := ⟨_, rfl⟩
      have hBl : B < 9223372036854775808 := by rw [← hB]; exact Nat.lt_of_le_of_lt (Nat.div_le_self _ _) (by have := unhide Hx; omega)
      have fB : (x : Int) / 2 ^ k = (B : Int) := by rw [← hB]; push_cast; rfl
      have fA := kand_one B hBl
      rw [hB] at hT2e
      have hk60 : k ≤ 60 := by have := unhide Hlen; omega
      have hiT := digInfo _ hTl
      have hiE := digInfo _ hEl
      have hi2 := digInfo _ hT2l
      have ho2 := bc_oneCell T2
      have hz2 : (bc T1).size = (bc T2).size := by rw [bc_size, bc_size, hTl, hT2l]
      have hzE := zeroSize E hEl
      have b1 : (0 : Int) ≤ k ∧ (k : Int) < ds.length := by omega
      have HR := hide hr
      have HEl := hide hEl
      have HTl := hide hTl
      have HT2 := hide hT2
      have HT2e := hide hT2e
      have Q1 := hide q1
      have Q2 := hide q2
      have HB := hide hb
      have Hk := hide hlt
      clear q1 q2 hb hlt hT2 hT2e hE hT1 hr hc hlt2 hB hEl hTl hT2l hDk hBl
      by_cases hbit : B % 2 = 1
      · have e1 := unhide HT2e
        rw [if_pos hbit] at e1
        have kN : Hid (∀ W, Tabs W → Calls Tryd.prog 39 #[.pointer none, .int .u8 4, .agg (bc E), .agg (bc T1)] W fun e w'' => e = .returned (.agg (bc T2)) ∧ Below W.heap.size W w'') := hide fun W tW => by
          rw [e1]; exact twoD_calls 4 (by decide) E T1 (unhide HEl) (unhide HTl) W tW
        rw [hbit] at fA
        clear e1 HT2e hbit
        go_wp2_with (first
          | (refine wpList_load_mid rfl 23 (.tmp 18) rfl b (off + k * 32) rfl (Lib.byteCells E) _ (unhide HR) Tryd.underlying23 rfl (by rw [Lib.byteCells_length, unhide HEl]; kernel_rfl) ?_)
          | (refine wpList_store_new rfl 23 (.tmp 11) (.tmp 19) rfl wr _ _ E rfl rfl hiE hzE ?_; intro w2 q3 b2 z2; have r2 := Below.at b2 (Array.getElem?_eq_some_iff.1 (unhide Q2)).1 (unhide Q2))
          | (refine wpList_load_row rfl 23 (.tmp 11) rfl wr.heap.size rfl 23 _ (0, 0) _ q3 Tryd.underlying23 rfl hiE ?_)
          | (refine wpList_load_row rfl 23 (.tmp 9) rfl (N + 1 + 1) rfl 23 _ (0, 0) _ r2 Tryd.underlying23 rfl hiT ?_))
        have bb2 : Below N w w2 := (unhide HB).trans (b2.mono (by have := (unhide HB).size; rw [← hN]; exact this))
        refine (unhide kN _ ((unhide HT).below bb2 (by rw [← hN]; exact Nat.le_refl _))).mono ?_
        rintro e w3 ⟨rfl, b3⟩
        have r1 := Below.at b2 (Array.getElem?_eq_some_iff.1 (unhide Q1)).1 (unhide Q1)
        have s1 := Below.at b3 (Array.getElem?_eq_some_iff.1 r1).1 r1
        have s2 := Below.at b3 (Array.getElem?_eq_some_iff.1 r2).1 r2
        have bb3 : Below N w w3 := bb2.trans (b3.mono (by have := bb2.size; rw [← hN]; exact this))
        clear b2 b3 r1 r2 z2 q3
        go_wp2_with (refine wpList_store_row rfl 23 (.tmp 9) (.tmp 28) rfl (N + 1 + 1) _ rfl rfl 23 _ s2 hi2 hz2 ho2 ?_)
        refine ⟨⟨k + 1, by have := unhide Hk; omega, by go_num, below_setRow bb3 (by omega) _, ?_, ?_⟩, by have := unhide Hk; simp [intOf]; omega⟩
        · rw [setRow_other _ _ _ _ (by omega)]; exact s1
        · rw [unhide HT2]; exact setRow_heap _ _ _ _ _ _ s2
      · have e1 := unhide HT2e
        rw [if_neg hbit] at e1
        have kN : Hid (∀ W, Tabs W → Calls Tryd.prog 39 #[.pointer none, .int .u8 4, .agg (bc T1), .agg (bc E)] W fun e w'' => e = .returned (.agg (bc T2)) ∧ Below W.heap.size W w'') := hide fun W tW => by
          rw [e1]; exact twoD_calls 4 (by decide) T1 E (unhide HTl) (unhide HEl) W tW
        rw [show B % 2 = 0 by omega] at fA
        clear e1 HT2e hbit
        go_wp2_with (first
          | (refine wpList_load_mid rfl 23 (.tmp 18) rfl b (off + k * 32) rfl (Lib.byteCells E) _ (unhide HR) Tryd.underlying23 rfl (by rw [Lib.byteCells_length, unhide HEl]; kernel_rfl) ?_)
          | (refine wpList_store_new rfl 23 (.tmp 11) (.tmp 19) rfl wr _ _ E rfl rfl hiE hzE ?_; intro w2 q3 b2 z2; have r2 := Below.at b2 (Array.getElem?_eq_some_iff.1 (unhide Q2)).1 (unhide Q2))
          | (refine wpList_load_row rfl 23 (.tmp 11) rfl wr.heap.size rfl 23 _ (0, 0) _ q3 Tryd.underlying23 rfl hiE ?_)
          | (refine wpList_load_row rfl 23 (.tmp 9) rfl (N + 1 + 1) rfl 23 _ (0, 0) _ r2 Tryd.underlying23 rfl hiT ?_))
        have bb2 : Below N w w2 := (unhide HB).trans (b2.mono (by have := (unhide HB).size; rw [← hN]; exact this))
        refine (unhide kN _ ((unhide HT).below bb2 (by rw [← hN]; exact Nat.le_refl _))).mono ?_
        rintro e w3 ⟨rfl, b3⟩
        have r1 := Below.at b2 (Array.getElem?_eq_some_iff.1 (unhide Q1)).1 (unhide Q1)
        have s1 := Below.at b3 (Array.getElem?_eq_some_iff.1 r1).1 r1
        have s2 := Below.at b3 (Array.getElem?_eq_some_iff.1 r2).1 r2
        have bb3 : Below N w w3 := bb2.trans (b3.mono (by have := bb2.size; rw [← hN]; exact this))
        clear b2 b3 r1 r2 z2 q3
        go_wp2_with (refine wpList_store_row rfl 23 (.tmp 9) (.tmp 32) rfl (N + 1 + 1) _ rfl rfl 23 _ s2 hi2 hz2 ho2 ?_)
        refine ⟨⟨k + 1, by have := unhide Hk; omega, by go_num, below_setRow bb3 (by omega) _, ?_, ?_⟩, by have := unhide Hk; simp [intOf]; omega⟩
        · rw [setRow_other _ _ _ _ (by omega)]; exact s1
        · rw [unhide HT2]; exact setRow_heap _ _ _ _ _ _ s2
    · have hd : decide (k < ds.length) = false := by simpa using hlt
      have hkl : k = ds.length := by omega
      have hM1 := unhide HL ds.length
      have hi := digInfo _ hM1
      have hz := zeroSize _ hM1
      have ho := bc_oneCell (kClimb leaf x ds ds.length)
      rw [hkl] at q2
      have Q1 := hide q1
      have Q2 := hide q2
      have HB := hide hb
      clear q1 q2 hb hkl hlt hM1
      go_wp2_with (first
        | refine wpList_load_row rfl 23 (.tmp 9) rfl (N + 1 + 1) rfl 23 _ (0, 0) _ (unhide Q2) Tryd.underlying23 rfl hi ?_
        | refine wpList_store_row rfl 23 (.tmp 8) (.tmp 34) rfl (N + 1) _ rfl rfl 23 _ (unhide Q1) hi hz ho ?_)
      exact bodyPost_ret (results_cell_row rfl _ _ (N + 1) _ _ _ _ rfl (setRow_heap _ _ _ _ _ _ (unhide Q1)) Tryd.underlying23 rfl hi) rfl ⟨rfl, by rw [unhide HN]; exact below_setRow (unhide HB) (by omega) _⟩
end Go.Proofs.YtonmccmeljeopaaDoor

namespace Go.Proofs.YtonmccmeljeopaaDoor
open Go Go.RowKit
set_option linter.unusedSimpArgs false
set_option linter.unusedVariables false

/-- A claim; a halt. -/
def pClaim (home : Nat) (a b : List UInt8) : List UInt8 := pOf 7 [pBig home 4, a, b]
def pHalt (home : Nat) (a : List UInt8) (x : Int) : List UInt8 := pOf 9 [pBig home 4, a, pBig (x % 4294967296).toNat 4]
theorem strsAt_three (w : World) (l0 l1 l2 : List UInt8) (t : TypeId) : StrsAt (w.alloc (.cells #[.string (str l0), .string (str l1), .string (str l2)] t)) (some ⟨w.heap.size, 0, none⟩) [l0, l1, l2] := by
  refine .inr ⟨w.heap.size, 0, rfl, by simp, fun j hj => ?_⟩
  match j, hj with
  | 0, _ => go_simp
  | 1, _ => go_simp
  | 2, _ => go_simp
  | j + 3, hj => simp at hj; omega
end Go.Proofs.YtonmccmeljeopaaDoor
