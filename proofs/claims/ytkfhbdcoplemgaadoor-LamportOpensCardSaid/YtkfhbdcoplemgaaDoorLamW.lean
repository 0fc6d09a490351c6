/-
  WHAT THE WORD OF ALL PUBLICS IS, where there is no log.
-/
import Derived.Test.YtkfhbdcoplemgaaDoorLamB
import Derived.Test.YtkfhbdcoplemgaaDoorMidB
namespace Go.Proofs.YtkfhbdcoplemgaaDoor
open Go.RowKit
set_option linter.unusedSimpArgs false
set_option linter.unusedVariables false

/-- The word of publics, of all their bytes. -/
def pWordOf (L : List UInt8) : List UInt8 := pOf 3 [L]
theorem bc_extract (L : List UInt8) (o n : Nat) : (bc L).extract o (o + n) = bc ((L.drop o).take n) := by
  unfold bc Lib.byteCells
  simp [List.map_take, List.map_drop, List.extract_eq_take_drop]
theorem index_pair (L : List UInt8) (k : Nat) (hk : k < 32) (w : World) : (Instr.index 84 (.agg (bc L)) (.int .i64 (k : Int))).run Tryd.prog w = .ok (.agg (bc ((L.drop (64 * k)).take 64))) w := by
  have h1 : (isAgg 82).run Tryd.prog w = .ok true w := Tryd.isAgg82 w
  have h2 : (sizeOf 82).run Tryd.prog w = .ok 64 w := Tryd.sizeOf82 w
  have e := bc_extract L (64 * k) 64
  simp [Instr.index, asIntOf, run_underlying Tryd.underlying84, hk, part, h1, h2]
  rw [Nat.mul_comm k 64]; exact e
theorem index_one (L : List UInt8) (k : Nat) (hk : k < 2) (w : World) : (Instr.index 82 (.agg (bc L)) (.int .i64 (k : Int))).run Tryd.prog w = .ok (.agg (bc ((L.drop (32 * k)).take 32))) w := by
  have h1 : (isAgg 24).run Tryd.prog w = .ok true w := Tryd.isAgg24 w
  have h2 : (sizeOf 24).run Tryd.prog w = .ok 32 w := Tryd.sizeOf24 w
  have e := bc_extract L (32 * k) 32
  simp [Instr.index, asIntOf, run_underlying Tryd.underlying82, hk, part, h1, h2]
  rw [Nat.mul_comm k 32]; exact e
theorem pubsInfo (l : List UInt8) (h : l.length = 2048) : (Tryd.prog.info? 84).map (·.size) = some (bc l).size := by rw [bc_size, h]; kernel_rfl
theorem pairInfo (l : List UInt8) (h : l.length = 64) : (Tryd.prog.info? 82).map (·.size) = some (bc l).size := by rw [bc_size, h]; kernel_rfl
theorem zeroSize64 (l : List UInt8) (h : l.length = 64) : (bc (List.replicate 64 (0 : UInt8))).size = (bc l).size := by rw [bc_size, bc_size, h]; rfl
theorem take_chunk (L : List UInt8) (a n : Nat) : L.take (a + n) = L.take a ++ (L.drop a).take n := List.take_add
set_option maxHeartbeats 4000000 in
set_option maxRecDepth 100000 in
theorem wordOf_calls (L : List UInt8) (hL : L.length = 2048) (w : World) (tabs : Tabs w) :
    Calls Tryd.prog 48 #[.agg (bc L), .pointer none] w fun e w' => e = .returned (.agg (bc (pWordOf L))) ∧ Below w.heap.size w w' := by
  have co := fun g w hs tabs => ofNil_calls 3 (by decide) [L] (by simp; omega) (by simp) (some ⟨g, 0, none⟩) 1 w hs tabs
  have hD := pOf_length 3 [L]
  have hi1 := digInfo (pOf 3 [L]) hD
  have hz1 := zeroSize (pOf 3 [L]) hD
  have ho1 := bc_oneCell (pOf 3 [L])
  have hiL := pubsInfo L hL
  show Calls _ _ _ _ fun e w' => e = .returned (.agg (bc (pOf 3 [L]))) ∧ _
  generalize pOf 3 [L] = D at *
  have CO := hide co
  have HT := hide tabs
  clear co tabs
  go_enter Tryd.func48, Tryd.ntmps48
  have hA := al2 w (.cells (bc L) 84) (.cells (bc (List.replicate 32 0)) 24)
  have hbA := bel2 w (.cells (bc L) 84) (.cells (bc (List.replicate 32 0)) 24)
  have hbld := Lib.IsBuilderF.of (Lib.fresh_isBuilder 95 5 ((w.alloc (.cells (bc L) 84)).alloc (.cells (bc (List.replicate 32 0)) 24)))
  go_wp2_with (refine wpList_load_row rfl 84 (.tmp 2) rfl w.heap.size rfl 84 _ (0, 0) _ ((Below.heap_alloc _ _ _ (by simp; omega)).trans hA.1) Tryd.underlying84 rfl hiL ?_)
  have hszX : ((w.alloc (.cells (bc L) 84)).alloc (.cells (bc (List.replicate 32 0)) 24)).heap.size = w.heap.size + 1 + 1 := by simp
  have hb00 := (Below.refl ((w.alloc (.cells (bc L) 84)).alloc (.cells (bc (List.replicate 32 0)) 24)).heap.size ((w.alloc (.cells (bc L) 84)).alloc (.cells (bc (List.replicate 32 0)) 24))).alloc (Nat.le_refl _) (.cells #[.pointer none, .slice none 0 0] 95)
  rw [hszX] at hbld hb00
  generalize hX : ((w.alloc (.cells (bc L) 84)).alloc (.cells (bc (List.replicate 32 0)) 24)) = X at hbld hb00 hA hbA hszX
  have hq0 := hA.2
  have HbX := hide hbA
  have hb0' := hide hb00
  have hbld' := hide hbld
  have HQ0 := hide hq0
  have HszX := hide hszX
  have HX := hide hX
  clear hA hbA hb00 hbld hq0 hX hszX
  go_loopw [7, 9, 11] (fun _ _ i wr => ∃ k : Nat, k ≤ 32 ∧ i = .int .i64 (k : Int) ∧ Lib.IsBuilderF 95 5 (w.heap.size + 1 + 1) (w.heap.size + 1 + 1) (Lib.byteCells (L.take (64 * k))) wr ∧ Below (w.heap.size + 1 + 1) X wr) (fun _ _ i _ => 32 - (intOf i).toNat)
  case atStart =>
    have h1 := unhide hbld'
    have h2 := unhide hb0'
    rw [← unhide HX] at h1
    rw [← unhide HX] at h2 ⊢
    exact ⟨0, by omega, rfl, by rw [Nat.mul_zero, List.take_zero]; exact h1, h2⟩
  case round =>
    clear hb0' hbld'
    obtain ⟨k, hk, rfl, hB, hb⟩ := hrel
    have hzw : w.heap.size + 1 + 1 ≤ wr.heap.size := by have := hb.size; rw [unhide HszX] at this; exact this
    by_cases hlt : k < 32
    · have hd1 : decide ((k : Int) < 32) = true := by simp; omega
      have hix := fun w => index_pair L k hlt w
      have hC : ((L.drop (64 * k)).take 64).length = 64 := by rw [List.length_take, List.length_drop]; omega
      have hsub : ∀ j, j < 2 → L.take (64 * k + 32 * (j + 1)) = L.take (64 * k + 32 * j) ++ ((((L.drop (64 * k)).take 64).drop (32 * j)).take 32) := fun j hj => by
        rw [show 64 * k + 32 * (j + 1) = (64 * k + 32 * j) + 32 by omega, take_chunk, List.drop_take, List.drop_drop, List.take_take, Nat.min_eq_left (by omega)]
      generalize hCC : (L.drop (64 * k)).take 64 = C at *
      have hi2 := pairInfo C hC
      have ho2 := bc_oneCell C
      have hz2 := zeroSize64 C hC
      have Hsub := hide hsub
      have Hix := hide hix
      clear hsub hCC
      have hix := unhide Hix
      go_wp2_with (first
        | (refine wpList_store_row rfl 82 (.tmp 7) (.tmp 13) rfl wr.heap.size _ rfl rfl 82 _ (al1 _ _) hi2 hz2 ho2 ?_)
        | (refine wpList_load_row rfl 82 (.tmp 7) rfl wr.heap.size rfl 82 _ (0, 0) _ (setRow_heap _ _ _ (bc C) _ _ (al1 wr (.cells (bc (List.replicate 64 0)) 82))) Tryd.underlying82 rfl hi2 ?_))
      have hw1 := below_setRow ((Below.refl wr.heap.size wr).alloc (Nat.le_refl _) (.cells (bc (List.replicate 64 0)) 82)) (Nat.le_refl _) (bc C)
      have hB1 := hide (isBuilder_below hB hw1)
      have hb1 := hide (hb.trans (hw1.mono hzw))
      clear hix hw1 hi2 ho2 hz2
      go_loopw [9, 15] (fun _ b wr2 => ∃ j : Nat, j ≤ 2 ∧ b = .int .i64 (j : Int) ∧ Lib.IsBuilderF 95 5 (w.heap.size + 1 + 1) (w.heap.size + 1 + 1) (Lib.byteCells (L.take (64 * k + 32 * j))) wr2 ∧ Below (w.heap.size + 1 + 1) X wr2) (fun _ b _ => 2 - (intOf b).toNat)
      case atStart => exact ⟨0, by omega, rfl, by rw [Nat.mul_zero, Nat.add_zero]; exact unhide hB1, unhide hb1⟩
      case round =>
        clear hB1 hb1 hB hb hzw
        obtain ⟨j, hj, rfl, hB, hb⟩ := hrel
        have hzw : w.heap.size + 1 + 1 ≤ wr.heap.size := by have := hb.size; rw [unhide HszX] at this; exact this
        by_cases hjl : j < 2
        · have hd2 : decide ((j : Int) < 2) = true := by simp; omega
          have hix := fun w => index_one C j hjl w
          have hE : ((C.drop (32 * j)).take 32).length = 32 := by rw [List.length_take, List.length_drop]; omega
          have hnew := unhide Hsub j hjl
          have hlen : (L.take (64 * k + 32 * j)).length ≤ 2048 := by rw [List.length_take]; omega
          generalize (C.drop (32 * j)).take 32 = E at *
          generalize L.take (64 * k + 32 * j) = acc at *
          have hi2 := digInfo E hE
          have ho2 := bc_oneCell E
          have hz2 := zeroSize E hE
          have cE := fun w => wdigest_calls E hE w
          have Hnew := hide hnew
          clear hnew
          go_wp2_with (first
            | (refine wpList_store_row rfl 24 (.tmp 9) (.tmp 17) rfl wr.heap.size _ rfl rfl 24 _ (al1 _ _) hi2 hz2 ho2 ?_)
            | (refine wpList_load_row rfl 24 (.tmp 9) rfl wr.heap.size rfl 24 _ (0, 0) _ (setRow_heap _ _ _ (bc E) _ _ (al1 wr (.cells (bc (List.replicate 32 0)) 24))) Tryd.underlying24 rfl hi2 ?_))
          have hw1 := below_setRow ((Below.refl wr.heap.size wr).alloc (Nat.le_refl _) (.cells (bc (List.replicate 32 0)) 24)) (Nat.le_refl _) (bc E)
          have hB1 := isBuilder_below hB hw1
          have hb1 := hb.trans (hw1.mono hzw)
          refine (cE _).mono ?_
          rintro e w3 ⟨rfl, b3⟩
          have hB3 := isBuilder_below hB1 b3
          have hz3 : w.heap.size + 1 + 1 ≤ w3.heap.size := by have := b3.size; rw [setRow_size, World.size_alloc] at this; omega
          have hb3 := hb1.trans (b3.mono (by rw [setRow_size, World.size_alloc]; omega))
          clear hB1 hb1 b3 hw1 hB hb
          go_wp2_with fail
          refine (writeString_calls (w.heap.size + 1 + 1) (w.heap.size + 1 + 1) _ _ _ hB3 (by rw [str_size, Lib.byteCells_length]; omega) hz3).mono ?_
          rintro e w4 ⟨rfl, h4, b4, k4⟩
          rw [strCells_str, ← Lib.byteCells_append] at h4
          go_wp2
          go_roundw
          case rel => exact ⟨j + 1, by omega, by go_num, by rw [unhide Hnew]; exact Or.inr h4, hb3.trans b4⟩
          case measure => simp [intOf]; omega
        · have hd2 : decide ((j : Int) < 2) = false := by simp; omega
          have hj2 : 64 * k + 32 * j = 64 * (k + 1) := by omega
          rw [hj2] at hB
          clear hj2
          go_wp2
          go_roundw
          case rel => exact ⟨k + 1, by omega, by go_num, hB, hb⟩
          case measure => simp [intOf]; omega
    · have hd1 : decide ((k : Int) < 32) = false := by simp; omega
      rw [List.take_of_length_le (by omega)] at hB
      go_wp2_with fail
      refine (string_calls (w.heap.size + 1 + 1) (w.heap.size + 1 + 1) L _ hB hzw).mono ?_
      rintro e w3 ⟨rfl, _, b3, _⟩
      have hb3 := hb.trans b3
      have q3 := Below.at hb3 (by omega) (unhide HQ0)
      have z3 : w.heap.size + 1 + 1 ≤ w3.heap.size := Nat.le_trans hzw b3.size
      have hw3 : Below w.heap.size w w3 := (unhide HbX).trans (hb3.mono (by omega))
      clear hB hb b3 hb3
      go_wp2_with fail
      refine (unhide CO _ _ (strsAt_one w3 L _) (((unhide HT).below hw3 (Nat.le_refl _)).below' ((Below.refl _ w3).alloc (Nat.le_refl _) _))).mono ?_
      rintro e w4 ⟨rfl, b4⟩
      have q4 := Below.at b4 (by simp; omega) ((Below.heap_alloc w3 (.cells #[.string (str L)] 9) _ (by omega)).trans q3)
      have hw4 : Below w.heap.size w w4 := (hw3.alloc (by omega) _).trans (b4.mono (by simp; omega))
      clear q3 hw3 b4
      go_wp2_with (refine wpList_store_row rfl 24 (.tmp 4) (.tmp 26) rfl (w.heap.size + 1) _ rfl rfl 24 _ q4 hi1 hz1 ho1 ?_)
      exact bodyPost_ret (results_cell_row rfl _ _ (w.heap.size + 1) _ _ _ _ rfl (setRow_heap _ _ _ _ _ _ q4) Tryd.underlying24 rfl hi1) rfl ⟨rfl, below_setRow hw4 (by omega) _⟩
end Go.Proofs.YtkfhbdcoplemgaaDoor
