/-
  WHAT package letter's Read AND Same RETURN.
-/
import Derived.Test.YtefdlpddhkocbaaLetB
import Derived.Test.YtefdlpddhkocbaaWireRead6
namespace Go.Proofs.Ytefdlpddhkocbaa
open Go.RowKit
set_option linter.unusedSimpArgs false
set_option linter.unusedVariables false

theorem over_calls (l : List UInt8) (w : World) :
    Calls Try.prog 11 #[.string (str l)] w fun e w' => e = .returned (.pointer (some ⟨w.heap.size, 0, none⟩)) ∧ w' = w.alloc (.cells (⟨l, 0⟩ : Rd).cells 44) := by
  unfold Rd.cells
  simp only
  go_enter Try.func11, Try.ntmps11
  go_wp2
  go_ret
  exact ⟨rfl, rfl⟩

/-- Read's memory: the result, the letter, the reader. -/
structure LSt (w : World) (N : Nat) (wi : World) (row : Array Value) (r : Rd) : Prop where
  below : Below N w wi
  res : wi.heap[N]? = some (.cells Lt.zero.cells 24 (0, 0))
  x : wi.heap[N + 1]? = some (.cells row 24 (0, 0))
  rd : RdAt wi (N + 1 + 1) r
theorem LSt.turn {w : World} {N : Nat} {wi w' : World} {row : Array Value} {r r' : Rd} (h : LSt w N wi row r) (R : RdAt w' (N + 1 + 1) r') (T : Turned (N + 1 + 1) wi w') : LSt w N w' row r' :=
  ⟨T.under h.below (by omega), T.row (by omega) h.res, T.row (by omega) h.x, R⟩
theorem LSt.set {w : World} {N : Nat} {wi : World} {row row' : Array Value} {r : Rd} (h : LSt w N wi row r) (j : Nat) (v : Value) (e : row.setIfInBounds j v = row') : LSt w N (wi.setCell ⟨N + 1, j, none⟩ v) row' r := by
  refine ⟨h.below.setCell (p := ⟨N + 1, j, none⟩) (by show N ≤ N + 1; omega) _, ?_, ?_, h.rd.other (by omega) _⟩
  · rw [heap_setCell_other _ _ _ _ (by show N ≠ N + 1; omega)]; exact h.res
  · rw [← e]; exact heap_setCell_same _ _ _ _ _ _ h.x
theorem LSt.cell {w : World} {N : Nat} {wi : World} {row : Array Value} {r : Rd} (h : LSt w N wi row r) (j : Nat) : wi.cell? ⟨N + 1, j, none⟩ = row[j]? := by rw [cell_of_row _ _ _ _ _ _ h.x]
theorem LSt.frozen {w : World} {N : Nat} {wi : World} {row : Array Value} {r : Rd} (h : LSt w N wi row r) (j : Nat) : wi.frozen? ⟨N + 1, j, none⟩ = false := frozen_of_row _ _ _ _ _ h.x

set_option maxHeartbeats 2000000 in
set_option maxRecDepth 100000 in
theorem lread_calls (l : List UInt8) (hl : l.length ≤ 4611686018427387904) (w : World) :
    Calls Try.prog 7 #[.string (str l)] w fun e w' => e = .returned (.tuple #[.agg (pLRead l).1.cells, .int .i64 (pLRead l).2]) ∧ Below w.heap.size w w' := by
  obtain ⟨r0, h0⟩ : ∃ r, (⟨l, 0⟩ : Rd) = r := ⟨_, rfl⟩
  have hl0 : r0.rest.length ≤ 4611686018427387904 := by rw [← h0]; exact hl
  have m1 := r0.l1_rest
  have m2 := r0.l2_rest
  have m3 := r0.l3_rest
  have m4 := r0.l4_rest
  have m5 := r0.l5_rest
  have s4 := r0.l4_len
  have s5 := r0.l5_len
  have k1 := hide fun W (h : RdAt W (w.heap.size + 1 + 1) r0) => rword_calls _ r0 hl0 W h
  have k2 := hide fun W (h : RdAt W (w.heap.size + 1 + 1) r0.l1.2) => rword_calls _ r0.l1.2 (by omega) W h
  have k3 := hide fun W (h : RdAt W (w.heap.size + 1 + 1) r0.l2.2) => rword_calls _ r0.l2.2 (by omega) W h
  have k4 := hide fun W (h : RdAt W (w.heap.size + 1 + 1) r0.l3.2) => rdtext_calls _ r0.l3.2 (by omega) 48 W h
  have k5 := hide fun W (h : RdAt W (w.heap.size + 1 + 1) r0.l4.2) => rdtext_calls _ r0.l4.2 (by omega) 48 W h
  have k6 := hide fun W (h : RdAt W (w.heap.size + 1 + 1) r0.l5.2) => rdtext_calls _ r0.l5.2 (by omega) 300 W h
  have k7 := hide fun W (h : RdAt W (w.heap.size + 1 + 1) r0.l6.2) => rend_calls _ r0.l6.2 W h
  have k8 := hide fun W => lright_calls r0.letter (by show r0.l4.1.length ≤ _; omega) (by show r0.l5.1.length ≤ _; omega) W
  have e2 : r0.l1.2.num 4 = r0.l2 := rfl
  have e3 : r0.l2.2.num 4 = r0.l3 := rfl
  have e4 : r0.l3.2.text 48 = r0.l4 := rfl
  have e5 : r0.l4.2.text 48 = r0.l5 := rfl
  have e6 : r0.l5.2.text 300 = r0.l6 := rfl
  have e1 : r0.num 4 = r0.l1 := rfl
  rw [e1] at k1
  rw [e2] at k2
  rw [e3] at k3
  rw [e4] at k4
  rw [e5] at k5
  rw [e6] at k6
  unfold pLRead
  rw [h0]
  have ko := over_calls l
  rw [h0] at ko
  have hlt : r0.letter = ⟨r0.l1.1, r0.l2.1, r0.l3.1, r0.l4.1, r0.l5.1, r0.l6.1⟩ := rfl
  have hz : Lt.zero.cells.all (·.oneCell') = true := let_one _
  have hiz := let_info Lt.zero
  have hil := let_info r0.letter
  have hol := let_one r0.letter
  have hsl : r0.letter.cells.size = Lt.zero.cells.size := rfl
  obtain ⟨R, hR⟩ : ∃ R, r0.letter.right = R := ⟨_, rfl⟩
  rw [hR] at k8 ⊢
  have hcl : Hid (#[.int .u32 (r0.l1.1 : Int), .int .u32 (r0.l2.1 : Int), .int .u32 (r0.l3.1 : Int), .string (str r0.l4.1), .string (str r0.l5.1), .string (str r0.l6.1)] = r0.letter.cells) := rfl
  generalize r0.letter = X at *
  generalize r0.l1 = x1 at *
  generalize r0.l2 = x2 at *
  generalize r0.l3 = x3 at *
  generalize r0.l4 = x4 at *
  generalize r0.l5 = x5 at *
  generalize r0.l6 = x6 at *
  obtain ⟨a1, r1⟩ := x1
  obtain ⟨a2, r2⟩ := x2
  obtain ⟨a3, r3⟩ := x3
  obtain ⟨a4, r4⟩ := x4
  obtain ⟨a5, r5⟩ := x5
  obtain ⟨a6, r6⟩ := x6
  simp only at *
  generalize r6.end' = E at *
  clear m1 m2 m3 m4 m5 s4 s5 e1 e2 e3 e4 e5 e6 hlt hR h0 hl0 hl
  have L0 : LSt w w.heap.size (((w.alloc (.cells Lt.zero.cells 24)).alloc (.cells Lt.zero.cells 24)).alloc (.cells r0.cells 44)) Lt.zero.cells r0 :=
    ⟨bel3 w _ _ _, (al3 w _ _ _).1, (al3 w _ _ _).2.1, (al3 w _ _ _).2.2⟩
  obtain ⟨A, hA⟩ : ∃ A, (if E ≠ 0 then (Lt.zero, E) else if R = true then (X, 0) else (Lt.zero, 4)) = A := ⟨_, rfl⟩
  rw [hA]
  have HA := hide hA
  clear hA
  have HL0 := hide L0
  have Ko := hide ko
  clear L0 ko
  go_enter Try.func7, Try.ntmps7
  go_wp2_with fail
  refine (unhide Ko _).mono ?_
  rintro e w0 ⟨rfl, h0⟩
  have L0 : LSt w w.heap.size w0 Lt.zero.cells r0 := by rw [h0]; exact unhide HL0
  clear h0 HL0
  simp only [World.size_alloc]
  go_wp2_with fail
  refine (unhide k1 _ L0.rd).mono ?_
  rintro e w1 ⟨rfl, R, T⟩
  have M := L0.turn R T
  have f := M.frozen 0
  have c : w1.cell? ⟨w.heap.size + 1, 0, none⟩ = some (.int .u32 0) := M.cell 0
  have L1 := M.set (row' := #[.int .u32 (a1 : Int), .int .u32 0, .int .u32 0, .string (str []), .string (str []), .string (str [])]) 0 (.int .u32 (a1 : Int)) rfl
  clear L0 R T M k1
  go_wp2_with fail
  refine (unhide k2 _ L1.rd).mono ?_
  rintro e w2 ⟨rfl, R, T⟩
  have M := L1.turn R T
  have f := M.frozen 1
  have c : w2.cell? ⟨w.heap.size + 1, 1, none⟩ = some (.int .u32 0) := M.cell 1
  have L2 := M.set (row' := #[.int .u32 (a1 : Int), .int .u32 (a2 : Int), .int .u32 0, .string (str []), .string (str []), .string (str [])]) 1 (.int .u32 (a2 : Int)) rfl
  clear L1 R T M k2
  go_wp2_with fail
  refine (unhide k3 _ L2.rd).mono ?_
  rintro e w3 ⟨rfl, R, T⟩
  have M := L2.turn R T
  have f := M.frozen 2
  have c : w3.cell? ⟨w.heap.size + 1, 2, none⟩ = some (.int .u32 0) := M.cell 2
  have L3 := M.set (row' := #[.int .u32 (a1 : Int), .int .u32 (a2 : Int), .int .u32 (a3 : Int), .string (str []), .string (str []), .string (str [])]) 2 (.int .u32 (a3 : Int)) rfl
  clear L2 R T M k3
  go_wp2_with fail
  refine (unhide k4 _ L3.rd).mono ?_
  rintro e w4 ⟨rfl, R, T⟩
  have M := L3.turn R T
  have f := M.frozen 3
  have c : w4.cell? ⟨w.heap.size + 1, 3, none⟩ = some (.string (str [])) := M.cell 3
  have L4 := M.set (row' := #[.int .u32 (a1 : Int), .int .u32 (a2 : Int), .int .u32 (a3 : Int), .string (str a4), .string (str []), .string (str [])]) 3 (.string (str a4)) rfl
  clear L3 R T M k4
  go_wp2_with fail
  refine (unhide k5 _ L4.rd).mono ?_
  rintro e w5 ⟨rfl, R, T⟩
  have M := L4.turn R T
  have f := M.frozen 4
  have c : w5.cell? ⟨w.heap.size + 1, 4, none⟩ = some (.string (str [])) := M.cell 4
  have L5 := M.set (row' := #[.int .u32 (a1 : Int), .int .u32 (a2 : Int), .int .u32 (a3 : Int), .string (str a4), .string (str a5), .string (str [])]) 4 (.string (str a5)) rfl
  clear L4 R T M k5
  go_wp2_with fail
  refine (unhide k6 _ L5.rd).mono ?_
  rintro e w6 ⟨rfl, R, T⟩
  have M := L5.turn R T
  have f := M.frozen 5
  have c : w6.cell? ⟨w.heap.size + 1, 5, none⟩ = some (.string (str [])) := M.cell 5
  have L6 := M.set (row' := #[.int .u32 (a1 : Int), .int .u32 (a2 : Int), .int .u32 (a3 : Int), .string (str a4), .string (str a5), .string (str a6)]) 5 (.string (str a6)) rfl
  clear L5 R T M k6
  rw [unhide hcl] at L6
  go_wp2_with fail
  refine (unhide k7 _ L6.rd).mono ?_
  rintro e w7 ⟨rfl, rfl⟩
  have q0 := L6.res
  have q1 := L6.x
  have hb := L6.below
  clear k7 L6
  by_cases hE : E = 0
  · have hE' : (E != 0) = false := by simp [hE]
    have hc : ¬ E ≠ 0 := fun h => h hE
    have hA := unhide HA
    rw [if_neg hc] at hA
    have HB := hide hA
    clear hE hc hA HA
    go_wp2_with (refine wpList_load_row rfl 24 (.tmp 4) rfl (w.heap.size + 1) rfl 24 X.cells (0, 0) _ q1 Try.underlying24 rfl hil ?_)
    refine (unhide k8 _).mono ?_
    rintro e w8 ⟨rfl, b8⟩
    have q0' := Below.at b8 (Array.getElem?_eq_some_iff.1 q0).1 q0
    have q1' := Below.at b8 (Array.getElem?_eq_some_iff.1 q1).1 q1
    have hb' := hb.trans (b8.mono hb.size)
    clear q0 q1 hb b8
    cases R with
    | false =>
      have hA := unhide HB
      rw [if_neg (by simp)] at hA
      subst hA
      go_wp2_with (refine wpList_store_row rfl 24 (.tmp 2) (.tmp 36) rfl w.heap.size Lt.zero.cells rfl rfl 24 _ q0' hiz rfl hz ?_)
      exact bodyPost_ret (results_row_tmp rfl _ _ w.heap.size _ _ _ _ rfl (setRow_heap _ _ _ _ _ _ q0') Try.underlying24 rfl hiz) rfl ⟨rfl, below_setRow hb' (Nat.le_refl _) _⟩
    | true =>
      have hA := unhide HB
      rw [if_pos rfl] at hA
      subst hA
      go_wp2_with (first
        | (refine wpList_load_row rfl 24 (.tmp 4) rfl (w.heap.size + 1) rfl 24 X.cells (0, 0) _ q1' Try.underlying24 rfl hil ?_)
        | (refine wpList_store_row rfl 24 (.tmp 2) (.tmp 37) rfl w.heap.size X.cells rfl rfl 24 _ q0' hil hsl hol ?_))
      exact bodyPost_ret (results_row_tmp rfl _ _ w.heap.size _ _ _ _ rfl (setRow_heap _ _ _ _ _ _ q0') Try.underlying24 rfl hil) rfl ⟨rfl, below_setRow hb' (Nat.le_refl _) _⟩
  · have hE' : (E != 0) = true := by simp [hE]
    have hA := unhide HA
    rw [if_pos hE] at hA
    subst hA
    clear hE
    go_wp2_with (refine wpList_store_row rfl 24 (.tmp 2) (.tmp 31) rfl w.heap.size Lt.zero.cells rfl rfl 24 _ q0 hiz rfl hz ?_)
    exact bodyPost_ret (results_row_tmp rfl _ _ w.heap.size _ _ _ _ rfl (setRow_heap _ _ _ _ _ _ q0) Try.underlying24 rfl hiz) rfl ⟨rfl, below_setRow hb (Nat.le_refl _) _⟩
end Go.Proofs.Ytefdlpddhkocbaa
