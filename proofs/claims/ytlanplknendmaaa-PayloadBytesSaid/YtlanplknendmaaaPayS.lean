/-
  THE DOCUMENT's OWN READING OF A PAYLOAD (layer 11).
-/
import Derived.Test.YtlanplknendmaaaPayR
namespace Go.Proofs.Ytlanplknendmaaa
open Go.RowKit
set_option linter.unusedSimpArgs false
set_option linter.unusedVariables false

theorem Rd.take_err (r : Rd) (n : Nat) (h : r.err ≠ 0) : r.take n = ([], r) := by simp [Rd.take, h]
theorem Rd.num_err (r : Rd) (n : Nat) (h : r.err ≠ 0) : (r.num n).2 = r := by rw [Rd.num, Rd.take_err r n h]
theorem Rd.len_err (r : Rd) (m : Int) (h : r.err ≠ 0) : (r.len m).2 = r := by
  have h1 := r.num_err 4 h
  unfold Rd.len
  simp only [h1]
  split
  · simp [Rd.fail, h]
  · rfl
theorem Rd.text_err (r : Rd) (m : Int) (h : r.err ≠ 0) : (r.text m).2 = r := by
  unfold Rd.text
  rw [r.len_err m h, Rd.take_err r _ h]
theorem Rd.end_err (r : Rd) (h : r.err ≠ 0) : r.end' ≠ 0 := by
  unfold Rd.end'
  rw [if_pos h]; exact h
/-- Read's memory: the result, the reader, the fields. -/
structure FSt (w : World) (N : Nat) (wi : World) (row : Array Value) (r : Rd) : Prop where
  below : Below N w wi
  res : wi.heap[N]? = some (.cells Fl.zero.cells 29 (0, 0))
  x : wi.heap[N + 1 + 1]? = some (.cells row 29 (0, 0))
  rd : DdAt wi (N + 1) r
theorem FSt.turn {w : World} {N : Nat} {wi w' : World} {row : Array Value} {r r' : Rd} (h : FSt w N wi row r) (R : DdAt w' (N + 1) r') (T : Turned (N + 1) wi w') : FSt w N w' row r' :=
  ⟨T.under h.below (by omega), T.row (by omega) h.res, T.row (by omega) h.x, R⟩
theorem FSt.set {w : World} {N : Nat} {wi : World} {row row' : Array Value} {r : Rd} (h : FSt w N wi row r) (j : Nat) (v : Value) (e : row.setIfInBounds j v = row') : FSt w N (wi.setCell ⟨N + 1 + 1, j, none⟩ v) row' r := by
  refine ⟨h.below.setCell (p := ⟨N + 1 + 1, j, none⟩) (by show N ≤ N + 1 + 1; omega) _, ?_, ?_, h.rd.other (by omega) _⟩
  · rw [heap_setCell_other _ _ _ _ (by show N ≠ N + 1 + 1; omega)]; exact h.res
  · rw [← e]; exact heap_setCell_same _ _ _ _ _ _ h.x
theorem FSt.cell {w : World} {N : Nat} {wi : World} {row : Array Value} {r : Rd} (h : FSt w N wi row r) (j : Nat) : wi.cell? ⟨N + 1 + 1, j, none⟩ = row[j]? := by rw [cell_of_row _ _ _ _ _ _ h.x]
theorem FSt.frozen {w : World} {N : Nat} {wi : World} {row : Array Value} {r : Rd} (h : FSt w N wi row r) (j : Nat) : wi.frozen? ⟨N + 1 + 1, j, none⟩ = false := frozen_of_row _ _ _ _ _ h.x

set_option maxHeartbeats 4000000 in
set_option maxRecDepth 100000 in
theorem fread_calls (l : List UInt8) (hl : l.length ≤ 1000000000) (w : World) :
    Calls Try.prog 13 #[.string (str l)] w fun e w' => e = .returned (.tuple #[.agg (pPRead l).1.fl.cells, .int .i64 (pPRead l).2]) ∧ Below w.heap.size w w' := by
  obtain ⟨r0, h0⟩ : ∃ r, (⟨l, 0⟩ : Rd) = r := ⟨_, rfl⟩
  have hl0 : r0.rest.length ≤ 1000000000 := by rw [← h0]; exact hl
  have k0 := hide fun W (h : DdAt W (w.heap.size + 1) r0) => dnumber_calls _ 1 (by decide) r0 (by omega) W h
  have m0 := r0.num_rest 1
  have hb := Rd.num_lt r0 1
  have hpm := Pl.most_mono hl0 _ r0.pl_most
  have L0 : FSt w w.heap.size (((w.alloc (.cells Fl.zero.cells 29)).alloc (.cells (⟨l, 0⟩ : Rd).cells 66)).alloc (.cells Fl.zero.cells 29)) Fl.zero.cells r0 :=
    ⟨bel3 w _ _ _, (al3 w _ _ _).1, (al3 w _ _ _).2.2, by rw [← h0]; exact (al3 w _ _ _).2.1⟩
  unfold pPRead
  rw [h0]
  obtain ⟨P, hP⟩ : ∃ P, r0.pl = P := ⟨_, rfl⟩
  rw [hP] at hpm ⊢
  unfold Rd.pl at hP
  rw [show ((1 : Nat) : Int) = 1 from rfl] at k0
  generalize (r0.num 1).1 = t at *
  obtain ⟨r1, hr1⟩ : ∃ x, (r0.num 1).2 = x := ⟨_, rfl⟩
  rw [hr1] at k0 m0 hP
  have hl1 : r1.rest.length ≤ 1000000000 := by omega
  have ht : t < 256 := hb
  clear hr1 m0 hb hl h0
  have HP := hide hP
  have HL0 := hide L0
  clear hP L0
  have iz := fl_info Fl.zero
  have oz := fl_one Fl.zero
  by_cases h1 : t = 1
  · subst h1
    have hP := unhide HP
    rw [if_pos rfl] at hP
    subst hP
    unfold Rd.tr Rd.trR at *
    have m1 := r1.num_rest 4
    have m2 := (r1.num 4).2.text_rest 48
    have m3 := ((r1.num 4).2.text 48).2.text_rest 48
    have hw1 : (r1.num 4).1 < 4294967296 := Rd.num_lt _ 4
    have k1 := hide fun W (h : DdAt W (w.heap.size + 1) r1) => dnumber_calls _ 4 (by decide) r1 (by omega) W h
    rw [show ((4 : Nat) : Int) = 4 from rfl] at k1
    have k2 := hide fun W (h : DdAt W (w.heap.size + 1) (r1.num 4).2) => dtext_calls _ (r1.num 4).2 (by omega) 48 (by decide) W h
    rw [show ((48 : Nat) : Int) = 48 from rfl] at k2
    have k3 := hide fun W (h : DdAt W (w.heap.size + 1) ((r1.num 4).2.text 48).2) => dtext_calls _ ((r1.num 4).2.text 48).2 (by omega) 48 (by decide) W h
    rw [show ((48 : Nat) : Int) = 48 from rfl] at k3
    have k4 := hide fun W (h : DdAt W (w.heap.size + 1) (((r1.num 4).2.text 48).2.text 48).2) => dnumber_calls _ 8 (by decide) (((r1.num 4).2.text 48).2.text 48).2 (by omega) W h
    rw [show ((8 : Nat) : Int) = 8 from rfl] at k4
    have ke := hide fun W (h : DdAt W (w.heap.size + 1) ((((r1.num 4).2.text 48).2.text 48).2.num 8).2) => dend_calls _ ((((r1.num 4).2.text 48).2.text 48).2.num 8).2 W h
    generalize (((r1.num 4).2.text 48).2.text 48).2.num 8 = x4 at *
    generalize ((r1.num 4).2.text 48).2.text 48 = x3 at *
    generalize (r1.num 4).2.text 48 = x2 at *
    generalize r1.num 4 = x1 at *
    obtain ⟨a1, s1⟩ := x1
    obtain ⟨a2, s2⟩ := x2
    obtain ⟨a3, s3⟩ := x3
    obtain ⟨a4, s4⟩ := x4
    
    simp only at *
    have k8 := hide fun W => fright_calls (Pl.tr a1 a2 a3 a4) hpm W
    have ix := fl_info (Pl.tr a1 a2 a3 a4).fl
    have ox := fl_one (Pl.tr a1 a2 a3 a4).fl
    have sx : Hid (Fl.zero.cells.size = (Pl.tr a1 a2 a3 a4).fl.cells.size) := rfl
    have hcl : Hid (#[.int .i64 1, .int .u32 (a1 : Int), .string (str a2), .string (str a3), .int .u64 (a4 : Int)] = (Pl.tr a1 a2 a3 a4).fl.cells) := rfl
    
    generalize s4.end' = E at *
    generalize (Pl.tr a1 a2 a3 a4).right = R at *
    generalize hp : Pl.tr a1 a2 a3 a4 = p at *
    have hX : Hid (∃ X, p.fl.cells = X) := ⟨_, rfl⟩
    obtain ⟨X, hX⟩ := unhide hX
    rw [hX] at k8 ix ox sx hcl
    have hX := hide hX
    clear m1 m2 m3 hl1 HP ht hpm hp hl0
    obtain ⟨A, hA⟩ : ∃ A, (if E ≠ 0 then (Pl.no, E) else if R = true then (p, 0) else (Pl.no, 4)) = A := ⟨_, rfl⟩
    rw [hA]
    have HA := hide hA
    clear hA
    go_enter Try.func13, Try.ntmps13
    have L0 := unhide HL0
    clear HL0
    go_wp2_with fail
    refine (unhide k0 _ L0.rd).mono ?_
    rintro e w1 ⟨rfl, R0, T0⟩
    have M := L0.turn R0 T0
    have f := M.frozen 0
    have c : w1.cell? ⟨w.heap.size + 1 + 1, 0, none⟩ = some (.int .i64 0) := M.cell 0
    have L1 := M.set (row' := #[.int .i64 1, .int .u32 0, .string (str []), .string (str []), .int .u64 0]) 0 (.int .i64 1) rfl
    have d := L1.cell 0
    simp only [List.getElem?_toArray, List.getElem?_cons_zero] at d
    clear L0 R0 T0 M k0
    go_wp2_with fail
    refine (unhide k1 _ L1.rd).mono ?_
    rintro e w2 ⟨rfl, R0, T0⟩
    have M := L1.turn R0 T0
    have f := M.frozen 1
    have c : w2.cell? ⟨w.heap.size + 1 + 1, 1, none⟩ = some (.int .u32 0) := M.cell 1
    have L2 := M.set (row' := #[.int .i64 1, .int .u32 (a1 : Int), .string (str []), .string (str []), .int .u64 0]) 1 (.int .u32 (a1 : Int)) rfl
    have d := L2.cell 0
    simp only [List.getElem?_toArray, List.getElem?_cons_zero] at d
    clear L1 R0 T0 M k1
    go_wp2_with fail
    refine (unhide k2 _ L2.rd).mono ?_
    rintro e w3 ⟨rfl, R0, T0⟩
    have M := L2.turn R0 T0
    have f := M.frozen 2
    have c : w3.cell? ⟨w.heap.size + 1 + 1, 2, none⟩ = some (.string (str [])) := M.cell 2
    have L3 := M.set (row' := #[.int .i64 1, .int .u32 (a1 : Int), .string (str a2), .string (str []), .int .u64 0]) 2 (.string (str a2)) rfl
    have d := L3.cell 0
    simp only [List.getElem?_toArray, List.getElem?_cons_zero] at d
    clear L2 R0 T0 M k2
    go_wp2_with fail
    refine (unhide k3 _ L3.rd).mono ?_
    rintro e w4 ⟨rfl, R0, T0⟩
    have M := L3.turn R0 T0
    have f := M.frozen 3
    have c : w4.cell? ⟨w.heap.size + 1 + 1, 3, none⟩ = some (.string (str [])) := M.cell 3
    have L4 := M.set (row' := #[.int .i64 1, .int .u32 (a1 : Int), .string (str a2), .string (str a3), .int .u64 0]) 3 (.string (str a3)) rfl
    have d := L4.cell 0
    simp only [List.getElem?_toArray, List.getElem?_cons_zero] at d
    clear L3 R0 T0 M k3
    go_wp2_with fail
    refine (unhide k4 _ L4.rd).mono ?_
    rintro e w5 ⟨rfl, R0, T0⟩
    have M := L4.turn R0 T0
    have f := M.frozen 4
    have c : w5.cell? ⟨w.heap.size + 1 + 1, 4, none⟩ = some (.int .u64 0) := M.cell 4
    have L5 := M.set (row' := #[.int .i64 1, .int .u32 (a1 : Int), .string (str a2), .string (str a3), .int .u64 (a4 : Int)]) 4 (.int .u64 (a4 : Int)) rfl
    have d := L5.cell 0
    simp only [List.getElem?_toArray, List.getElem?_cons_zero] at d
    clear L4 R0 T0 M k4
    go_wp2_with fail
    refine (unhide ke _ L5.rd).mono ?_
    rintro e w6 ⟨rfl, rfl⟩
    clear ke
    have q0 := L5.res
    have q1 := L5.x
    have hb := L5.below
    clear d
    rw [unhide hcl] at q1
    clear L5
    by_cases hE : E = 0
    · have hE' : (E != 0) = false := by simp [hE]
      have hc : ¬ E ≠ 0 := fun h => h hE
      have hA := unhide HA
      rw [if_neg hc] at hA
      have HB := hide hA
      clear hE hc hA HA
      go_wp2_with (refine wpList_load_row rfl 29 (.tmp 5) rfl (w.heap.size + 1 + 1) rfl 29 X (0, 0) _ q1 Try.underlying29 rfl ix ?_)
      refine (unhide k8 _).mono ?_
      rintro e w8 ⟨rfl, b8⟩
      have q0' := Below.at b8 (Array.getElem?_eq_some_iff.1 q0).1 q0
      have q1' := Below.at b8 (Array.getElem?_eq_some_iff.1 q1).1 q1
      have hb' := hb.trans (b8.mono hb.size)
      clear q0 q1 hb b8
      cases R with
      | false =>
        have hA := unhide HB
        rw [if_neg (by simp)] at hA
        subst hA
        go_wp2_with (refine wpList_store_row rfl 29 (.tmp 2) (.tmp 61) rfl w.heap.size Fl.zero.cells rfl rfl 29 _ q0' iz rfl oz ?_)
        exact bodyPost_ret (results_row_tmp rfl _ _ w.heap.size _ _ _ _ rfl (setRow_heap _ _ _ _ _ _ q0') Try.underlying29 rfl iz) rfl ⟨rfl, below_setRow hb' (Nat.le_refl _) _⟩
      | true =>
        have hA := unhide HB
        rw [if_pos rfl] at hA
        subst hA
        go_wp2_with (first
          | (refine wpList_load_row rfl 29 (.tmp 5) rfl (w.heap.size + 1 + 1) rfl 29 X (0, 0) _ q1' Try.underlying29 rfl ix ?_)
          | (refine wpList_store_row rfl 29 (.tmp 2) (.tmp 62) rfl w.heap.size X rfl rfl 29 _ q0' ix (unhide sx) ox ?_))
        exact bodyPost_ret (results_row_tmp rfl _ _ w.heap.size _ _ _ _ rfl (setRow_heap _ _ _ _ _ _ q0') Try.underlying29 rfl ix) rfl ⟨by first | rfl | (rw [unhide hX]; rfl), below_setRow hb' (Nat.le_refl _) _⟩
    · have hE' : (E != 0) = true := by simp [hE]
      have hA := unhide HA
      rw [if_pos hE] at hA
      subst hA
      clear hE
      go_wp2_with (refine wpList_store_row rfl 29 (.tmp 2) (.tmp 56) rfl w.heap.size Fl.zero.cells rfl rfl 29 _ q0 iz rfl oz ?_)
      exact bodyPost_ret (results_row_tmp rfl _ _ w.heap.size _ _ _ _ rfl (setRow_heap _ _ _ _ _ _ q0) Try.underlying29 rfl iz) rfl ⟨rfl, below_setRow hb (Nat.le_refl _) _⟩
  · by_cases h2 : t = 2
    · subst h2
      have hP := unhide HP
      rw [if_neg h1, if_pos rfl] at hP
      subst hP
      unfold Rd.sa Rd.saR at *
      have m1 := r1.text_rest 48
      have k1 := hide fun W (h : DdAt W (w.heap.size + 1) r1) => dtext_calls _ r1 (by omega) 48 (by decide) W h
      rw [show ((48 : Nat) : Int) = 48 from rfl] at k1
      have k2 := hide fun W (h : DdAt W (w.heap.size + 1) (r1.text 48).2) => dtext_calls _ (r1.text 48).2 (by omega) 256 (by decide) W h
      rw [show ((256 : Nat) : Int) = 256 from rfl] at k2
      have ke := hide fun W (h : DdAt W (w.heap.size + 1) ((r1.text 48).2.text 256).2) => dend_calls _ ((r1.text 48).2.text 256).2 W h
      generalize (r1.text 48).2.text 256 = x2 at *
      generalize r1.text 48 = x1 at *
      obtain ⟨a1, s1⟩ := x1
      obtain ⟨a2, s2⟩ := x2
      
      simp only at *
      have k8 := hide fun W => fright_calls (Pl.sa a1 a2) hpm W
      have ix := fl_info (Pl.sa a1 a2).fl
      have ox := fl_one (Pl.sa a1 a2).fl
      have sx : Hid (Fl.zero.cells.size = (Pl.sa a1 a2).fl.cells.size) := rfl
      have hcl : Hid (#[.int .i64 2, .int .u32 0, .string (str a1), .string (str a2), .int .u64 0] = (Pl.sa a1 a2).fl.cells) := rfl
      
      generalize s2.end' = E at *
      generalize (Pl.sa a1 a2).right = R at *
      generalize hp : Pl.sa a1 a2 = p at *
      have hX : Hid (∃ X, p.fl.cells = X) := ⟨_, rfl⟩
      obtain ⟨X, hX⟩ := unhide hX
      rw [hX] at k8 ix ox sx hcl
      have hX := hide hX
      clear m1 hl1 HP ht hpm hp hl0 h1
      obtain ⟨A, hA⟩ : ∃ A, (if E ≠ 0 then (Pl.no, E) else if R = true then (p, 0) else (Pl.no, 4)) = A := ⟨_, rfl⟩
      rw [hA]
      have HA := hide hA
      clear hA
      go_enter Try.func13, Try.ntmps13
      have L0 := unhide HL0
      clear HL0
      go_wp2_with fail
      refine (unhide k0 _ L0.rd).mono ?_
      rintro e w1 ⟨rfl, R0, T0⟩
      have M := L0.turn R0 T0
      have f := M.frozen 0
      have c : w1.cell? ⟨w.heap.size + 1 + 1, 0, none⟩ = some (.int .i64 0) := M.cell 0
      have L1 := M.set (row' := #[.int .i64 2, .int .u32 0, .string (str []), .string (str []), .int .u64 0]) 0 (.int .i64 2) rfl
      have d := L1.cell 0
      simp only [List.getElem?_toArray, List.getElem?_cons_zero] at d
      clear L0 R0 T0 M k0
      go_wp2_with fail
      refine (unhide k1 _ L1.rd).mono ?_
      rintro e w2 ⟨rfl, R0, T0⟩
      have M := L1.turn R0 T0
      have f := M.frozen 2
      have c : w2.cell? ⟨w.heap.size + 1 + 1, 2, none⟩ = some (.string (str [])) := M.cell 2
      have L2 := M.set (row' := #[.int .i64 2, .int .u32 0, .string (str a1), .string (str []), .int .u64 0]) 2 (.string (str a1)) rfl
      have d := L2.cell 0
      simp only [List.getElem?_toArray, List.getElem?_cons_zero] at d
      clear L1 R0 T0 M k1
      go_wp2_with fail
      refine (unhide k2 _ L2.rd).mono ?_
      rintro e w3 ⟨rfl, R0, T0⟩
      have M := L2.turn R0 T0
      have f := M.frozen 3
      have c : w3.cell? ⟨w.heap.size + 1 + 1, 3, none⟩ = some (.string (str [])) := M.cell 3
      have L3 := M.set (row' := #[.int .i64 2, .int .u32 0, .string (str a1), .string (str a2), .int .u64 0]) 3 (.string (str a2)) rfl
      have d := L3.cell 0
      simp only [List.getElem?_toArray, List.getElem?_cons_zero] at d
      clear L2 R0 T0 M k2
      go_wp2_with fail
      refine (unhide ke _ L3.rd).mono ?_
      rintro e w4 ⟨rfl, rfl⟩
      clear ke
      have q0 := L3.res
      have q1 := L3.x
      have hb := L3.below
      clear d
      rw [unhide hcl] at q1
      clear L3
      by_cases hE : E = 0
      · have hE' : (E != 0) = false := by simp [hE]
        have hc : ¬ E ≠ 0 := fun h => h hE
        have hA := unhide HA
        rw [if_neg hc] at hA
        have HB := hide hA
        clear hE hc hA HA
        go_wp2_with (refine wpList_load_row rfl 29 (.tmp 5) rfl (w.heap.size + 1 + 1) rfl 29 X (0, 0) _ q1 Try.underlying29 rfl ix ?_)
        refine (unhide k8 _).mono ?_
        rintro e w8 ⟨rfl, b8⟩
        have q0' := Below.at b8 (Array.getElem?_eq_some_iff.1 q0).1 q0
        have q1' := Below.at b8 (Array.getElem?_eq_some_iff.1 q1).1 q1
        have hb' := hb.trans (b8.mono hb.size)
        clear q0 q1 hb b8
        cases R with
        | false =>
          have hA := unhide HB
          rw [if_neg (by simp)] at hA
          subst hA
          go_wp2_with (refine wpList_store_row rfl 29 (.tmp 2) (.tmp 61) rfl w.heap.size Fl.zero.cells rfl rfl 29 _ q0' iz rfl oz ?_)
          exact bodyPost_ret (results_row_tmp rfl _ _ w.heap.size _ _ _ _ rfl (setRow_heap _ _ _ _ _ _ q0') Try.underlying29 rfl iz) rfl ⟨rfl, below_setRow hb' (Nat.le_refl _) _⟩
        | true =>
          have hA := unhide HB
          rw [if_pos rfl] at hA
          subst hA
          go_wp2_with (first
            | (refine wpList_load_row rfl 29 (.tmp 5) rfl (w.heap.size + 1 + 1) rfl 29 X (0, 0) _ q1' Try.underlying29 rfl ix ?_)
            | (refine wpList_store_row rfl 29 (.tmp 2) (.tmp 62) rfl w.heap.size X rfl rfl 29 _ q0' ix (unhide sx) ox ?_))
          exact bodyPost_ret (results_row_tmp rfl _ _ w.heap.size _ _ _ _ rfl (setRow_heap _ _ _ _ _ _ q0') Try.underlying29 rfl ix) rfl ⟨by first | rfl | (rw [unhide hX]; rfl), below_setRow hb' (Nat.le_refl _) _⟩
      · have hE' : (E != 0) = true := by simp [hE]
        have hA := unhide HA
        rw [if_pos hE] at hA
        subst hA
        clear hE
        go_wp2_with (refine wpList_store_row rfl 29 (.tmp 2) (.tmp 56) rfl w.heap.size Fl.zero.cells rfl rfl 29 _ q0 iz rfl oz ?_)
        exact bodyPost_ret (results_row_tmp rfl _ _ w.heap.size _ _ _ _ rfl (setRow_heap _ _ _ _ _ _ q0) Try.underlying29 rfl iz) rfl ⟨rfl, below_setRow hb (Nat.le_refl _) _⟩
    · by_cases h3 : t = 3
      · subst h3
        have hP := unhide HP
        rw [if_neg h1, if_neg h2, if_pos rfl] at hP
        subst hP
        unfold Rd.de Rd.deR at *
        have m1 := r1.num_rest 4
        have m2 := (r1.num 4).2.text_rest 48
        have hw1 : (r1.num 4).1 < 4294967296 := Rd.num_lt _ 4
        have k1 := hide fun W (h : DdAt W (w.heap.size + 1) r1) => dnumber_calls _ 4 (by decide) r1 (by omega) W h
        rw [show ((4 : Nat) : Int) = 4 from rfl] at k1
        have k2 := hide fun W (h : DdAt W (w.heap.size + 1) (r1.num 4).2) => dtext_calls _ (r1.num 4).2 (by omega) 48 (by decide) W h
        rw [show ((48 : Nat) : Int) = 48 from rfl] at k2
        have k3 := hide fun W (h : DdAt W (w.heap.size + 1) ((r1.num 4).2.text 48).2) => dnumber_calls _ 8 (by decide) ((r1.num 4).2.text 48).2 (by omega) W h
        rw [show ((8 : Nat) : Int) = 8 from rfl] at k3
        have ke := hide fun W (h : DdAt W (w.heap.size + 1) (((r1.num 4).2.text 48).2.num 8).2) => dend_calls _ (((r1.num 4).2.text 48).2.num 8).2 W h
        generalize ((r1.num 4).2.text 48).2.num 8 = x3 at *
        generalize (r1.num 4).2.text 48 = x2 at *
        generalize r1.num 4 = x1 at *
        obtain ⟨a1, s1⟩ := x1
        obtain ⟨a2, s2⟩ := x2
        obtain ⟨a3, s3⟩ := x3
        
        simp only at *
        have k8 := hide fun W => fright_calls (Pl.de a1 a2 a3) hpm W
        have ix := fl_info (Pl.de a1 a2 a3).fl
        have ox := fl_one (Pl.de a1 a2 a3).fl
        have sx : Hid (Fl.zero.cells.size = (Pl.de a1 a2 a3).fl.cells.size) := rfl
        have hcl : Hid (#[.int .i64 3, .int .u32 (a1 : Int), .string (str a2), .string (str []), .int .u64 (a3 : Int)] = (Pl.de a1 a2 a3).fl.cells) := rfl
        
        generalize s3.end' = E at *
        generalize (Pl.de a1 a2 a3).right = R at *
        generalize hp : Pl.de a1 a2 a3 = p at *
        have hX : Hid (∃ X, p.fl.cells = X) := ⟨_, rfl⟩
        obtain ⟨X, hX⟩ := unhide hX
        rw [hX] at k8 ix ox sx hcl
        have hX := hide hX
        clear m1 m2 hl1 HP ht hpm hp hl0 h1 h2
        obtain ⟨A, hA⟩ : ∃ A, (if E ≠ 0 then (Pl.no, E) else if R = true then (p, 0) else (Pl.no, 4)) = A := ⟨_, rfl⟩
        rw [hA]
        have HA := hide hA
        clear hA
        go_enter Try.func13, Try.ntmps13
        have L0 := unhide HL0
        clear HL0
        go_wp2_with fail
        refine (unhide k0 _ L0.rd).mono ?_
        rintro e w1 ⟨rfl, R0, T0⟩
        have M := L0.turn R0 T0
        have f := M.frozen 0
        have c : w1.cell? ⟨w.heap.size + 1 + 1, 0, none⟩ = some (.int .i64 0) := M.cell 0
        have L1 := M.set (row' := #[.int .i64 3, .int .u32 0, .string (str []), .string (str []), .int .u64 0]) 0 (.int .i64 3) rfl
        have d := L1.cell 0
        simp only [List.getElem?_toArray, List.getElem?_cons_zero] at d
        clear L0 R0 T0 M k0
        go_wp2_with fail
        refine (unhide k1 _ L1.rd).mono ?_
        rintro e w2 ⟨rfl, R0, T0⟩
        have M := L1.turn R0 T0
        have f := M.frozen 1
        have c : w2.cell? ⟨w.heap.size + 1 + 1, 1, none⟩ = some (.int .u32 0) := M.cell 1
        have L2 := M.set (row' := #[.int .i64 3, .int .u32 (a1 : Int), .string (str []), .string (str []), .int .u64 0]) 1 (.int .u32 (a1 : Int)) rfl
        have d := L2.cell 0
        simp only [List.getElem?_toArray, List.getElem?_cons_zero] at d
        clear L1 R0 T0 M k1
        go_wp2_with fail
        refine (unhide k2 _ L2.rd).mono ?_
        rintro e w3 ⟨rfl, R0, T0⟩
        have M := L2.turn R0 T0
        have f := M.frozen 2
        have c : w3.cell? ⟨w.heap.size + 1 + 1, 2, none⟩ = some (.string (str [])) := M.cell 2
        have L3 := M.set (row' := #[.int .i64 3, .int .u32 (a1 : Int), .string (str a2), .string (str []), .int .u64 0]) 2 (.string (str a2)) rfl
        have d := L3.cell 0
        simp only [List.getElem?_toArray, List.getElem?_cons_zero] at d
        clear L2 R0 T0 M k2
        go_wp2_with fail
        refine (unhide k3 _ L3.rd).mono ?_
        rintro e w4 ⟨rfl, R0, T0⟩
        have M := L3.turn R0 T0
        have f := M.frozen 4
        have c : w4.cell? ⟨w.heap.size + 1 + 1, 4, none⟩ = some (.int .u64 0) := M.cell 4
        have L4 := M.set (row' := #[.int .i64 3, .int .u32 (a1 : Int), .string (str a2), .string (str []), .int .u64 (a3 : Int)]) 4 (.int .u64 (a3 : Int)) rfl
        have d := L4.cell 0
        simp only [List.getElem?_toArray, List.getElem?_cons_zero] at d
        clear L3 R0 T0 M k3
        go_wp2_with fail
        refine (unhide ke _ L4.rd).mono ?_
        rintro e w5 ⟨rfl, rfl⟩
        clear ke
        have q0 := L4.res
        have q1 := L4.x
        have hb := L4.below
        clear d
        rw [unhide hcl] at q1
        clear L4
        by_cases hE : E = 0
        · have hE' : (E != 0) = false := by simp [hE]
          have hc : ¬ E ≠ 0 := fun h => h hE
          have hA := unhide HA
          rw [if_neg hc] at hA
          have HB := hide hA
          clear hE hc hA HA
          go_wp2_with (refine wpList_load_row rfl 29 (.tmp 5) rfl (w.heap.size + 1 + 1) rfl 29 X (0, 0) _ q1 Try.underlying29 rfl ix ?_)
          refine (unhide k8 _).mono ?_
          rintro e w8 ⟨rfl, b8⟩
          have q0' := Below.at b8 (Array.getElem?_eq_some_iff.1 q0).1 q0
          have q1' := Below.at b8 (Array.getElem?_eq_some_iff.1 q1).1 q1
          have hb' := hb.trans (b8.mono hb.size)
          clear q0 q1 hb b8
          cases R with
          | false =>
            have hA := unhide HB
            rw [if_neg (by simp)] at hA
            subst hA
            go_wp2_with (refine wpList_store_row rfl 29 (.tmp 2) (.tmp 61) rfl w.heap.size Fl.zero.cells rfl rfl 29 _ q0' iz rfl oz ?_)
            exact bodyPost_ret (results_row_tmp rfl _ _ w.heap.size _ _ _ _ rfl (setRow_heap _ _ _ _ _ _ q0') Try.underlying29 rfl iz) rfl ⟨rfl, below_setRow hb' (Nat.le_refl _) _⟩
          | true =>
            have hA := unhide HB
            rw [if_pos rfl] at hA
            subst hA
            go_wp2_with (first
              | (refine wpList_load_row rfl 29 (.tmp 5) rfl (w.heap.size + 1 + 1) rfl 29 X (0, 0) _ q1' Try.underlying29 rfl ix ?_)
              | (refine wpList_store_row rfl 29 (.tmp 2) (.tmp 62) rfl w.heap.size X rfl rfl 29 _ q0' ix (unhide sx) ox ?_))
            exact bodyPost_ret (results_row_tmp rfl _ _ w.heap.size _ _ _ _ rfl (setRow_heap _ _ _ _ _ _ q0') Try.underlying29 rfl ix) rfl ⟨by first | rfl | (rw [unhide hX]; rfl), below_setRow hb' (Nat.le_refl _) _⟩
        · have hE' : (E != 0) = true := by simp [hE]
          have hA := unhide HA
          rw [if_pos hE] at hA
          subst hA
          clear hE
          go_wp2_with (refine wpList_store_row rfl 29 (.tmp 2) (.tmp 56) rfl w.heap.size Fl.zero.cells rfl rfl 29 _ q0 iz rfl oz ?_)
          exact bodyPost_ret (results_row_tmp rfl _ _ w.heap.size _ _ _ _ rfl (setRow_heap _ _ _ _ _ _ q0) Try.underlying29 rfl iz) rfl ⟨rfl, below_setRow hb (Nat.le_refl _) _⟩
      · by_cases ht0 : t = 0
        · have hP := unhide HP
          rw [if_neg h1, if_neg h2, if_neg h3] at hP
          subst hP
          obtain ⟨s0, hs0⟩ : ∃ s, r1.fail 4 = s := ⟨_, rfl⟩
          have hbad : s0.err ≠ 0 := by rw [← hs0]; exact Rd.fail_bad r1 4 (by decide)
          have hls : s0.rest.length ≤ 1000000000 := by rw [← hs0]; unfold Rd.fail; split <;> exact hl1
          have kf := hide fun W (h : DdAt W (w.heap.size + 1) r1) => dfail_calls _ r1 4 W h
          have E1 := s0.num_err 4 hbad
          have hw1 : (s0.num 4).1 < 4294967296 := Rd.num_lt _ 4
          have k1 := hide fun W (h : DdAt W (w.heap.size + 1) s0) => dnumber_calls _ 4 (by decide) s0 (by omega) W h
          rw [show ((4 : Nat) : Int) = 4 from rfl] at k1
          have k2 := hide fun W (h : DdAt W (w.heap.size + 1) s0) => dtext_calls _ s0 (by omega) 48 (by decide) W h
          rw [show ((48 : Nat) : Int) = 48 from rfl] at k2
          have k3 := hide fun W (h : DdAt W (w.heap.size + 1) s0) => dnumber_calls _ 8 (by decide) s0 (by omega) W h
          rw [show ((8 : Nat) : Int) = 8 from rfl] at k3
          have ke := hide fun W (h : DdAt W (w.heap.size + 1) s0) => dend_calls _ s0 W h
          have E2 := s0.text_err 48 hbad
          have E3 := s0.num_err 8 hbad
          rw [E1] at k1
          rw [E2] at k2
          rw [E3] at k3
          simp only at *
          rw [hs0] at kf ⊢
          have hE := s0.end_err hbad
          generalize (s0.num 4).1 = a1 at *
          generalize (s0.text 48).1 = a2 at *
          generalize (s0.num 8).1 = a3 at *
          generalize s0.end' = E at *
          obtain ⟨p, hp⟩ : ∃ p : Pl, p = .no := ⟨_, rfl⟩
          obtain ⟨R, hR⟩ : ∃ R : Bool, Pl.no.right = R := ⟨_, rfl⟩
          rw [hR]
          rw [show (if E ≠ 0 then (Pl.no, E) else if R = true then (Pl.no, 0) else (Pl.no, 4)) = (if E ≠ 0 then (Pl.no, E) else if R = true then (p, 0) else (Pl.no, 4)) by rw [hp]]
          have d1 : ((t : Int) == 1) = false := by simp; omega
          have d2 : ((t : Int) == 2) = false := by simp; omega
          have d3 : ((t : Int) != 2) = true := by simp; omega
          have b1 : decide ((t : Int) < 1) = true := by simp; omega
          clear ht0
          clear E1 E2 E3 hbad hls hs0 hl1 HP hpm hl0 h1 h2 h3 hp hR
          obtain ⟨A, hA⟩ : ∃ A, (if E ≠ 0 then (Pl.no, E) else if R = true then (p, 0) else (Pl.no, 4)) = A := ⟨_, rfl⟩
          rw [hA]
          have HA := hide hA
          clear hA
          go_enter Try.func13, Try.ntmps13
          have L0 := unhide HL0
          clear HL0
          go_wp2_with fail
          refine (unhide k0 _ L0.rd).mono ?_
          rintro e w1 ⟨rfl, R0, T0⟩
          have M := L0.turn R0 T0
          have f := M.frozen 0
          have c : w1.cell? ⟨w.heap.size + 1 + 1, 0, none⟩ = some (.int .i64 0) := M.cell 0
          have L1 := M.set (row' := #[.int .i64 (t : Int), .int .u32 0, .string (str []), .string (str []), .int .u64 0]) 0 (.int .i64 (t : Int)) rfl
          have d := L1.cell 0
          simp only [List.getElem?_toArray, List.getElem?_cons_zero] at d
          clear L0 R0 T0 M k0
          go_wp2_with fail
          refine (unhide kf _ L1.rd).mono ?_
          rintro e w2 ⟨rfl, R0, T0⟩
          have L2 := L1.turn R0 T0
          have d := L2.cell 0
          simp only [List.getElem?_toArray, List.getElem?_cons_zero] at d
          clear L1 R0 T0 kf
          go_wp2_with fail
          refine (unhide k1 _ L2.rd).mono ?_
          rintro e w3 ⟨rfl, R0, T0⟩
          have M := L2.turn R0 T0
          have f := M.frozen 1
          have c : w3.cell? ⟨w.heap.size + 1 + 1, 1, none⟩ = some (.int .u32 0) := M.cell 1
          have L3 := M.set (row' := #[.int .i64 (t : Int), .int .u32 (a1 : Int), .string (str []), .string (str []), .int .u64 0]) 1 (.int .u32 (a1 : Int)) rfl
          have d := L3.cell 0
          simp only [List.getElem?_toArray, List.getElem?_cons_zero] at d
          clear L2 R0 T0 M k1
          go_wp2_with fail
          refine (unhide k2 _ L3.rd).mono ?_
          rintro e w4 ⟨rfl, R0, T0⟩
          have M := L3.turn R0 T0
          have f := M.frozen 2
          have c : w4.cell? ⟨w.heap.size + 1 + 1, 2, none⟩ = some (.string (str [])) := M.cell 2
          have L4 := M.set (row' := #[.int .i64 (t : Int), .int .u32 (a1 : Int), .string (str a2), .string (str []), .int .u64 0]) 2 (.string (str a2)) rfl
          have d := L4.cell 0
          simp only [List.getElem?_toArray, List.getElem?_cons_zero] at d
          clear L3 R0 T0 M k2
          go_wp2_with fail
          refine (unhide k3 _ L4.rd).mono ?_
          rintro e w5 ⟨rfl, R0, T0⟩
          have M := L4.turn R0 T0
          have f := M.frozen 4
          have c : w5.cell? ⟨w.heap.size + 1 + 1, 4, none⟩ = some (.int .u64 0) := M.cell 4
          have L5 := M.set (row' := #[.int .i64 (t : Int), .int .u32 (a1 : Int), .string (str a2), .string (str []), .int .u64 (a3 : Int)]) 4 (.int .u64 (a3 : Int)) rfl
          have d := L5.cell 0
          simp only [List.getElem?_toArray, List.getElem?_cons_zero] at d
          clear L4 R0 T0 M k3
          go_wp2_with fail
          refine (unhide ke _ L5.rd).mono ?_
          rintro e w6 ⟨rfl, rfl⟩
          clear ke
          have q0 := L5.res
          have q1 := L5.x
          have hb := L5.below
          clear d
          have hA := unhide HA
          rw [if_pos hE] at hA
          subst hA
          have hE' : (E != 0) = true := by simp [hE]
          clear hE HA L5
          go_wp2_with (refine wpList_store_row rfl 29 (.tmp 2) (.tmp 56) rfl w.heap.size Fl.zero.cells rfl rfl 29 _ q0 iz rfl oz ?_)
          exact bodyPost_ret (results_row_tmp rfl _ _ w.heap.size _ _ _ _ rfl (setRow_heap _ _ _ _ _ _ q0) Try.underlying29 rfl iz) rfl ⟨rfl, below_setRow hb (Nat.le_refl _) _⟩
        · have hP := unhide HP
          rw [if_neg h1, if_neg h2, if_neg h3] at hP
          subst hP
          obtain ⟨s0, hs0⟩ : ∃ s, r1.fail 4 = s := ⟨_, rfl⟩
          have hbad : s0.err ≠ 0 := by rw [← hs0]; exact Rd.fail_bad r1 4 (by decide)
          have hls : s0.rest.length ≤ 1000000000 := by rw [← hs0]; unfold Rd.fail; split <;> exact hl1
          have kf := hide fun W (h : DdAt W (w.heap.size + 1) r1) => dfail_calls _ r1 4 W h
          have E1 := s0.num_err 4 hbad
          have hw1 : (s0.num 4).1 < 4294967296 := Rd.num_lt _ 4
          have k1 := hide fun W (h : DdAt W (w.heap.size + 1) s0) => dnumber_calls _ 4 (by decide) s0 (by omega) W h
          rw [show ((4 : Nat) : Int) = 4 from rfl] at k1
          have k2 := hide fun W (h : DdAt W (w.heap.size + 1) s0) => dtext_calls _ s0 (by omega) 48 (by decide) W h
          rw [show ((48 : Nat) : Int) = 48 from rfl] at k2
          have k3 := hide fun W (h : DdAt W (w.heap.size + 1) s0) => dnumber_calls _ 8 (by decide) s0 (by omega) W h
          rw [show ((8 : Nat) : Int) = 8 from rfl] at k3
          have ke := hide fun W (h : DdAt W (w.heap.size + 1) s0) => dend_calls _ s0 W h
          have E2 := s0.text_err 48 hbad
          have E3 := s0.num_err 8 hbad
          rw [E1] at k1
          rw [E2] at k2
          rw [E3] at k3
          simp only at *
          rw [hs0] at kf ⊢
          have hE := s0.end_err hbad
          generalize (s0.num 4).1 = a1 at *
          generalize (s0.text 48).1 = a2 at *
          generalize (s0.num 8).1 = a3 at *
          generalize s0.end' = E at *
          obtain ⟨p, hp⟩ : ∃ p : Pl, p = .no := ⟨_, rfl⟩
          obtain ⟨R, hR⟩ : ∃ R : Bool, Pl.no.right = R := ⟨_, rfl⟩
          rw [hR]
          rw [show (if E ≠ 0 then (Pl.no, E) else if R = true then (Pl.no, 0) else (Pl.no, 4)) = (if E ≠ 0 then (Pl.no, E) else if R = true then (p, 0) else (Pl.no, 4)) by rw [hp]]
          have d1 : ((t : Int) == 1) = false := by simp; omega
          have d2 : ((t : Int) == 2) = false := by simp; omega
          have d3 : ((t : Int) != 2) = true := by simp; omega
          have b1 : decide ((t : Int) < 1) = false := by simp; omega
          have b2 : decide ((3 : Int) < (t : Int)) = true := by simp; omega
          clear ht0
          clear E1 E2 E3 hbad hls hs0 hl1 HP hpm hl0 h1 h2 h3 hp hR
          obtain ⟨A, hA⟩ : ∃ A, (if E ≠ 0 then (Pl.no, E) else if R = true then (p, 0) else (Pl.no, 4)) = A := ⟨_, rfl⟩
          rw [hA]
          have HA := hide hA
          clear hA
          go_enter Try.func13, Try.ntmps13
          have L0 := unhide HL0
          clear HL0
          go_wp2_with fail
          refine (unhide k0 _ L0.rd).mono ?_
          rintro e w1 ⟨rfl, R0, T0⟩
          have M := L0.turn R0 T0
          have f := M.frozen 0
          have c : w1.cell? ⟨w.heap.size + 1 + 1, 0, none⟩ = some (.int .i64 0) := M.cell 0
          have L1 := M.set (row' := #[.int .i64 (t : Int), .int .u32 0, .string (str []), .string (str []), .int .u64 0]) 0 (.int .i64 (t : Int)) rfl
          have d := L1.cell 0
          simp only [List.getElem?_toArray, List.getElem?_cons_zero] at d
          clear L0 R0 T0 M k0
          go_wp2_with fail
          refine (unhide kf _ L1.rd).mono ?_
          rintro e w2 ⟨rfl, R0, T0⟩
          have L2 := L1.turn R0 T0
          have d := L2.cell 0
          simp only [List.getElem?_toArray, List.getElem?_cons_zero] at d
          clear L1 R0 T0 kf
          go_wp2_with fail
          refine (unhide k1 _ L2.rd).mono ?_
          rintro e w3 ⟨rfl, R0, T0⟩
          have M := L2.turn R0 T0
          have f := M.frozen 1
          have c : w3.cell? ⟨w.heap.size + 1 + 1, 1, none⟩ = some (.int .u32 0) := M.cell 1
          have L3 := M.set (row' := #[.int .i64 (t : Int), .int .u32 (a1 : Int), .string (str []), .string (str []), .int .u64 0]) 1 (.int .u32 (a1 : Int)) rfl
          have d := L3.cell 0
          simp only [List.getElem?_toArray, List.getElem?_cons_zero] at d
          clear L2 R0 T0 M k1
          go_wp2_with fail
          refine (unhide k2 _ L3.rd).mono ?_
          rintro e w4 ⟨rfl, R0, T0⟩
          have M := L3.turn R0 T0
          have f := M.frozen 2
          have c : w4.cell? ⟨w.heap.size + 1 + 1, 2, none⟩ = some (.string (str [])) := M.cell 2
          have L4 := M.set (row' := #[.int .i64 (t : Int), .int .u32 (a1 : Int), .string (str a2), .string (str []), .int .u64 0]) 2 (.string (str a2)) rfl
          have d := L4.cell 0
          simp only [List.getElem?_toArray, List.getElem?_cons_zero] at d
          clear L3 R0 T0 M k2
          go_wp2_with fail
          refine (unhide k3 _ L4.rd).mono ?_
          rintro e w5 ⟨rfl, R0, T0⟩
          have M := L4.turn R0 T0
          have f := M.frozen 4
          have c : w5.cell? ⟨w.heap.size + 1 + 1, 4, none⟩ = some (.int .u64 0) := M.cell 4
          have L5 := M.set (row' := #[.int .i64 (t : Int), .int .u32 (a1 : Int), .string (str a2), .string (str []), .int .u64 (a3 : Int)]) 4 (.int .u64 (a3 : Int)) rfl
          have d := L5.cell 0
          simp only [List.getElem?_toArray, List.getElem?_cons_zero] at d
          clear L4 R0 T0 M k3
          go_wp2_with fail
          refine (unhide ke _ L5.rd).mono ?_
          rintro e w6 ⟨rfl, rfl⟩
          clear ke
          have q0 := L5.res
          have q1 := L5.x
          have hb := L5.below
          clear d
          have hA := unhide HA
          rw [if_pos hE] at hA
          subst hA
          have hE' : (E != 0) = true := by simp [hE]
          clear hE HA L5
          go_wp2_with (refine wpList_store_row rfl 29 (.tmp 2) (.tmp 56) rfl w.heap.size Fl.zero.cells rfl rfl 29 _ q0 iz rfl oz ?_)
          exact bodyPost_ret (results_row_tmp rfl _ _ w.heap.size _ _ _ _ rfl (setRow_heap _ _ _ _ _ _ q0) Try.underlying29 rfl iz) rfl ⟨rfl, below_setRow hb (Nat.le_refl _) _⟩
end Go.Proofs.Ytlanplknendmaaa
