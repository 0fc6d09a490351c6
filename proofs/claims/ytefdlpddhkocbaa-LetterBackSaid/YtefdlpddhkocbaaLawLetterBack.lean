/-
  LetterBack: what is written is read as it was, what is read is written so. For every letter and every text.
-/
import Derived.Test.YtefdlpddhkocbaaLetL
namespace Go.Proofs.Ytefdlpddhkocbaa
open Go.RowKit
set_option linter.unusedSimpArgs false
set_option linter.unusedVariables false

theorem pLRead_len (l : List UInt8) : (pLRead l).1.se.length ≤ l.length ∧ (pLRead l).1.re.length ≤ l.length ∧ (pLRead l).1.bo.length ≤ l.length ∧ (pLRead l).1.ok := by
  unfold pLRead
  have z : (Lt.zero.se.length ≤ l.length ∧ Lt.zero.re.length ≤ l.length ∧ Lt.zero.bo.length ≤ l.length ∧ Lt.zero.ok) := ⟨Nat.zero_le _, Nat.zero_le _, Nat.zero_le _, zero_ok⟩
  split
  · exact z
  · split
    · exact ⟨Rd.l4_len _, Rd.l5_len _, Rd.l6_len _, Rd.letter_ok _⟩
    · exact z
/-- What the law asks of the bytes that are read. -/
theorem letter_says (l : List UInt8) : (if (pLRead l).2 != 0 then true else if (pLBytes (pLRead l).1).2 == 0 then decide ((pLBytes (pLRead l).1).1 = l) else false) = true := by
  by_cases h : (pLRead l).2 = 0
  · obtain ⟨h1, h2⟩ := letter_read l h
    rw [pLBytes, if_pos h1]
    simp [h, h2]
  · simp [h]
set_option maxHeartbeats 4000000 in
set_option maxRecDepth 100000 in
theorem letterBack_walk (x : Lt) (ok : x.ok) (s : List UInt8) (hx1 : x.se.length ≤ maxLen) (hx2 : x.re.length ≤ maxLen) (hx3 : x.bo.length ≤ maxLen) (hs : s.length ≤ maxLen) (w : World) :
    Calls Try.prog 3 #[.agg x.cells, .string (str s)] w fun e w' => e = .returned (.bool true) ∧ Below w.heap.size w w' := by
  unfold maxLen at hx1 hx2 hx3 hs
  have A := hide lawake_calls
  have Li := fun W => light_calls x W
  have hi := let_info x
  have hb0 := (Below.refl w.heap.size w).alloc (Nat.le_refl _) (.cells x.cells 24)
  have q0 := al1 w (.cells x.cells 24)
  have z0 : w.heap.size < (w.alloc (.cells x.cells 24)).heap.size := by simp
  by_cases hL : (if x.se.length ≤ 2000 then if x.re.length ≤ 2000 then decide (x.bo.length ≤ 2000) else false else false) = true
  · rw [hL] at Li
    have hl : x.se.length ≤ 2000 ∧ x.re.length ≤ 2000 ∧ x.bo.length ≤ 2000 := by
      by_cases a1 : x.se.length ≤ 2000 <;> by_cases a2 : x.re.length ≤ 2000 <;> simp [a1, a2] at hL <;> omega
    have B := hide fun W => lbytes_calls x ok (by omega) (by omega) (by omega) W
    obtain ⟨l1, l2, l3, l4⟩ := pLRead_len s
    have hsay := letter_says s
    have hback := letter_back x ok
    have E := hide fun W => lsame_calls x x W
    rw [(pLSame_iff x x).2 rfl] at E
    have ho := let_one x
    have hsz : x.cells.size = Lt.zero.cells.size := rfl
    have LI := hide Li
    by_cases hs5 : s.length ≤ 5000
    · have C := hide fun W => lread_calls s (by omega) W
      have D := hide fun W => lbytes_calls (pLRead s).1 l4 (by omega) (by omega) (by omega) W
      have F := fun W => lread_calls x.bytes (by
        unfold Lt.bytes; simp only [List.length_append, pBig_length, pText4_length]; omega) W
      have hyi := let_info (pLRead s).1
      have hyo := let_one (pLRead s).1
      have hs5' : ¬ (5000 < s.length) := by omega
      have hs6 : decide ((s.length : Int) > 5000) = false := by simp; omega
      have hs7 : decide (5000 < (s.length : Int)) = false := by simp; omega
      generalize pLBytes (pLRead s).1 = z at *
      generalize pLRead s = y at *
      have HS := hide hsay
      clear hL hl hx1 hx2 hx3 hsay l1 l2 l3 l4 Li hs
      unfold pLBytes at B
      cases hr : x.right with
      | false =>
        rw [hr, if_neg (by simp)] at B
        generalize x.cells = X at *
        clear hback F hs5 hr
        go_enter Try.func3, Try.ntmps3
        go_wp2_with fail
        refine (unhide A _).mono ?_
        rintro e w1 ⟨rfl, b1⟩
        have q1 := Below.at b1 z0 q0
        have hb1 := hb0.trans (b1.mono hb0.size)
        go_wp2_with (refine wpList_load_row rfl 24 (.tmp 2) rfl w.heap.size rfl 24 X (0, 0) _ q1 Try.underlying24 rfl hi ?_)
        refine (unhide LI _).mono ?_
        rintro e w2 ⟨rfl, b2⟩
        have q2 := Below.at b2 (Array.getElem?_eq_some_iff.1 q1).1 q1
        have hb2 := hb1.trans (b2.mono hb1.size)
        go_wp2_with (refine wpList_load_row rfl 24 (.tmp 2) rfl w.heap.size rfl 24 X (0, 0) _ q2 Try.underlying24 rfl hi ?_)
        refine (unhide B _).mono ?_
        rintro e w3 ⟨rfl, b3⟩
        have hb3 := hb2.trans (b3.mono hb2.size)
        go_wp2_with fail
        refine (unhide C _).mono ?_
        rintro e w7 ⟨rfl, b7⟩
        have hb7 : Below w.heap.size w w7 := hb3.trans (b7.mono hb3.size)
        have q7 := setRow_heap _ _ _ y.1.cells _ _ (al1 w7 (.cells Lt.zero.cells 24))
        have hb8 := below_setRow (hb7.alloc hb7.size (.cells Lt.zero.cells 24)) hb7.size y.1.cells
        go_wp2_with (first
          | (refine wpList_store_row rfl 24 (.tmp 9) (.tmp 47) rfl w7.heap.size y.1.cells rfl rfl 24 _ (al1 w7 (.cells Lt.zero.cells 24)) hyi rfl hyo ?_)
          | (refine wpList_load_row rfl 24 (.tmp 9) rfl w7.heap.size rfl 24 y.1.cells (0, 0) _ q7 Try.underlying24 rfl hyi ?_))
        refine (unhide D _).mono ?_
        rintro e w9 ⟨rfl, b9⟩
        have hb9 : Below w.heap.size w w9 := hb8.trans (b9.mono hb8.size)
        go_wp2_with fail
        refine (unhide A _).mono ?_
        rintro e w10 ⟨rfl, b10⟩
        have hb10 := hb9.trans (b10.mono hb9.size)
        have hsay := unhide HS
        cases e1 : (y.2 != 0) with
        | true =>
          go_wp2_with fail
          go_ret
          exact ⟨rfl, hb10⟩
        | false =>
          rw [e1] at hsay
          cases e2 : (z.2 == 0) with
          | true =>
            rw [e2] at hsay
            have e3 : z.1 = s := by simpa using hsay
            have e4 : ((str z.1).toList == (str s).toList) = true := by rw [e3]; simp
            clear hsay
            go_wp2_with fail
            go_ret
            exact ⟨rfl, hb10⟩
          | false =>
            rw [e2] at hsay
            simp at hsay
      | true =>
        rw [hr, if_pos rfl] at B
        rw [hback hr] at F
        have HF := hide F
        generalize x.bytes = xb at *
        generalize hXX : x.cells = X at *
        clear hback F hs5 hr hXX
        go_enter Try.func3, Try.ntmps3
        go_wp2_with fail
        refine (unhide A _).mono ?_
        rintro e w1 ⟨rfl, b1⟩
        have q1 := Below.at b1 z0 q0
        have hb1 := hb0.trans (b1.mono hb0.size)
        go_wp2_with (refine wpList_load_row rfl 24 (.tmp 2) rfl w.heap.size rfl 24 X (0, 0) _ q1 Try.underlying24 rfl hi ?_)
        refine (unhide LI _).mono ?_
        rintro e w2 ⟨rfl, b2⟩
        have q2 := Below.at b2 (Array.getElem?_eq_some_iff.1 q1).1 q1
        have hb2 := hb1.trans (b2.mono hb1.size)
        go_wp2_with (refine wpList_load_row rfl 24 (.tmp 2) rfl w.heap.size rfl 24 X (0, 0) _ q2 Try.underlying24 rfl hi ?_)
        refine (unhide B _).mono ?_
        rintro e w3 ⟨rfl, b3⟩
        have q3 := Below.at b3 (Array.getElem?_eq_some_iff.1 q2).1 q2
        have hb3 := hb2.trans (b3.mono hb2.size)
        go_wp2_with fail
        refine (unhide HF _).mono ?_
        rintro e w4 ⟨rfl, b4⟩
        have q4 := Below.at b4 (Array.getElem?_eq_some_iff.1 q3).1 q3
        have hb4 := hb3.trans (b4.mono hb3.size)
        have z4 := (Array.getElem?_eq_some_iff.1 q4).1
        have q5 := setRow_heap _ _ _ X _ _ (al1 w4 (.cells Lt.zero.cells 24))
        have q6 := (setRow_other (w4.alloc (.cells Lt.zero.cells 24)) w4.heap.size w.heap.size X (by omega)).trans ((Below.heap_alloc w4 _ _ z4).trans q4)
        have hb5 := below_setRow (hb4.alloc hb4.size (.cells Lt.zero.cells 24)) hb4.size X
        go_wp2_with (first
          | (refine wpList_store_row rfl 24 (.tmp 7) (.tmp 34) rfl w4.heap.size X rfl rfl 24 _ (al1 w4 (.cells Lt.zero.cells 24)) hi hsz.symm ho ?_)
          | (refine wpList_load_row_gd rfl 24 (.tmp 2) rfl w.heap.size rfl 24 X (0, 0) _ q6 Try.underlying24 rfl hi ?_)
          | (refine wpList_load_row_gd rfl 24 (.tmp 7) rfl w4.heap.size rfl 24 X (0, 0) _ q5 Try.underlying24 rfl hi ?_))
        refine (unhide E _).mono ?_
        rintro e w6 ⟨rfl, b6⟩
        have hb6 : Below w.heap.size w w6 := hb5.trans (b6.mono hb5.size)
        go_wp2_with fail
        refine (unhide C _).mono ?_
        rintro e w7 ⟨rfl, b7⟩
        have hb7 : Below w.heap.size w w7 := hb6.trans (b7.mono hb6.size)
        have q7 := setRow_heap _ _ _ y.1.cells _ _ (al1 w7 (.cells Lt.zero.cells 24))
        have hb8 := below_setRow (hb7.alloc hb7.size (.cells Lt.zero.cells 24)) hb7.size y.1.cells
        go_wp2_with (first
          | (refine wpList_store_row rfl 24 (.tmp 9) (.tmp 47) rfl w7.heap.size y.1.cells rfl rfl 24 _ (al1 w7 (.cells Lt.zero.cells 24)) hyi rfl hyo ?_)
          | (refine wpList_load_row rfl 24 (.tmp 9) rfl w7.heap.size rfl 24 y.1.cells (0, 0) _ q7 Try.underlying24 rfl hyi ?_))
        refine (unhide D _).mono ?_
        rintro e w9 ⟨rfl, b9⟩
        have hb9 : Below w.heap.size w w9 := hb8.trans (b9.mono hb8.size)
        go_wp2_with fail
        refine (unhide A _).mono ?_
        rintro e w10 ⟨rfl, b10⟩
        have hb10 := hb9.trans (b10.mono hb9.size)
        have hsay := unhide HS
        cases e1 : (y.2 != 0) with
        | true =>
          go_wp2_with fail
          go_ret
          exact ⟨rfl, hb10⟩
        | false =>
          rw [e1] at hsay
          cases e2 : (z.2 == 0) with
          | true =>
            rw [e2] at hsay
            have e3 : z.1 = s := by simpa using hsay
            have e4 : ((str z.1).toList == (str s).toList) = true := by rw [e3]; simp
            clear hsay
            go_wp2_with fail
            go_ret
            exact ⟨rfl, hb10⟩
          | false =>
            rw [e2] at hsay
            simp at hsay
    · have hs5' : 5000 < s.length := by omega
      have hs7 : decide (5000 < (s.length : Int)) = true := by simp; omega
      generalize x.cells = X at *
      clear hback hL hl hx1 hx2 hx3 hsay l1 l2 l3 l4 Li B hs5
      go_enter Try.func3, Try.ntmps3
      go_wp2_with fail
      refine (unhide A _).mono ?_
      rintro e w1 ⟨rfl, b1⟩
      have q1 := Below.at b1 z0 q0
      have hb1 := hb0.trans (b1.mono hb0.size)
      go_wp2_with (refine wpList_load_row rfl 24 (.tmp 2) rfl w.heap.size rfl 24 X (0, 0) _ q1 Try.underlying24 rfl hi ?_)
      refine (unhide LI _).mono ?_
      rintro e w2 ⟨rfl, b2⟩
      go_wp2_with fail
      refine (unhide A _).mono ?_
      rintro e w3 ⟨rfl, b3⟩
      go_wp2_with fail
      go_ret
      have hb2 := hb1.trans (b2.mono hb1.size)
      exact ⟨rfl, hb2.trans (b3.mono hb2.size)⟩
  · rw [Bool.not_eq_true] at hL
    rw [hL] at Li
    have LI := hide Li
    generalize x.cells = C at *
    clear Li hL hx1 hx2 hx3 ok
    go_enter Try.func3, Try.ntmps3
    go_wp2_with fail
    refine (unhide A _).mono ?_
    rintro e w1 ⟨rfl, b1⟩
    have q1 := Below.at b1 z0 q0
    have hb1 := hb0.trans (b1.mono hb0.size)
    go_wp2_with (refine wpList_load_row rfl 24 (.tmp 2) rfl w.heap.size rfl 24 C (0, 0) _ q1 Try.underlying24 rfl hi ?_)
    refine (unhide LI _).mono ?_
    rintro e w2 ⟨rfl, b2⟩
    go_wp2_with fail
    refine (unhide A _).mono ?_
    rintro e w3 ⟨rfl, b3⟩
    go_wp2_with fail
    go_ret
    have hb2 := hb1.trans (b2.mono hb1.size)
    exact ⟨rfl, hb2.trans (b3.mono hb2.size)⟩
end Go.Proofs.Ytefdlpddhkocbaa
