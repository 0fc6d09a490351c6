/-
  LetterBytes: the bytes of any letter, its leaf, and the letter that any bytes are, as the document says.
-/
/-
  WHAT THE ROWS OF LAYER 1 LIST GIVES THE WALKS: the two tables of package sha, read as the program's text lays them.
-/
/-
  A LETTER AS AN ARGUMENT: what a row hands the walks.
-/
import Derived.Test.YtefdlpddhkocbaaDoorJ1
import Derived.Test.YtefdlpddhkocbaaDoorJ5
import Derived.Test.YtefdlpddhkocbaaDoorJ2
import Derived.Test.YtefdlpddhkocbaaDoorCards
import Derived.Test.YtefdlpddhkocbaaDoorTie
import Derived.ProofKit
import Derived.OpenShut
import Derived.Deep.DeepHandedRow
import Derived.Lib.LaidTab
import Derived.Deep.Slices
import Derived.Lib.SmallJoins
import Derived.ChangeMaps5
namespace Go.Proofs.YtefdlpddhkocbaaDoor
open Go.RowKit
set_option linter.unusedSimpArgs false
set_option linter.unusedVariables false

theorem light_iff (x : Lt) : (if x.se.length ≤ 2000 then if x.re.length ≤ 2000 then decide (x.bo.length ≤ 2000) else false else false) = true ↔ x.se.length ≤ 2000 ∧ x.re.length ≤ 2000 ∧ x.bo.length ≤ 2000 := by
  by_cases a1 : x.se.length ≤ 2000 <;> by_cases a2 : x.re.length ≤ 2000 <;> simp [a1, a2]
set_option maxHeartbeats 8000000 in
set_option maxRecDepth 100000 in
theorem letterBytes_walk (x y : Lt) (ok : x.ok) (s : List UInt8) (hs : s.length ≤ maxLen) (w : World) (tabs : Tabs w) :
    Calls Tryd.prog 3 #[.agg x.cells, .agg y.cells, .string (str s)] w fun e w' => e = .returned (.bool true) ∧ Below w.heap.size w w' := by
  unfold maxLen at hs
  have A := hide lawake_calls
  have Lx := fun W => light_calls x W
  have Ly := fun W => light_calls y W
  have hi := let_info x
  have hj := let_info y
  have HT := hide tabs
  clear tabs
  obtain ⟨q0, y0⟩ := al2 w (.cells x.cells 24) (.cells y.cells 24)
  have hb0 := bel2 w (.cells x.cells 24) (.cells y.cells 24)
  have z0 := (Array.getElem?_eq_some_iff.1 q0).1
  have zy0 := (Array.getElem?_eq_some_iff.1 y0).1
  obtain ⟨p, hp⟩ : ∃ p, (if x.se.length ≤ 2000 then if x.re.length ≤ 2000 then decide (x.bo.length ≤ 2000) else false else false) = p := ⟨_, rfl⟩
  rw [hp] at Lx
  obtain ⟨p', hp'⟩ : ∃ p, (if y.se.length ≤ 2000 then if y.re.length ≤ 2000 then decide (y.bo.length ≤ 2000) else false else false) = p := ⟨_, rfl⟩
  rw [hp'] at Ly
  have LX := hide Lx
  have LY := hide Ly
  clear Lx Ly
  cases p with
  | false =>
    generalize x.cells = X at *
    generalize y.cells = Y at *
    clear hp hp'
    go_enter Tryd.func3, Tryd.ntmps3
    go_wp2_with fail
    refine (unhide A _).mono ?_
    rintro e w1 ⟨rfl, b1⟩
    have q1 := Below.at b1 z0 q0
    have y1 := Below.at b1 zy0 y0
    have hb1 := hb0.trans (b1.mono hb0.size)
    clear q0 y0 b1
    go_wp2_with (refine wpList_load_row rfl 24 (.tmp 3) rfl w.heap.size rfl 24 X (0, 0) _ q1 Tryd.underlying24 rfl hi ?_)
    refine (unhide LX _).mono ?_
    rintro e w2 ⟨rfl, b2⟩
    have q2 := Below.at b2 (Array.getElem?_eq_some_iff.1 q1).1 q1
    have y2 := Below.at b2 (Array.getElem?_eq_some_iff.1 y1).1 y1
    have hb2 := hb1.trans (b2.mono hb1.size)
    clear q1 y1 b2 hb1
    go_wp2_with fail
    refine (unhide A _).mono ?_
    rintro e w9 ⟨rfl, b9⟩
    go_wp2_with fail
    go_ret
    exact ⟨rfl, hb2.trans (b9.mono hb2.size)⟩
  | true =>
    cases p' with
    | false =>
      generalize x.cells = X at *
      generalize y.cells = Y at *
      clear hp hp'
      go_enter Tryd.func3, Tryd.ntmps3
      go_wp2_with fail
      refine (unhide A _).mono ?_
      rintro e w1 ⟨rfl, b1⟩
      have q1 := Below.at b1 z0 q0
      have y1 := Below.at b1 zy0 y0
      have hb1 := hb0.trans (b1.mono hb0.size)
      clear q0 y0 b1
      go_wp2_with (refine wpList_load_row rfl 24 (.tmp 3) rfl w.heap.size rfl 24 X (0, 0) _ q1 Tryd.underlying24 rfl hi ?_)
      refine (unhide LX _).mono ?_
      rintro e w2 ⟨rfl, b2⟩
      have q2 := Below.at b2 (Array.getElem?_eq_some_iff.1 q1).1 q1
      have y2 := Below.at b2 (Array.getElem?_eq_some_iff.1 y1).1 y1
      have hb2 := hb1.trans (b2.mono hb1.size)
      clear q1 y1 b2 hb1
      go_wp2_with (refine wpList_load_row_gd rfl 24 (.tmp 4) rfl (w.heap.size + 1) rfl 24 Y (0, 0) _ y2 Tryd.underlying24 rfl hj ?_)
      refine (unhide LY _).mono ?_
      rintro e w3 ⟨rfl, b3⟩
      have q3 := Below.at b3 (Array.getElem?_eq_some_iff.1 q2).1 q2
      have y3 := Below.at b3 (Array.getElem?_eq_some_iff.1 y2).1 y2
      have hb3 := hb2.trans (b3.mono hb2.size)
      clear q2 y2 b3 hb2
      go_wp2_with fail
      refine (unhide A _).mono ?_
      rintro e w9 ⟨rfl, b9⟩
      go_wp2_with fail
      go_ret
      exact ⟨rfl, hb3.trans (b9.mono hb3.size)⟩
    | true =>
      by_cases hs5 : s.length ≤ 5000
      · obtain ⟨l1, l2, l3⟩ := (light_iff x).1 hp
        have hs7 : decide (5000 < (s.length : Int)) = false := by simp; omega
        have CB := fun W => lbytes_calls x ok (by omega) (by omega) (by omega) W
        have CR := hide fun W => lright_calls x (by omega) (by omega) W
        have CRR := hide fun W => lrright_calls x (by omega) (by omega) W
        have CP := hide fun W => lplain_calls x ok (by omega) (by omega) (by omega) W
        have CRd := hide fun W => lread_calls s (by omega) W
        have CRr := hide fun W => lrread_calls s (by omega) W
        have CSr := hide fun W => lrsame_calls (pLRead s).1 (pLRead s).1 W
        rw [(pLSame_iff _ _).2 rfl] at CSr
        have CL := hide fun W t => lleaf_calls x ok (by omega) (by omega) (by omega) W t
        have CLr := hide fun W => lrleaf_calls x ok (by omega) (by omega) (by omega) W
        have CS := hide fun W => lsame_calls x y W
        have CSS := hide fun W => lrsame_calls x y W
        have hri := let_info (pLRead s).1
        have hrz := let_one (pLRead s).1
        have hDD := hide fun W => dig_self (pLeaf x) (pLeaf_length x) W
        have e1 : (pLRead s).2 == (pLRead s).2 := by simp
        unfold pLBytes at CB
        generalize pLRead s = r at *
        generalize pLeaf x = D at *
        generalize pLSame x y = S at *
        have hSS : (S == S) = true := by simp
        have HSS := hide hSS
        have eB : ((str x.bytes).toList == (str x.bytes).toList) = true := by simp
        cases hr : x.right with
        | false =>
          rw [hr, if_neg (by simp)] at CB
          simp only [show str [] = (⟨#[]⟩ : ByteArray) from rfl] at CB
          rw [hr] at CR CRR
          have CB := hide CB
          generalize x.bytes = B at *
          generalize x.cells = X at *
          generalize y.cells = Y at *
          clear hp hp' l1 l2 l3 hs5 hr ok hs hSS
          go_enter Tryd.func3, Tryd.ntmps3
          go_wp2_with fail
          refine (unhide A _).mono ?_
          rintro e w1 ⟨rfl, b1⟩
          have q1 := Below.at b1 z0 q0
          have y1 := Below.at b1 zy0 y0
          have hb1 := hb0.trans (b1.mono hb0.size)
          clear q0 y0 b1
          go_wp2_with (refine wpList_load_row rfl 24 (.tmp 3) rfl w.heap.size rfl 24 X (0, 0) _ q1 Tryd.underlying24 rfl hi ?_)
          refine (unhide LX _).mono ?_
          rintro e w2 ⟨rfl, b2⟩
          have q2 := Below.at b2 (Array.getElem?_eq_some_iff.1 q1).1 q1
          have y2 := Below.at b2 (Array.getElem?_eq_some_iff.1 y1).1 y1
          have hb2 := hb1.trans (b2.mono hb1.size)
          clear q1 y1 b2 hb1
          go_wp2_with (refine wpList_load_row_gd rfl 24 (.tmp 4) rfl (w.heap.size + 1) rfl 24 Y (0, 0) _ y2 Tryd.underlying24 rfl hj ?_)
          refine (unhide LY _).mono ?_
          rintro e w3 ⟨rfl, b3⟩
          have q3 := Below.at b3 (Array.getElem?_eq_some_iff.1 q2).1 q2
          have y3 := Below.at b3 (Array.getElem?_eq_some_iff.1 y2).1 y2
          have hb3 := hb2.trans (b3.mono hb2.size)
          clear q2 y2 b3 hb2
          go_wp2_with (refine wpList_load_row rfl 24 (.tmp 3) rfl w.heap.size rfl 24 X (0, 0) _ q3 Tryd.underlying24 rfl hi ?_)
          refine (unhide CB _).mono ?_
          rintro e w4 ⟨rfl, b4⟩
          have q4 := Below.at b4 (Array.getElem?_eq_some_iff.1 q3).1 q3
          have y4 := Below.at b4 (Array.getElem?_eq_some_iff.1 y3).1 y3
          have hb4 := hb3.trans (b4.mono hb3.size)
          clear q3 y3 b4 hb3
          go_wp2_with (refine wpList_load_row rfl 24 (.tmp 3) rfl w.heap.size rfl 24 X (0, 0) _ q4 Tryd.underlying24 rfl hi ?_)
          refine (unhide CRR _).mono ?_
          rintro e w5 ⟨rfl, b5⟩
          have q5 := Below.at b5 (Array.getElem?_eq_some_iff.1 q4).1 q4
          have y5 := Below.at b5 (Array.getElem?_eq_some_iff.1 y4).1 y4
          have hb5 := hb4.trans (b5.mono hb4.size)
          clear q4 y4 b5 hb4
          go_wp2_with fail
          refine (unhide CRd _).mono ?_
          rintro e w7 ⟨rfl, b7⟩
          have q7 := Below.at b7 (Array.getElem?_eq_some_iff.1 q5).1 q5
          have y7 := Below.at b7 (Array.getElem?_eq_some_iff.1 y5).1 y5
          have hb7 := hb5.trans (b7.mono hb5.size)
          have zq7 := (Array.getElem?_eq_some_iff.1 q7).1
          have zy7 := (Array.getElem?_eq_some_iff.1 y7).1
          clear q5 y5 b7 hb5
          go_wp2_with (refine wpList_store_newV rfl 24 (.tmp 11) (.tmp 43) rfl w7 Lt.zero.cells _ r.1.cells rfl rfl hri rfl hrz ?_; intro w8 r8 b8 z8)
          have q8 := Below.at b8 zq7 q7
          have y8 := Below.at b8 zy7 y7
          have hb8 := hb7.trans (b8.mono hb7.size)
          clear q7 y7 b8 hb7
          refine (unhide CRr _).mono ?_
          rintro e w9 ⟨rfl, b9⟩
          have q9 := Below.at b9 (Array.getElem?_eq_some_iff.1 q8).1 q8
          have y9 := Below.at b9 (Array.getElem?_eq_some_iff.1 y8).1 y8
          have r9 := Below.at b9 (Array.getElem?_eq_some_iff.1 r8).1 r8
          have hb9 := hb8.trans (b9.mono hb8.size)
          have zq9 := (Array.getElem?_eq_some_iff.1 q9).1
          have zy9 := (Array.getElem?_eq_some_iff.1 y9).1
          have zr9 := (Array.getElem?_eq_some_iff.1 r9).1
          clear q8 y8 r8 b9 hb8 z8
          go_wp2_with (refine wpList_store_newV rfl 24 (.tmp 13) (.tmp 48) rfl w9 Lt.zero.cells _ r.1.cells rfl rfl hri rfl hrz ?_; intro Z rZ bZ zZ)
          have qZ := Below.at bZ zq9 q9
          have yZ := Below.at bZ zy9 y9
          have sZ := Below.at bZ zr9 r9
          have hbZ := hb9.trans (bZ.mono hb9.size)
          have tZ := (unhide HT).below hbZ (Nat.le_refl _)
          obtain ⟨G1, hG1⟩ : ∃ G, w7.heap.size = G := ⟨_, rfl⟩
          obtain ⟨G2, hG2⟩ : ∃ G, w9.heap.size = G := ⟨_, rfl⟩
          rw [hG1] at sZ
          rw [hG2] at rZ
          rw [hG1, hG2]
          clear q9 y9 r9 bZ hb9 zq9 zy9 zr9 zq7 zy7 zZ hG1 hG2
          have RX : Hid (∀ w', (∃ p : Regrown, w' = Sort.grow (redrawn Z p.d) p.os) → w'.heap[w.heap.size]? = some (.cells X 24 (0, 0))) := fun w' ⟨p, hp⟩ => by rw [hp]; exact Below.at (below_regrown Z p.d p.os) (Array.getElem?_eq_some_iff.1 qZ).1 qZ
          have RY : Hid (∀ w', (∃ p : Regrown, w' = Sort.grow (redrawn Z p.d) p.os) → w'.heap[w.heap.size + 1]? = some (.cells Y 24 (0, 0))) := fun w' ⟨p, hp⟩ => by rw [hp]; exact Below.at (below_regrown Z p.d p.os) (Array.getElem?_eq_some_iff.1 yZ).1 yZ
          have R1 : Hid (∀ w', (∃ p : Regrown, w' = Sort.grow (redrawn Z p.d) p.os) → w'.heap[G1]? = some (.cells r.1.cells 24 (0, 0))) := fun w' ⟨p, hp⟩ => by rw [hp]; exact Below.at (below_regrown Z p.d p.os) (Array.getElem?_eq_some_iff.1 sZ).1 sZ
          have R2 : Hid (∀ w', (∃ p : Regrown, w' = Sort.grow (redrawn Z p.d) p.os) → w'.heap[G2]? = some (.cells r.1.cells 24 (0, 0))) := fun w' ⟨p, hp⟩ => by rw [hp]; exact Below.at (below_regrown Z p.d p.os) (Array.getElem?_eq_some_iff.1 rZ).1 rZ
          have kA := hide fun d os => Calls.regrown_of (w := Z) (d := d) (os := os) (unhide A _)
          have kR := hide fun d os => Calls.regrown_of (w := Z) (d := d) (os := os) (unhide CR _)
          have kRR := hide fun d os => Calls.regrown_of (w := Z) (d := d) (os := os) (unhide CRR _)
          have kSr := hide fun d os => Calls.regrown_of (w := Z) (d := d) (os := os) (unhide CSr _)
          have kL := hide fun d os => Calls.regrown_of (w := Z) (d := d) (os := os) (unhide CL _ (tZ.below (below_regrown Z d os) (Nat.le_refl _)))
          have kLr := hide fun d os => Calls.regrown_of (w := Z) (d := d) (os := os) (unhide CLr _)
          have kS := hide fun d os => Calls.regrown_of (w := Z) (d := d) (os := os) (unhide CS _)
          have kSS := hide fun d os => Calls.regrown_of (w := Z) (d := d) (os := os) (unhide CSS _)
          clear qZ yZ sZ rZ tZ
          go_wp2_with fail
          refine wp_region_below mixed (by kernel_rfl) ?_
          quiet_step (exact unhide kA _ _)
          go_big_quiet_step (fail)
          refine wpQuiet_load_row rfl 24 (.tmp 3) rfl w.heap.size rfl 24 X (0, 0) _ (unhide RX) Tryd.underlying24 rfl hi ?_
          quiet_step (exact unhide kR _ _)
          refine wpQuiet_load_row rfl 24 (.tmp 3) rfl w.heap.size rfl 24 X (0, 0) _ (unhide RX) Tryd.underlying24 rfl hi ?_
          quiet_step (exact unhide kRR _ _)
          go_big_quiet_step (fail)
          go_big_quiet_step (fail)
          go_big_quiet_step (fail)
          go_big_quiet_step (fail)
          go_big_quiet_step (fail)
          go_big_quiet_step (fail)
          go_big_quiet_step (fail)
          go_big_quiet_step (fail)
          go_big_quiet_step (fail)
          go_big_quiet_step (fail)
          go_big_quiet_step (fail)
          go_big_quiet_step (fail)
          go_big_quiet_step (fail)
          refine wpQuiet_load_row rfl 24 (.tmp 11) rfl G1 rfl 24 r.1.cells (0, 0) _ (unhide R1) Tryd.underlying24 rfl hri ?_
          refine wpQuiet_load_row rfl 24 (.tmp 13) rfl G2 rfl 24 r.1.cells (0, 0) _ (unhide R2) Tryd.underlying24 rfl hri ?_
          quiet_step (exact unhide kSr _ _)
          go_big_quiet_step (fail)
          go_big_quiet_step (fail)
          go_big_quiet_step (fail)
          go_big_quiet_step (fail)
          go_big_quiet_step (fail)
          go_big_quiet_step (fail)
          go_big_quiet_step (fail)
          refine wpQuiet_load_row rfl 24 (.tmp 3) rfl w.heap.size rfl 24 X (0, 0) _ (unhide RX) Tryd.underlying24 rfl hi ?_
          quiet_step (exact unhide kL _ _)
          refine wpQuiet_load_row rfl 24 (.tmp 3) rfl w.heap.size rfl 24 X (0, 0) _ (unhide RX) Tryd.underlying24 rfl hi ?_
          quiet_step (exact unhide kLr _ _)
          refine wpQuiet_eql rfl 37 37 (.tmp 80) (.tmp 82) rfl _ _ rfl rfl (by kernel_rfl) true (unhide hDD) ?_
          quiet_step (fail)
          go_big_quiet_step (fail)
          refine wpQuiet_load_row rfl 24 (.tmp 3) rfl w.heap.size rfl 24 X (0, 0) _ (unhide RX) Tryd.underlying24 rfl hi ?_
          refine wpQuiet_load_row rfl 24 (.tmp 4) rfl (w.heap.size + 1) rfl 24 Y (0, 0) _ (unhide RY) Tryd.underlying24 rfl hj ?_
          quiet_step (exact unhide kS _ _)
          refine wpQuiet_load_row rfl 24 (.tmp 3) rfl w.heap.size rfl 24 X (0, 0) _ (unhide RX) Tryd.underlying24 rfl hi ?_
          refine wpQuiet_load_row rfl 24 (.tmp 4) rfl (w.heap.size + 1) rfl 24 Y (0, 0) _ (unhide RY) Tryd.underlying24 rfl hj ?_
          quiet_step (exact unhide kSS _ _)
          go_big_quiet_step (fail)
          go_big_quiet_step (fail)
          go_big_quiet_step (fail)
          refine wpQuiet_nil ?_
          intro V hbV
          go_wp2
          go_ret
          exact ⟨rfl, hbZ.trans (hbV.mono hbZ.size)⟩
        | true =>
          rw [hr, if_pos rfl] at CB
          rw [hr] at CR CRR
          have CB := hide CB
          generalize x.bytes = B at *
          generalize x.cells = X at *
          generalize y.cells = Y at *
          clear hp hp' l1 l2 l3 hs5 hr ok hs hSS
          go_enter Tryd.func3, Tryd.ntmps3
          go_wp2_with fail
          refine (unhide A _).mono ?_
          rintro e w1 ⟨rfl, b1⟩
          have q1 := Below.at b1 z0 q0
          have y1 := Below.at b1 zy0 y0
          have hb1 := hb0.trans (b1.mono hb0.size)
          clear q0 y0 b1
          go_wp2_with (refine wpList_load_row rfl 24 (.tmp 3) rfl w.heap.size rfl 24 X (0, 0) _ q1 Tryd.underlying24 rfl hi ?_)
          refine (unhide LX _).mono ?_
          rintro e w2 ⟨rfl, b2⟩
          have q2 := Below.at b2 (Array.getElem?_eq_some_iff.1 q1).1 q1
          have y2 := Below.at b2 (Array.getElem?_eq_some_iff.1 y1).1 y1
          have hb2 := hb1.trans (b2.mono hb1.size)
          clear q1 y1 b2 hb1
          go_wp2_with (refine wpList_load_row_gd rfl 24 (.tmp 4) rfl (w.heap.size + 1) rfl 24 Y (0, 0) _ y2 Tryd.underlying24 rfl hj ?_)
          refine (unhide LY _).mono ?_
          rintro e w3 ⟨rfl, b3⟩
          have q3 := Below.at b3 (Array.getElem?_eq_some_iff.1 q2).1 q2
          have y3 := Below.at b3 (Array.getElem?_eq_some_iff.1 y2).1 y2
          have hb3 := hb2.trans (b3.mono hb2.size)
          clear q2 y2 b3 hb2
          go_wp2_with (refine wpList_load_row rfl 24 (.tmp 3) rfl w.heap.size rfl 24 X (0, 0) _ q3 Tryd.underlying24 rfl hi ?_)
          refine (unhide CB _).mono ?_
          rintro e w4 ⟨rfl, b4⟩
          have q4 := Below.at b4 (Array.getElem?_eq_some_iff.1 q3).1 q3
          have y4 := Below.at b4 (Array.getElem?_eq_some_iff.1 y3).1 y3
          have hb4 := hb3.trans (b4.mono hb3.size)
          clear q3 y3 b4 hb3
          go_wp2_with (refine wpList_load_row rfl 24 (.tmp 3) rfl w.heap.size rfl 24 X (0, 0) _ q4 Tryd.underlying24 rfl hi ?_)
          refine (unhide CRR _).mono ?_
          rintro e w5 ⟨rfl, b5⟩
          have q5 := Below.at b5 (Array.getElem?_eq_some_iff.1 q4).1 q4
          have y5 := Below.at b5 (Array.getElem?_eq_some_iff.1 y4).1 y4
          have hb5 := hb4.trans (b5.mono hb4.size)
          clear q4 y4 b5 hb4
          go_wp2_with (refine wpList_load_row rfl 24 (.tmp 3) rfl w.heap.size rfl 24 X (0, 0) _ q5 Tryd.underlying24 rfl hi ?_)
          refine (unhide CP _).mono ?_
          rintro e w6 ⟨rfl, b6⟩
          have q6 := Below.at b6 (Array.getElem?_eq_some_iff.1 q5).1 q5
          have y6 := Below.at b6 (Array.getElem?_eq_some_iff.1 y5).1 y5
          have hb6 := hb5.trans (b6.mono hb5.size)
          clear q5 y5 b6 hb5
          go_wp2_with fail
          refine (unhide CRd _).mono ?_
          rintro e w7 ⟨rfl, b7⟩
          have q7 := Below.at b7 (Array.getElem?_eq_some_iff.1 q6).1 q6
          have y7 := Below.at b7 (Array.getElem?_eq_some_iff.1 y6).1 y6
          have hb7 := hb6.trans (b7.mono hb6.size)
          have zq7 := (Array.getElem?_eq_some_iff.1 q7).1
          have zy7 := (Array.getElem?_eq_some_iff.1 y7).1
          clear q6 y6 b7 hb6
          go_wp2_with (refine wpList_store_newV rfl 24 (.tmp 11) (.tmp 43) rfl w7 Lt.zero.cells _ r.1.cells rfl rfl hri rfl hrz ?_; intro w8 r8 b8 z8)
          have q8 := Below.at b8 zq7 q7
          have y8 := Below.at b8 zy7 y7
          have hb8 := hb7.trans (b8.mono hb7.size)
          clear q7 y7 b8 hb7
          refine (unhide CRr _).mono ?_
          rintro e w9 ⟨rfl, b9⟩
          have q9 := Below.at b9 (Array.getElem?_eq_some_iff.1 q8).1 q8
          have y9 := Below.at b9 (Array.getElem?_eq_some_iff.1 y8).1 y8
          have r9 := Below.at b9 (Array.getElem?_eq_some_iff.1 r8).1 r8
          have hb9 := hb8.trans (b9.mono hb8.size)
          have zq9 := (Array.getElem?_eq_some_iff.1 q9).1
          have zy9 := (Array.getElem?_eq_some_iff.1 y9).1
          have zr9 := (Array.getElem?_eq_some_iff.1 r9).1
          clear q8 y8 r8 b9 hb8 z8
          go_wp2_with (refine wpList_store_newV rfl 24 (.tmp 13) (.tmp 48) rfl w9 Lt.zero.cells _ r.1.cells rfl rfl hri rfl hrz ?_; intro Z rZ bZ zZ)
          have qZ := Below.at bZ zq9 q9
          have yZ := Below.at bZ zy9 y9
          have sZ := Below.at bZ zr9 r9
          have hbZ := hb9.trans (bZ.mono hb9.size)
          have tZ := (unhide HT).below hbZ (Nat.le_refl _)
          obtain ⟨G1, hG1⟩ : ∃ G, w7.heap.size = G := ⟨_, rfl⟩
          obtain ⟨G2, hG2⟩ : ∃ G, w9.heap.size = G := ⟨_, rfl⟩
          rw [hG1] at sZ
          rw [hG2] at rZ
          rw [hG1, hG2]
          clear q9 y9 r9 bZ hb9 zq9 zy9 zr9 zq7 zy7 zZ hG1 hG2
          have RX : Hid (∀ w', (∃ p : Regrown, w' = Sort.grow (redrawn Z p.d) p.os) → w'.heap[w.heap.size]? = some (.cells X 24 (0, 0))) := fun w' ⟨p, hp⟩ => by rw [hp]; exact Below.at (below_regrown Z p.d p.os) (Array.getElem?_eq_some_iff.1 qZ).1 qZ
          have RY : Hid (∀ w', (∃ p : Regrown, w' = Sort.grow (redrawn Z p.d) p.os) → w'.heap[w.heap.size + 1]? = some (.cells Y 24 (0, 0))) := fun w' ⟨p, hp⟩ => by rw [hp]; exact Below.at (below_regrown Z p.d p.os) (Array.getElem?_eq_some_iff.1 yZ).1 yZ
          have R1 : Hid (∀ w', (∃ p : Regrown, w' = Sort.grow (redrawn Z p.d) p.os) → w'.heap[G1]? = some (.cells r.1.cells 24 (0, 0))) := fun w' ⟨p, hp⟩ => by rw [hp]; exact Below.at (below_regrown Z p.d p.os) (Array.getElem?_eq_some_iff.1 sZ).1 sZ
          have R2 : Hid (∀ w', (∃ p : Regrown, w' = Sort.grow (redrawn Z p.d) p.os) → w'.heap[G2]? = some (.cells r.1.cells 24 (0, 0))) := fun w' ⟨p, hp⟩ => by rw [hp]; exact Below.at (below_regrown Z p.d p.os) (Array.getElem?_eq_some_iff.1 rZ).1 rZ
          have kA := hide fun d os => Calls.regrown_of (w := Z) (d := d) (os := os) (unhide A _)
          have kR := hide fun d os => Calls.regrown_of (w := Z) (d := d) (os := os) (unhide CR _)
          have kRR := hide fun d os => Calls.regrown_of (w := Z) (d := d) (os := os) (unhide CRR _)
          have kSr := hide fun d os => Calls.regrown_of (w := Z) (d := d) (os := os) (unhide CSr _)
          have kL := hide fun d os => Calls.regrown_of (w := Z) (d := d) (os := os) (unhide CL _ (tZ.below (below_regrown Z d os) (Nat.le_refl _)))
          have kLr := hide fun d os => Calls.regrown_of (w := Z) (d := d) (os := os) (unhide CLr _)
          have kS := hide fun d os => Calls.regrown_of (w := Z) (d := d) (os := os) (unhide CS _)
          have kSS := hide fun d os => Calls.regrown_of (w := Z) (d := d) (os := os) (unhide CSS _)
          clear qZ yZ sZ rZ tZ
          go_wp2_with fail
          refine wp_region_below mixed (by kernel_rfl) ?_
          quiet_step (exact unhide kA _ _)
          go_big_quiet_step (fail)
          refine wpQuiet_load_row rfl 24 (.tmp 3) rfl w.heap.size rfl 24 X (0, 0) _ (unhide RX) Tryd.underlying24 rfl hi ?_
          quiet_step (exact unhide kR _ _)
          refine wpQuiet_load_row rfl 24 (.tmp 3) rfl w.heap.size rfl 24 X (0, 0) _ (unhide RX) Tryd.underlying24 rfl hi ?_
          quiet_step (exact unhide kRR _ _)
          go_big_quiet_step (fail)
          go_big_quiet_step (fail)
          go_big_quiet_step (fail)
          go_big_quiet_step (fail)
          go_big_quiet_step (fail)
          go_big_quiet_step (fail)
          go_big_quiet_step (fail)
          go_big_quiet_step (fail)
          go_big_quiet_step (fail)
          go_big_quiet_step (fail)
          go_big_quiet_step (fail)
          go_big_quiet_step (fail)
          go_big_quiet_step (fail)
          refine wpQuiet_load_row rfl 24 (.tmp 11) rfl G1 rfl 24 r.1.cells (0, 0) _ (unhide R1) Tryd.underlying24 rfl hri ?_
          refine wpQuiet_load_row rfl 24 (.tmp 13) rfl G2 rfl 24 r.1.cells (0, 0) _ (unhide R2) Tryd.underlying24 rfl hri ?_
          quiet_step (exact unhide kSr _ _)
          go_big_quiet_step (fail)
          go_big_quiet_step (fail)
          go_big_quiet_step (fail)
          go_big_quiet_step (fail)
          go_big_quiet_step (fail)
          go_big_quiet_step (fail)
          go_big_quiet_step (fail)
          refine wpQuiet_load_row rfl 24 (.tmp 3) rfl w.heap.size rfl 24 X (0, 0) _ (unhide RX) Tryd.underlying24 rfl hi ?_
          quiet_step (exact unhide kL _ _)
          refine wpQuiet_load_row rfl 24 (.tmp 3) rfl w.heap.size rfl 24 X (0, 0) _ (unhide RX) Tryd.underlying24 rfl hi ?_
          quiet_step (exact unhide kLr _ _)
          refine wpQuiet_eql rfl 37 37 (.tmp 80) (.tmp 82) rfl _ _ rfl rfl (by kernel_rfl) true (unhide hDD) ?_
          quiet_step (fail)
          go_big_quiet_step (fail)
          refine wpQuiet_load_row rfl 24 (.tmp 3) rfl w.heap.size rfl 24 X (0, 0) _ (unhide RX) Tryd.underlying24 rfl hi ?_
          refine wpQuiet_load_row rfl 24 (.tmp 4) rfl (w.heap.size + 1) rfl 24 Y (0, 0) _ (unhide RY) Tryd.underlying24 rfl hj ?_
          quiet_step (exact unhide kS _ _)
          refine wpQuiet_load_row rfl 24 (.tmp 3) rfl w.heap.size rfl 24 X (0, 0) _ (unhide RX) Tryd.underlying24 rfl hi ?_
          refine wpQuiet_load_row rfl 24 (.tmp 4) rfl (w.heap.size + 1) rfl 24 Y (0, 0) _ (unhide RY) Tryd.underlying24 rfl hj ?_
          quiet_step (exact unhide kSS _ _)
          go_big_quiet_step (fail)
          go_big_quiet_step (fail)
          go_big_quiet_step (fail)
          refine wpQuiet_nil ?_
          intro V hbV
          go_wp2
          go_ret
          exact ⟨rfl, hbZ.trans (hbV.mono hbZ.size)⟩
      · have hs7 : decide (5000 < (s.length : Int)) = true := by simp; omega
        generalize x.cells = X at *
        generalize y.cells = Y at *
        clear hp hp' hs5
        go_enter Tryd.func3, Tryd.ntmps3
        go_wp2_with fail
        refine (unhide A _).mono ?_
        rintro e w1 ⟨rfl, b1⟩
        have q1 := Below.at b1 z0 q0
        have y1 := Below.at b1 zy0 y0
        have hb1 := hb0.trans (b1.mono hb0.size)
        clear q0 y0 b1
        go_wp2_with (refine wpList_load_row rfl 24 (.tmp 3) rfl w.heap.size rfl 24 X (0, 0) _ q1 Tryd.underlying24 rfl hi ?_)
        refine (unhide LX _).mono ?_
        rintro e w2 ⟨rfl, b2⟩
        have q2 := Below.at b2 (Array.getElem?_eq_some_iff.1 q1).1 q1
        have y2 := Below.at b2 (Array.getElem?_eq_some_iff.1 y1).1 y1
        have hb2 := hb1.trans (b2.mono hb1.size)
        clear q1 y1 b2 hb1
        go_wp2_with (refine wpList_load_row_gd rfl 24 (.tmp 4) rfl (w.heap.size + 1) rfl 24 Y (0, 0) _ y2 Tryd.underlying24 rfl hj ?_)
        refine (unhide LY _).mono ?_
        rintro e w3 ⟨rfl, b3⟩
        have q3 := Below.at b3 (Array.getElem?_eq_some_iff.1 q2).1 q2
        have y3 := Below.at b3 (Array.getElem?_eq_some_iff.1 y2).1 y2
        have hb3 := hb2.trans (b3.mono hb2.size)
        clear q2 y2 b3 hb2
        go_wp2_with fail
        refine (unhide A _).mono ?_
        rintro e w9 ⟨rfl, b9⟩
        go_wp2_with fail
        go_ret
        exact ⟨rfl, hb3.trans (b9.mono hb3.size)⟩
end Go.Proofs.YtefdlpddhkocbaaDoor

namespace Go.Proofs.YtefdlpddhkocbaaDoor
open Go.ChangeShapes Go.WideShapes Go.ChangeAt Go.RowKit

theorem shaOwn : ownKnob Tryd.prog.godebug = none := by kernel_rfl
theorem shaLaidOut : laidOutB Tryd.prog = true := by kernel_rfl
theorem gFirst : Tryd.prog.globalNamed "pontoon/sha.firstWords" = some 0 := by kernel_rfl
theorem gFirstType : (Tryd.prog.globals[0]?).map (·.type) = some 96 := by kernel_rfl
theorem gRound : Tryd.prog.globalNamed "pontoon/sha.roundWords" = some 1 := by kernel_rfl
theorem gRoundType : (Tryd.prog.globals[1]?).map (·.type) = some 120 := by kernel_rfl
theorem cells64 : Tryd.prog.cellsOf 120 = 64 := by kernel_rfl
theorem cells8 : Tryd.prog.cellsOf 96 = 8 := by kernel_rfl
theorem cellsW : Tryd.prog.cellsOf 22 = 1 := by kernel_rfl

/-- What a row lists of package sha. -/
def shaListed : List (String × DataW Unit) := [("pontoon/sha.firstWords", Rows.laid_pontoon_sha_firstWords), ("pontoon/sha.roundWords", Rows.laid_pontoon_sha_roundWords)]
def kInts : List Int := [1116352408, 1899447441, 3049323471, 3921009573, 961987163, 1508970993, 2453635748, 2870763221, 3624381080, 310598401, 607225278, 1426881987, 1925078388, 2162078206, 2614888103, 3248222580, 3835390401, 4022224774, 264347078, 604807628, 770255983, 1249150122, 1555081692, 1996064986, 2554220882, 2821834349, 2952996808, 3210313671, 3336571891, 3584528711, 113926993, 338241895, 666307205, 773529912, 1294757372, 1396182291, 1695183700, 1986661051, 2177026350, 2456956037, 2730485921, 2820302411, 3259730800, 3345764771, 3516065817, 3600352804, 4094571909, 275423344, 430227734, 506948616, 659060556, 883997877, 958139571, 1322822218, 1537002063, 1747873779, 1955562222, 2024104815, 2227730452, 2361852424, 2428436474, 2756734187, 3204031479, 3329325298]
def hInts : List Int := [1779033703, 3144134277, 1013904242, 2773480762, 1359893119, 2600822924, 528734635, 1541459225]
theorem kInts_at : ∀ j, j < 64 → kInts.getD j 0 = ((kWords.getD j 0).toNat : Int) := by decide +kernel
theorem hInts_at : ∀ j, j < 8 → hInts.getD j 0 = ((hWords.getD j 0).toNat : Int) := by decide +kernel

theorem tabs_of {W : World} (h : laidMetH Tryd.prog shaListed W) : Tabs W := by
  have h1 : Lib.TabIs Tryd.prog W "pontoon/sha.firstWords" .u32 hInts :=
    Lib.tabIs_of_head (rest := [("pontoon/sha.roundWords", Rows.laid_pontoon_sha_roundWords)]) gFirst gFirstType Tryd.underlying96 Tryd.underlying22 cellsW cells8 h
  have e : shaListed.filter (fun x => x.1 == "pontoon/sha.roundWords") = [("pontoon/sha.roundWords", Rows.laid_pontoon_sha_roundWords)] := by kernel_rfl
  have hf := h.filter (fun x => x.1 == "pontoon/sha.roundWords")
  rw [e] at hf
  have h2 : Lib.TabIs Tryd.prog W "pontoon/sha.roundWords" .u32 kInts :=
    Lib.tabIs_of_head (rest := []) gRound gRoundType Tryd.underlying120 Tryd.underlying22 cellsW cells64 hf
  have k : ∀ j, j < 64 → W.cell? ⟨1, j, none⟩ = some (.int .u32 ((kWords.getD j 0).toNat : Int)) := fun j hj => by
    rw [← kInts_at j hj]; exact h2.cell gRound j (by simpa [kInts] using hj)
  have hh : ∀ j, j < 8 → W.cell? ⟨0, j, none⟩ = some (.int .u32 ((hWords.getD j 0).toNat : Int)) := fun j hj => by
    rw [← hInts_at j hj]; exact h1.cell gFirst j (by simpa [hInts] using hj)
  exact ⟨⟨block_lt_of_cell (hh 0 (by decide)), block_lt_of_cell (k 0 (by decide))⟩, k, hh⟩

/-- A variable's cells turned. -/
def layCells (cs : Array Value) : Obj → Obj
  | .cells _ t frozen => .cells cs t frozen
  | o => o
def hCells : Array Value := #[.int .u32 1779033703, .int .u32 3144134277, .int .u32 1013904242, .int .u32 2773480762, .int .u32 1359893119, .int .u32 2600822924, .int .u32 528734635, .int .u32 1541459225]
def kCells : Array Value := #[.int .u32 1116352408, .int .u32 1899447441, .int .u32 3049323471, .int .u32 3921009573, .int .u32 961987163, .int .u32 1508970993, .int .u32 2453635748, .int .u32 2870763221, .int .u32 3624381080, .int .u32 310598401, .int .u32 607225278, .int .u32 1426881987, .int .u32 1925078388, .int .u32 2162078206, .int .u32 2614888103, .int .u32 3248222580, .int .u32 3835390401, .int .u32 4022224774, .int .u32 264347078, .int .u32 604807628, .int .u32 770255983, .int .u32 1249150122, .int .u32 1555081692, .int .u32 1996064986, .int .u32 2554220882, .int .u32 2821834349, .int .u32 2952996808, .int .u32 3210313671, .int .u32 3336571891, .int .u32 3584528711, .int .u32 113926993, .int .u32 338241895, .int .u32 666307205, .int .u32 773529912, .int .u32 1294757372, .int .u32 1396182291, .int .u32 1695183700, .int .u32 1986661051, .int .u32 2177026350, .int .u32 2456956037, .int .u32 2730485921, .int .u32 2820302411, .int .u32 3259730800, .int .u32 3345764771, .int .u32 3516065817, .int .u32 3600352804, .int .u32 4094571909, .int .u32 275423344, .int .u32 430227734, .int .u32 506948616, .int .u32 659060556, .int .u32 883997877, .int .u32 958139571, .int .u32 1322822218, .int .u32 1537002063, .int .u32 1747873779, .int .u32 1955562222, .int .u32 2024104815, .int .u32 2227730452, .int .u32 2361852424, .int .u32 2428436474, .int .u32 2756734187, .int .u32 3204031479, .int .u32 3329325298]
/-- A world for the witness: the settled one, the two tables holding what their initialisers lay. -/
noncomputable def shaWorld (os : Os) : World :=
  { World.holding Tryd.prog os ⟨#[], #[], []⟩ with heap := ((World.holding Tryd.prog os ⟨#[], #[], []⟩).heap.modify 0 (layCells hCells)).modify 1 (layCells kCells) }
theorem addr_add (b o j : Nat) : (⟨b, o, none⟩ : Addr).add j = ⟨b, o + j, none⟩ := by unfold Addr.add; split <;> simp_all

end Go.Proofs.YtefdlpddhkocbaaDoor

namespace Go.Proofs.YtefdlpddhkocbaaDoor
open Go.ChangeShapes Go.WideShapes Go.ChangeAt Go.RowKit
set_option linter.unusedVariables false

theorem array6 {α : Type} {cs : Array α} (h : cs.size = 6) : ∃ c0 c1 c2 c3 c4 c5, cs = #[c0, c1, c2, c3, c4, c5] := by
  obtain ⟨l⟩ := cs
  match l, h with
  | [c0, c1, c2, c3, c4, c5], _ => exact ⟨c0, c1, c2, c3, c4, c5, rfl⟩
theorem trod_struct6 {P : Program} {H : Type} {enc : TypeId × Value → H} {w : World} {base : Nat} {spare : Nat → Bool} {held : Bool} {t : TypeId} {f0 f1 f2 f3 f4 f5 : Field} {fuel : Nat} {cs : List Value} {x : DataW H × List MemPlace} (ht : P.underlying t = some (.struct #[f0, f1, f2, f3, f4, f5])) (h : DataW.trod enc P w base spare held fuel t cs = some x) :
    ∃ y0 y1 y2 y3 y4 y5 n, DataW.trod enc P w base spare held n f0.type ((cs.drop f0.offset).take (P.cellsOf f0.type)) = some y0 ∧
      DataW.trod enc P w base spare held n f1.type ((cs.drop f1.offset).take (P.cellsOf f1.type)) = some y1 ∧ DataW.trod enc P w base spare held n f2.type ((cs.drop f2.offset).take (P.cellsOf f2.type)) = some y2 ∧
      DataW.trod enc P w base spare held n f3.type ((cs.drop f3.offset).take (P.cellsOf f3.type)) = some y3 ∧ DataW.trod enc P w base spare held n f4.type ((cs.drop f4.offset).take (P.cellsOf f4.type)) = some y4 ∧
      DataW.trod enc P w base spare held n f5.type ((cs.drop f5.offset).take (P.cellsOf f5.type)) = some y5 := by
  obtain ⟨xs, n, _, rfl, hl, hlen, hf⟩ := DataW.trod_struct ht h
  match xs, hlen with
  | [y0, y1, y2, y3, y4, y5], _ => exact ⟨y0, y1, y2, y3, y4, y5, n, by simpa using hf 0 f0 rfl, by simpa using hf 1 f1 rfl, by simpa using hf 2 f2 rfl, by simpa using hf 3 f3 rfl, by simpa using hf 4 f4 rfl, by simpa using hf 5 f5 rfl⟩
theorem open_letter {H : Type} {enc : TypeId × Value → H} {W : World} {base : Nat} {sp : Nat → Bool} {held : Bool} {cs : Array Value} (hn : cs.size = 6) {d : DataW H} {ps : List MemPlace} (hd : DataW.Trod enc Tryd.prog W base sp held 24 (.agg cs) d ps) :
    ∃ x : Lt, x.ok ∧ cs = x.cells ∧ x.se.length ≤ maxLen ∧ x.re.length ≤ maxLen ∧ x.bo.length ≤ maxLen := by
  obtain ⟨fuel, hf⟩ := hd
  have h3 : Tryd.prog.cellsOf 22 = 1 := by kernel_rfl
  have h4 : Tryd.prog.cellsOf 9 = 1 := by kernel_rfl
  obtain ⟨c0, c1, c2, c3, c4, c5, rfl⟩ := array6 hn
  obtain ⟨y0, y1, y2, y3, y4, y5, n, h0, h1, h2, g3, g4, g5⟩ := trod_struct6 Tryd.underlying24 hf
  simp only [h3, h4, Value.cells, List.drop_zero, List.take_succ_cons, List.take_zero, List.drop_succ_cons] at h0 h1 h2 g3 g4 g5
  obtain ⟨a, ha, _, hwa⟩ := DataW.trod_int Tryd.underlying22 h0
  obtain ⟨b, hb, _, hwb⟩ := DataW.trod_int Tryd.underlying22 h1
  obtain ⟨c, hc, _, hwc⟩ := DataW.trod_int Tryd.underlying22 h2
  obtain ⟨s, hs, _, hws⟩ := DataW.trod_string Tryd.underlying9 g3
  obtain ⟨r, hr, _, hwr⟩ := DataW.trod_string Tryd.underlying9 g4
  obtain ⟨o, ho, _, hwo⟩ := DataW.trod_string Tryd.underlying9 g5
  simp only [List.cons.injEq, and_true] at ha hb hc hs hr ho
  subst ha hb hc hs hr ho
  simp [Lit.wf, IntKind.min, IntKind.max, IntKind.signed, IntKind.bits] at hwa hwb hwc
  obtain ⟨a, rfl⟩ := Int.eq_ofNat_of_zero_le hwa.1
  obtain ⟨b, rfl⟩ := Int.eq_ofNat_of_zero_le hwb.1
  obtain ⟨c, rfl⟩ := Int.eq_ofNat_of_zero_le hwc.1
  refine ⟨⟨a, b, c, s.data.toList, r.data.toList, o.data.toList⟩, ⟨by show a < _; omega, by show b < _; omega, by show c < _; omega⟩, ?_, ?_, ?_, ?_⟩
  · simp only [Lt.cells, str_list]
  · rw [← str_list s, str_size] at hws; exact hws
  · rw [← str_list r, str_size] at hwr; exact hwr
  · rw [← str_list o, str_size] at hwo; exact hwo
end Go.Proofs.YtefdlpddhkocbaaDoor
