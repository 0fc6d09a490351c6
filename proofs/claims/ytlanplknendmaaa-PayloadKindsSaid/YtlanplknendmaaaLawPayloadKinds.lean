/-
  PayloadKinds: whether any value is a transfer, what Must does, and whether two values are the same.
-/
import Derived.Test.YtlanplknendmaaaPayH
import Derived.Test.YtlanplknendmaaaLawPayloadBack
namespace Go.Proofs.Ytlanplknendmaaa
open Go.RowKit
set_option linter.unusedSimpArgs false
set_option linter.unusedVariables false

set_option maxHeartbeats 8000000 in
set_option maxRecDepth 100000 in
theorem payloadKinds_walk (x : Ax) (ok : x.ok) (y : Ax) (oky : y.ok) (w : World) :
    Calls Try.prog 4 #[.agg x.cells, .agg y.cells] w fun e w' => e = .returned (.bool true) ∧ Below w.heap.size w w' := by
  have A := hide pawake_calls
  have Li := fun W => plight_calls x W
  have Lj := fun W => plight_calls y W
  have hi := ax_info x
  have hj := ax_info y
  have hb0 := bel2 w (.cells x.cells 25) (.cells y.cells 25)
  have q0 := al2 w (.cells x.cells 25) (.cells y.cells 25)
  obtain ⟨q0, r0⟩ := q0
  have TX := hide fun W => to_calls x ok W
  have TY := hide fun W => to_calls y oky W
  generalize hp : x.pl = p at *
  generalize hq : y.pl = q at *
  have OP := hide fun W => pof_calls p W
  have OQ := hide fun W => pof_calls q W
  have TR := hide fun W => transfer_calls p W
  have SA := hide fun W => pSame_calls p q W
  have hfl := hide (pPSame_fl p q)
  have hle := hide fun W => fl_eql p.fl q.fl W
  have fi := fl_info p.fl
  have fj := fl_info q.fl
  have fo := fl_one p.fl
  have fp := fl_one q.fl
  have fz : Hid (Fl.zero.cells.size = p.fl.cells.size) := rfl
  have fy : Hid (Fl.zero.cells.size = q.fl.cells.size) := rfl
  have ti := tr_info p
  have tone := tr_one p
  have ts := hide (tr_size p)
  have fc : Hid (p.fl.cells = #[.int .i64 (p.fl.k : Int), .int .u32 (p.fl.o : Int), .string (str p.fl.a), .string (str p.fl.b), .int .u64 (p.fl.n : Int)]) := rfl
  generalize x.cells = X at *
  generalize y.cells = Y at *
  clear ok oky hp hq
  cases hL : (if x.a.length ≤ 2000 then decide (x.b.length ≤ 2000) else false) with
  | false =>
    rw [hL] at Li
    have LI := hide Li
    clear Li Lj hL
    go_enter Try.func4, Try.ntmps4
    go_wp2_with fail
    refine (unhide A _).mono ?_
    rintro e w1 ⟨rfl, b1⟩
    have q1 := Below.at b1 (Array.getElem?_eq_some_iff.1 q0).1 q0
    have hb1 := hb0.trans (b1.mono hb0.size)
    go_wp2_with (refine wpList_load_row rfl 25 (.tmp 2) rfl w.heap.size rfl 25 X (0, 0) _ q1 Try.underlying25 rfl hi ?_)
    refine (unhide LI _).mono ?_
    rintro e w2 ⟨rfl, b2⟩
    go_wp2_with fail
    refine (unhide A _).mono ?_
    rintro e w3 ⟨rfl, b3⟩
    go_wp2_with fail
    go_ret
    have hb2 := hb1.trans (b2.mono hb1.size)
    exact ⟨rfl, hb2.trans (b3.mono hb2.size)⟩
  | true =>
    rw [hL] at Li
    have LI := hide Li
    clear Li hL
    cases hM : (if y.a.length ≤ 2000 then decide (y.b.length ≤ 2000) else false) with
    | false =>
      rw [hM] at Lj
      have LJ := hide Lj
      clear Lj hM
      go_enter Try.func4, Try.ntmps4
      go_wp2_with fail
      refine (unhide A _).mono ?_
      rintro e w1 ⟨rfl, b1⟩
      have q1 := Below.at b1 (Array.getElem?_eq_some_iff.1 q0).1 q0
      have r1 := Below.at b1 (Array.getElem?_eq_some_iff.1 r0).1 r0
      have hb1 := hb0.trans (b1.mono hb0.size)
      go_wp2_with (refine wpList_load_row rfl 25 (.tmp 2) rfl w.heap.size rfl 25 X (0, 0) _ q1 Try.underlying25 rfl hi ?_)
      refine (unhide LI _).mono ?_
      rintro e w2 ⟨rfl, b2⟩
      have r2 := Below.at b2 (Array.getElem?_eq_some_iff.1 r1).1 r1
      have hb2 := hb1.trans (b2.mono hb1.size)
      go_wp2_with (refine wpList_load_row_gd rfl 25 (.tmp 3) rfl (w.heap.size + 1) rfl 25 Y (0, 0) _ r2 Try.underlying25 rfl hj ?_)
      refine (unhide LJ _).mono ?_
      rintro e w3 ⟨rfl, b3⟩
      have hb3 := hb2.trans (b3.mono hb2.size)
      go_wp2_with fail
      refine (unhide A _).mono ?_
      rintro e w4 ⟨rfl, b4⟩
      go_wp2_with fail
      go_ret
      exact ⟨rfl, hb3.trans (b4.mono hb3.size)⟩
    | true =>
      rw [hM] at Lj
      have LJ := hide Lj
      clear Lj hM
      cases hT : p.isTr with
      | false =>
        rw [hT] at TR
        have PN := hide fun W => panics_bad p hT W
        have hC : p.trC = trCells 0 [] [] 0 := by cases p <;> first | rfl | cases hT
        have hne' : ∀ W : World, (binOp .neq 44 (.agg p.trC) (.agg #[.int .u32 0, .string ⟨#[]⟩, .string ⟨#[]⟩, .int .u64 0])).run Try.prog W = .ok (.bool false) W := fun W => by
          rw [hC]; exact tr_self 0 [] [] 0 W
        have hkn : p.fl.k ≠ 1 := by cases p <;> first | (simp [Pl.fl, Fl.zero]; done) | cases hT
        obtain ⟨K, hK⟩ : ∃ K : Int, (p.fl.k : Int) = K := ⟨_, rfl⟩
        have hk1 : (K == 1) = false := by rw [← hK]; simp; omega
        have HK := hide hK
        clear hK
        generalize hV : p.val = V at *
        generalize hFl : p.fl = fl at *
        generalize p.trC = C at *
        generalize hU : q.val = U at *
        generalize hGl : q.fl = gl at *
        generalize hSR : pPSame _ q = SR at *
        clear hV hU hT hFl hGl hSR hC
        clear hkn
        go_enter Try.func4, Try.ntmps4
        go_wp2_with fail
        refine (unhide A _).mono ?_
        rintro e w1 ⟨rfl, b1⟩
        have q1 := Below.at b1 (Array.getElem?_eq_some_iff.1 q0).1 q0
        have r1 := Below.at b1 (Array.getElem?_eq_some_iff.1 r0).1 r0
        have hb1 := hb0.trans (b1.mono hb0.size)
        clear q0 r0 hb0 b1
        go_wp2_with (refine wpList_load_row rfl 25 (.tmp 2) rfl w.heap.size rfl 25 X (0, 0) _ q1 Try.underlying25 rfl hi ?_)
        refine (unhide LI _).mono ?_
        rintro e w2 ⟨rfl, b2⟩
        have q2 := Below.at b2 (Array.getElem?_eq_some_iff.1 q1).1 q1
        have r2 := Below.at b2 (Array.getElem?_eq_some_iff.1 r1).1 r1
        have hb2 := hb1.trans (b2.mono hb1.size)
        clear q1 r1 hb1 b2
        go_wp2_with (refine wpList_load_row_gd rfl 25 (.tmp 3) rfl (w.heap.size + 1) rfl 25 Y (0, 0) _ r2 Try.underlying25 rfl hj ?_)
        refine (unhide LJ _).mono ?_
        rintro e w3 ⟨rfl, b3⟩
        have q3 := Below.at b3 (Array.getElem?_eq_some_iff.1 q2).1 q2
        have r3 := Below.at b3 (Array.getElem?_eq_some_iff.1 r2).1 r2
        have hb3 := hb2.trans (b3.mono hb2.size)
        clear q2 r2 hb2 b3
        have RX : Hid (∀ w', (∃ p : Regrown, w' = Sort.grow (redrawn w3 p.d) p.os) → w'.heap[w.heap.size]? = some (.cells X 25 (0, 0))) := fun w' ⟨p, hp⟩ => by rw [hp]; exact Below.at (below_regrown w3 p.d p.os) (Array.getElem?_eq_some_iff.1 q3).1 q3
        have RY : Hid (∀ w', (∃ p : Regrown, w' = Sort.grow (redrawn w3 p.d) p.os) → w'.heap[w.heap.size + 1]? = some (.cells Y 25 (0, 0))) := fun w' ⟨p, hp⟩ => by rw [hp]; exact Below.at (below_regrown w3 p.d p.os) (Array.getElem?_eq_some_iff.1 r3).1 r3
        have kX := hide fun d os => Calls.regrown_of (w := w3) (d := d) (os := os) (unhide TX _)
        have kY := hide fun d os => Calls.regrown_of (w := w3) (d := d) (os := os) (unhide TY _)
        clear q3 r3
        go_wp2_with fail
        refine wp_region_below mixed (by kernel_rfl) ?_
        refine wpQuiet_load_row rfl 25 (.tmp 2) rfl w.heap.size rfl 25 X (0, 0) _ (unhide RX) Try.underlying25 rfl hi ?_
        quiet_step (exact unhide kX _ _)
        refine wpQuiet_load_row rfl 25 (.tmp 3) rfl (w.heap.size + 1) rfl 25 Y (0, 0) _ (unhide RY) Try.underlying25 rfl hj ?_
        quiet_step (exact unhide kY _ _)
        quiet_step (fail)
        quiet_step (fail)
        refine wpQuiet_nil ?_
        intro w4 b4
        have hb4 := hb3.trans (b4.mono hb3.size)
        clear hb3 b4 RX RY kX kY
        go_wp2_with fail
        refine (unhide OP _).mono ?_
        rintro e w5 ⟨rfl, b5⟩
        have hb5 := hb4.trans (b5.mono hb4.size)
        clear hb4 b5
        go_wp2_with fail
        refine (unhide OQ _).mono ?_
        rintro e w6 ⟨rfl, b6⟩
        have hb6 := hb5.trans (b6.mono hb5.size)
        clear hb5 b6
        have s1 := al2 w6 (.cells Fl.zero.cells 29) (.cells Fl.zero.cells 29)
        have s2 := setRow_heap _ _ _ fl.cells _ _ s1.1
        have s3 := (setRow_other ((w6.alloc (.cells Fl.zero.cells 29)).alloc (.cells Fl.zero.cells 29)) w6.heap.size (w6.heap.size + 1) fl.cells (by omega)).trans s1.2
        have s4 := setRow_heap _ _ _ gl.cells _ _ s3
        have s5 := (setRow_other (((w6.alloc (.cells Fl.zero.cells 29)).alloc (.cells Fl.zero.cells 29)).setRow w6.heap.size fl.cells) (w6.heap.size + 1) w6.heap.size gl.cells (by omega)).trans s2
        have hb7 := below_setRow (below_setRow (hb6.trans ((bel2 w6 (.cells Fl.zero.cells 29) (.cells Fl.zero.cells 29)).mono hb6.size)) hb6.size fl.cells) (show w.heap.size ≤ w6.heap.size + 1 from Nat.le_succ_of_le hb6.size) gl.cells
        go_wp2_with (first
          | (refine wpList_store_row rfl 29 (.tmp 7) (.tmp 27) rfl w6.heap.size fl.cells rfl rfl 29 _ s1.1 fi (unhide fz) fo ?_)
          | (refine wpList_store_row rfl 29 (.tmp 8) (.tmp 29) rfl (w6.heap.size + 1) gl.cells rfl rfl 29 _ s3 fj (unhide fy) fp ?_))
        refine (unhide TR _).mono ?_
        rintro e w8 ⟨rfl, b8⟩
        clear s1 s2 s3 hb6
        have s6 := Below.at b8 (Array.getElem?_eq_some_iff.1 s5).1 s5
        have s7 := Below.at b8 (Array.getElem?_eq_some_iff.1 s4).1 s4
        have hb8 := hb7.trans (b8.mono hb7.size)
        clear s4 s5 hb7 b8
        obtain ⟨B1, hB1⟩ : ∃ B, w6.heap.size = B := ⟨_, rfl⟩
        rw [hB1] at s6 s7
        simp only [hB1]
        clear hB1
        have HF : Hid (∀ Z, Below w8.heap.size w8 Z → Z.heap[B1]? = some (.cells fl.cells 29 (0, 0)) ∧ Z.heap[B1 + 1]? = some (.cells gl.cells 29 (0, 0)) ∧ Below w.heap.size w Z ∧ Z.cell? ⟨B1, 0, none⟩ = some (.int .i64 (K : Int)) ∧ Z.cell? ⟨B1, 1, none⟩ = some (.int .u32 (fl.o : Int)) ∧ Z.cell? ⟨B1, 2, none⟩ = some (.string (str fl.a)) ∧ Z.cell? ⟨B1, 3, none⟩ = some (.string (str fl.b)) ∧ Z.cell? ⟨B1, 4, none⟩ = some (.int .u64 (fl.n : Int))) := fun Z bZ => by
          have tA := Below.at bZ (Array.getElem?_eq_some_iff.1 s6).1 s6
          have tB := Below.at bZ (Array.getElem?_eq_some_iff.1 s7).1 s7
          have tC := tA
          rw [unhide fc] at tC
          rw [unhide HK] at tC
          exact ⟨tA, tB, hb8.trans (bZ.mono hb8.size), (sig_cell tC).1 0 _ rfl, (sig_cell tC).1 1 _ rfl, (sig_cell tC).1 2 _ rfl, (sig_cell tC).1 3 _ rfl, (sig_cell tC).1 4 _ rfl⟩
        clear s6 s7 hb8 LI LJ TX TY OP OQ TR hi hj fo fp fz fy
        go_wp2_with (first
          | go_skip
          | (refine wpList_store_newV rfl 44 (.tmp 9) (.tmp 33) rfl w8 (trCells 0 [] [] 0) _ C rfl rfl ti (unhide ts) tone ?_; intro Z rZ bZ zZ; obtain ⟨tA, tB, hbZ, c0, c1, c2, c3, c4⟩ := unhide HF Z bZ; clear HF bZ zZ)
          | (refine wpList_load_row_gd rfl 44 (.tmp 9) rfl w8.heap.size rfl 44 C (0, 0) _ rZ Try.underlying44 rfl ti ?_)
          | (refine wpList_neq_gd rfl 44 44 (.tmp 60) (.tmp 61) rfl _ _ rfl rfl (by kernel_rfl) false hne' ?_))
        obtain ⟨B2, hB2⟩ : ∃ B, w8.heap.size = B := ⟨_, rfl⟩
        rw [hB2] at rZ
        simp only [hB2]
        clear hB2
        have RC : Hid (∀ w', (∃ p : Regrown, w' = Sort.grow (redrawn Z p.d) p.os) → w'.heap[B2]? = some (.cells C 44 (0, 0))) := fun w' ⟨p, hp⟩ => by rw [hp]; exact Below.at (below_regrown Z p.d p.os) (Array.getElem?_eq_some_iff.1 rZ).1 rZ
        have kP := hide fun d os => Calls.regrown_of (w := Z) (d := d) (os := os) (unhide PN _)
        clear c0 c1 c2 c3 c4 rZ
        refine wp_region_below mixed (by kernel_rfl) ?_
        quiet_step (fail)
        quiet_step (exact unhide kP _ _)
        repeat (quiet_step (fail))
        refine wpQuiet_nil ?_
        intro w9 b9
        have s8 := Below.at b9 (Array.getElem?_eq_some_iff.1 tA).1 tA
        have s9 := Below.at b9 (Array.getElem?_eq_some_iff.1 tB).1 tB
        have hb9 := hbZ.trans (b9.mono hbZ.size)
        clear tA tB hbZ b9 RC kP
        have kA := hide fun d os => Calls.regrown_of (w := w9) (d := d) (os := os) (unhide A _)
        have kS := hide fun d os => Calls.regrown_of (w := w9) (d := d) (os := os) (unhide SA _)
        have RF : Hid (∀ w', (∃ p : Regrown, w' = Sort.grow (redrawn w9 p.d) p.os) → w'.heap[B1]? = some (.cells fl.cells 29 (0, 0))) := fun w' ⟨p, hp⟩ => by rw [hp]; exact Below.at (below_regrown w9 p.d p.os) (Array.getElem?_eq_some_iff.1 s8).1 s8
        have RG : Hid (∀ w', (∃ p : Regrown, w' = Sort.grow (redrawn w9 p.d) p.os) → w'.heap[B1 + 1]? = some (.cells gl.cells 29 (0, 0))) := fun w' ⟨p, hp⟩ => by rw [hp]; exact Below.at (below_regrown w9 p.d p.os) (Array.getElem?_eq_some_iff.1 s9).1 s9
        obtain ⟨K9, hK9⟩ : ∃ K : Int, (fl.k : Int) = K := ⟨_, rfl⟩
        have c0 : ∀ d os, (Sort.grow (redrawn w9 d) os).cell? ⟨B1, 0, none⟩ = some (.int .i64 K9) := fun d os => by
          have := Below.at (below_regrown w9 d os) (Array.getElem?_eq_some_iff.1 s8).1 s8
          rw [unhide fc, hK9] at this
          exact (sig_cell this).1 0 _ rfl
        have hfl := unhide hfl
        clear s8 s9
        by_cases hk0 : 0 < fl.k
        · rw [if_pos hk0] at hfl
          subst hfl
          have hd : decide (0 < K9) = true := by rw [← hK9]; simp; omega
          clear hk0 hK9
          generalize pFlEq fl gl = FE at *
          go_wp2_with fail
          refine wp_region_below mixed (by kernel_rfl) ?_
          quiet_step (exact unhide kA _ _)
          quiet_step (fail)
          quiet_step (fail)
          quiet_step (fail)
          quiet_step (exact unhide kS _ _)
          quiet_step (fail)
          quiet_step (fail)
          quiet_step (fail)
          quiet_step (fail)
          refine wpQuiet_load_row rfl 29 (.tmp 7) rfl B1 rfl 29 fl.cells (0, 0) _ (unhide RF) Try.underlying29 rfl fi ?_
          refine wpQuiet_load_row rfl 29 (.tmp 8) rfl (B1 + 1) rfl 29 gl.cells (0, 0) _ (unhide RG) Try.underlying29 rfl fj ?_
          refine wpQuiet_eql rfl 29 29 (.tmp 87) (.tmp 88) rfl _ _ rfl rfl (by kernel_rfl) FE (unhide hle) ?_
          quiet_step (fail)
          quiet_step (fail)
          quiet_step (fail)
          quiet_step (fail)
          refine wpQuiet_nil ?_
          intro w10 b10
          go_wp2
          go_ret
          exact ⟨by simp, hb9.trans (b10.mono hb9.size)⟩
        · rw [if_neg hk0] at hfl
          subst hfl
          have hd : decide (0 < K9) = false := by rw [← hK9]; simp; omega
          clear hk0 hK9
          go_wp2_with fail
          refine wp_region_below mixed (by kernel_rfl) ?_
          quiet_step (exact unhide kA _ _)
          quiet_step (fail)
          quiet_step (fail)
          quiet_step (fail)
          quiet_step (exact unhide kS _ _)
          repeat (quiet_step (fail))
          refine wpQuiet_nil ?_
          intro w10 b10
          go_wp2
          go_ret
          exact ⟨by simp, hb9.trans (b10.mono hb9.size)⟩
      | true =>
        rw [hT] at TR
        have PA : ∃ o a b n, p = .tr o a b n := by cases p <;> first | exact ⟨_, _, _, _, rfl⟩ | cases hT
        obtain ⟨o, a, b, n, rfl⟩ := PA
        have MU := hide fun W => must_good o a b n W
        have PN := hide fun W => panics_good o a b n W
        have hne := hide fun W => tr_self o a b n W
        have hne' : ∀ W : World, (binOp .neq 44 (.agg (trCells o a b n)) (.agg #[.int .u32 (o : Int), .string (str a), .string (str b), .int .u64 (n : Int)])).run Try.prog W = .ok (.bool false) W := fun W => tr_self o a b n W
        have fk : Hid ((Pl.tr o a b n).fl.cells = #[.int .i64 1, .int .u32 (o : Int), .string (str a), .string (str b), .int .u64 (n : Int)]) := rfl
        have hkk : Hid ((Pl.tr o a b n).fl.k = 1) := rfl
        have hFo : Hid ((Pl.tr o a b n).fl.o = o) := rfl
        have hFa : Hid ((Pl.tr o a b n).fl.a = a) := rfl
        have hFb : Hid ((Pl.tr o a b n).fl.b = b) := rfl
        have hFn : Hid ((Pl.tr o a b n).fl.n = n) := rfl
        have hC : (Pl.tr o a b n).trC = trCells o a b n := rfl
        rw [hC] at TR ti tone ts
        generalize hV : (Pl.tr o a b n).val = V at *
        generalize hFl : (Pl.tr o a b n).fl = fl at *
        generalize trCells o a b n = C at *
        generalize hU : q.val = U at *
        generalize hGl : q.fl = gl at *
        generalize hSR : pPSame _ q = SR at *
        clear hV hU hT hFl hGl hSR hC
        go_enter Try.func4, Try.ntmps4
        go_wp2_with fail
        refine (unhide A _).mono ?_
        rintro e w1 ⟨rfl, b1⟩
        have q1 := Below.at b1 (Array.getElem?_eq_some_iff.1 q0).1 q0
        have r1 := Below.at b1 (Array.getElem?_eq_some_iff.1 r0).1 r0
        have hb1 := hb0.trans (b1.mono hb0.size)
        clear q0 r0 hb0 b1
        go_wp2_with (refine wpList_load_row rfl 25 (.tmp 2) rfl w.heap.size rfl 25 X (0, 0) _ q1 Try.underlying25 rfl hi ?_)
        refine (unhide LI _).mono ?_
        rintro e w2 ⟨rfl, b2⟩
        have q2 := Below.at b2 (Array.getElem?_eq_some_iff.1 q1).1 q1
        have r2 := Below.at b2 (Array.getElem?_eq_some_iff.1 r1).1 r1
        have hb2 := hb1.trans (b2.mono hb1.size)
        clear q1 r1 hb1 b2
        go_wp2_with (refine wpList_load_row_gd rfl 25 (.tmp 3) rfl (w.heap.size + 1) rfl 25 Y (0, 0) _ r2 Try.underlying25 rfl hj ?_)
        refine (unhide LJ _).mono ?_
        rintro e w3 ⟨rfl, b3⟩
        have q3 := Below.at b3 (Array.getElem?_eq_some_iff.1 q2).1 q2
        have r3 := Below.at b3 (Array.getElem?_eq_some_iff.1 r2).1 r2
        have hb3 := hb2.trans (b3.mono hb2.size)
        clear q2 r2 hb2 b3
        have RX : Hid (∀ w', (∃ p : Regrown, w' = Sort.grow (redrawn w3 p.d) p.os) → w'.heap[w.heap.size]? = some (.cells X 25 (0, 0))) := fun w' ⟨p, hp⟩ => by rw [hp]; exact Below.at (below_regrown w3 p.d p.os) (Array.getElem?_eq_some_iff.1 q3).1 q3
        have RY : Hid (∀ w', (∃ p : Regrown, w' = Sort.grow (redrawn w3 p.d) p.os) → w'.heap[w.heap.size + 1]? = some (.cells Y 25 (0, 0))) := fun w' ⟨p, hp⟩ => by rw [hp]; exact Below.at (below_regrown w3 p.d p.os) (Array.getElem?_eq_some_iff.1 r3).1 r3
        have kX := hide fun d os => Calls.regrown_of (w := w3) (d := d) (os := os) (unhide TX _)
        have kY := hide fun d os => Calls.regrown_of (w := w3) (d := d) (os := os) (unhide TY _)
        clear q3 r3
        go_wp2_with fail
        refine wp_region_below mixed (by kernel_rfl) ?_
        refine wpQuiet_load_row rfl 25 (.tmp 2) rfl w.heap.size rfl 25 X (0, 0) _ (unhide RX) Try.underlying25 rfl hi ?_
        quiet_step (exact unhide kX _ _)
        refine wpQuiet_load_row rfl 25 (.tmp 3) rfl (w.heap.size + 1) rfl 25 Y (0, 0) _ (unhide RY) Try.underlying25 rfl hj ?_
        quiet_step (exact unhide kY _ _)
        quiet_step (fail)
        quiet_step (fail)
        refine wpQuiet_nil ?_
        intro w4 b4
        have hb4 := hb3.trans (b4.mono hb3.size)
        clear hb3 b4 RX RY kX kY
        go_wp2_with fail
        refine (unhide OP _).mono ?_
        rintro e w5 ⟨rfl, b5⟩
        have hb5 := hb4.trans (b5.mono hb4.size)
        clear hb4 b5
        go_wp2_with fail
        refine (unhide OQ _).mono ?_
        rintro e w6 ⟨rfl, b6⟩
        have hb6 := hb5.trans (b6.mono hb5.size)
        clear hb5 b6
        have s1 := al2 w6 (.cells Fl.zero.cells 29) (.cells Fl.zero.cells 29)
        have s2 := setRow_heap _ _ _ fl.cells _ _ s1.1
        have s3 := (setRow_other ((w6.alloc (.cells Fl.zero.cells 29)).alloc (.cells Fl.zero.cells 29)) w6.heap.size (w6.heap.size + 1) fl.cells (by omega)).trans s1.2
        have s4 := setRow_heap _ _ _ gl.cells _ _ s3
        have s5 := (setRow_other (((w6.alloc (.cells Fl.zero.cells 29)).alloc (.cells Fl.zero.cells 29)).setRow w6.heap.size fl.cells) (w6.heap.size + 1) w6.heap.size gl.cells (by omega)).trans s2
        have hb7 := below_setRow (below_setRow (hb6.trans ((bel2 w6 (.cells Fl.zero.cells 29) (.cells Fl.zero.cells 29)).mono hb6.size)) hb6.size fl.cells) (show w.heap.size ≤ w6.heap.size + 1 from Nat.le_succ_of_le hb6.size) gl.cells
        go_wp2_with (first
          | (refine wpList_store_row rfl 29 (.tmp 7) (.tmp 27) rfl w6.heap.size fl.cells rfl rfl 29 _ s1.1 fi (unhide fz) fo ?_)
          | (refine wpList_store_row rfl 29 (.tmp 8) (.tmp 29) rfl (w6.heap.size + 1) gl.cells rfl rfl 29 _ s3 fj (unhide fy) fp ?_))
        refine (unhide TR _).mono ?_
        rintro e w8 ⟨rfl, b8⟩
        clear s1 s2 s3 hb6
        have s6 := Below.at b8 (Array.getElem?_eq_some_iff.1 s5).1 s5
        have s7 := Below.at b8 (Array.getElem?_eq_some_iff.1 s4).1 s4
        have hb8 := hb7.trans (b8.mono hb7.size)
        clear s4 s5 hb7 b8
        obtain ⟨B1, hB1⟩ : ∃ B, w6.heap.size = B := ⟨_, rfl⟩
        rw [hB1] at s6 s7
        simp only [hB1]
        clear hB1
        have HF : Hid (∀ Z, Below w8.heap.size w8 Z → Z.heap[B1]? = some (.cells fl.cells 29 (0, 0)) ∧ Z.heap[B1 + 1]? = some (.cells gl.cells 29 (0, 0)) ∧ Below w.heap.size w Z ∧ Z.cell? ⟨B1, 0, none⟩ = some (.int .i64 (1 : Int)) ∧ Z.cell? ⟨B1, 1, none⟩ = some (.int .u32 (fl.o : Int)) ∧ Z.cell? ⟨B1, 2, none⟩ = some (.string (str fl.a)) ∧ Z.cell? ⟨B1, 3, none⟩ = some (.string (str fl.b)) ∧ Z.cell? ⟨B1, 4, none⟩ = some (.int .u64 (fl.n : Int))) := fun Z bZ => by
          have tA := Below.at bZ (Array.getElem?_eq_some_iff.1 s6).1 s6
          have tB := Below.at bZ (Array.getElem?_eq_some_iff.1 s7).1 s7
          have tC := tA
          rw [unhide fc] at tC
          rw [unhide hkk] at tC
          exact ⟨tA, tB, hb8.trans (bZ.mono hb8.size), (sig_cell tC).1 0 _ rfl, (sig_cell tC).1 1 _ rfl, (sig_cell tC).1 2 _ rfl, (sig_cell tC).1 3 _ rfl, (sig_cell tC).1 4 _ rfl⟩
        clear s6 s7 hb8 LI LJ TX TY OP OQ TR hi hj fo fp fz fy
        have e2 := unhide hFo
        have e3 := unhide hFa
        have e4 := unhide hFb
        have e5 := unhide hFn
        rw [e2, e3, e4, e5] at HF
        clear e2 e3 e4 e5
        go_wp2_with (first
          | go_skip
          | (refine wpList_store_newV rfl 44 (.tmp 9) (.tmp 33) rfl w8 (trCells 0 [] [] 0) _ C rfl rfl ti (unhide ts) tone ?_; intro Z rZ bZ zZ; obtain ⟨tA, tB, hbZ, c0, c1, c2, c3, c4⟩ := unhide HF Z bZ; clear HF bZ zZ)
          | (refine wpList_load_row_gd rfl 44 (.tmp 9) rfl w8.heap.size rfl 44 C (0, 0) _ rZ Try.underlying44 rfl ti ?_)
          | (refine wpList_neq_gd rfl 44 44 (.tmp 43) (.tmp 52) rfl _ _ rfl rfl (by kernel_rfl) false hne' ?_))
        obtain ⟨B2, hB2⟩ : ∃ B, w8.heap.size = B := ⟨_, rfl⟩
        rw [hB2] at rZ
        simp only [hB2]
        clear hB2
        have RC : Hid (∀ w', (∃ p : Regrown, w' = Sort.grow (redrawn Z p.d) p.os) → w'.heap[B2]? = some (.cells C 44 (0, 0))) := fun w' ⟨p, hp⟩ => by rw [hp]; exact Below.at (below_regrown Z p.d p.os) (Array.getElem?_eq_some_iff.1 rZ).1 rZ
        have kP := hide fun d os => Calls.regrown_of (w := Z) (d := d) (os := os) (unhide PN _)
        have kM := hide fun d os => Calls.regrown_of (w := Z) (d := d) (os := os) (unhide MU _)
        clear c0 c1 c2 c3 c4 rZ
        refine wp_region_below mixed (by kernel_rfl) ?_
        quiet_step (fail)
        quiet_step (exact unhide kP _ _)
        quiet_step (fail)
        quiet_step (fail)
        quiet_step (fail)
        quiet_step (fail)
        quiet_step (fail)
        quiet_step (fail)
        quiet_step (exact unhide kM _ _)
        refine wpQuiet_load_row rfl 44 (.tmp 9) rfl B2 rfl 44 C (0, 0) _ (unhide RC) Try.underlying44 rfl ti ?_
        refine wpQuiet_neq rfl 44 44 (.tmp 73) (.tmp 74) rfl _ _ rfl rfl (by kernel_rfl) false (unhide hne) ?_
        quiet_step (fail)
        quiet_step (fail)
        refine wpQuiet_nil ?_
        intro w9 b9
        have s8 := Below.at b9 (Array.getElem?_eq_some_iff.1 tA).1 tA
        have s9 := Below.at b9 (Array.getElem?_eq_some_iff.1 tB).1 tB
        have hb9 := hbZ.trans (b9.mono hbZ.size)
        clear tA tB hbZ b9 RC kP
        have kA := hide fun d os => Calls.regrown_of (w := w9) (d := d) (os := os) (unhide A _)
        have kS := hide fun d os => Calls.regrown_of (w := w9) (d := d) (os := os) (unhide SA _)
        have RF : Hid (∀ w', (∃ p : Regrown, w' = Sort.grow (redrawn w9 p.d) p.os) → w'.heap[B1]? = some (.cells fl.cells 29 (0, 0))) := fun w' ⟨p, hp⟩ => by rw [hp]; exact Below.at (below_regrown w9 p.d p.os) (Array.getElem?_eq_some_iff.1 s8).1 s8
        have RG : Hid (∀ w', (∃ p : Regrown, w' = Sort.grow (redrawn w9 p.d) p.os) → w'.heap[B1 + 1]? = some (.cells gl.cells 29 (0, 0))) := fun w' ⟨p, hp⟩ => by rw [hp]; exact Below.at (below_regrown w9 p.d p.os) (Array.getElem?_eq_some_iff.1 s9).1 s9
        obtain ⟨K9, hK9⟩ : ∃ K : Int, (fl.k : Int) = K := ⟨_, rfl⟩
        have c0 : ∀ d os, (Sort.grow (redrawn w9 d) os).cell? ⟨B1, 0, none⟩ = some (.int .i64 K9) := fun d os => by
          have := Below.at (below_regrown w9 d os) (Array.getElem?_eq_some_iff.1 s8).1 s8
          rw [unhide fc, hK9] at this
          exact (sig_cell this).1 0 _ rfl
        have hfl := unhide hfl
        clear s8 s9
        have hk0 : 0 < fl.k := by rw [unhide hkk]; decide
        rw [if_pos hk0] at hfl
        subst hfl
        have hd : decide (0 < K9) = true := by rw [← hK9]; simp; omega
        clear hk0 hK9
        generalize pFlEq fl gl = FE at *
        go_wp2_with fail
        refine wp_region_below mixed (by kernel_rfl) ?_
        quiet_step (exact unhide kA _ _)
        quiet_step (fail)
        quiet_step (fail)
        quiet_step (fail)
        quiet_step (exact unhide kS _ _)
        quiet_step (fail)
        quiet_step (fail)
        quiet_step (fail)
        quiet_step (fail)
        refine wpQuiet_load_row rfl 29 (.tmp 7) rfl B1 rfl 29 fl.cells (0, 0) _ (unhide RF) Try.underlying29 rfl fi ?_
        refine wpQuiet_load_row rfl 29 (.tmp 8) rfl (B1 + 1) rfl 29 gl.cells (0, 0) _ (unhide RG) Try.underlying29 rfl fj ?_
        refine wpQuiet_eql rfl 29 29 (.tmp 87) (.tmp 88) rfl _ _ rfl rfl (by kernel_rfl) FE (unhide hle) ?_
        quiet_step (fail)
        quiet_step (fail)
        quiet_step (fail)
        quiet_step (fail)
        refine wpQuiet_nil ?_
        intro w10 b10
        go_wp2
        go_ret
        exact ⟨by simp, hb9.trans (b10.mono hb9.size)⟩
end Go.Proofs.Ytlanplknendmaaa
