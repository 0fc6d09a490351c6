/-
  THE DOCUMENT's OWN PAYLOADS (layer 11): Right, Bytes, Read.
-/
import Derived.Test.YtlanplknendmaaaPayH
import Derived.Test.YtlanplknendmaaaDocRd
import Derived.Test.YtlanplknendmaaaWireRef
import Derived.Test.YtlanplknendmaaaNameRef3
namespace Go.Proofs.Ytlanplknendmaaa
open Go.RowKit
set_option linter.unusedSimpArgs false
set_option linter.unusedVariables false

set_option maxRecDepth 100000 in
theorem fright_calls (p : Pl) (hp : p.most 1000000000) (w : World) :
    Calls Try.prog 16 #[.agg p.fl.cells] w fun e w' => e = .returned (.bool p.right) ∧ Below w.heap.size w w' := by
  have hb0 := (Below.refl w.heap.size w).alloc (Nat.le_refl _) (.cells p.fl.cells 29)
  cases p with
  | no =>
    simp only [Pl.right]
    unfold Pl.fl Fl.zero Fl.cells at *
    simp only at *
    go_enter Try.func16, Try.ntmps16
    go_wp2
    go_ret
    exact ⟨rfl, hb0⟩
  | num =>
    simp only [Pl.right]
    unfold Pl.fl Fl.zero Fl.cells at *
    simp only at *
    go_enter Try.func16, Try.ntmps16
    go_wp2
    go_ret
    exact ⟨rfl, hb0⟩
  | tr o a b n =>
    simp only [Pl.right]
    unfold Pl.fl Fl.cells at *
    simp only at *
    have k1 := hide fun W => rright_calls a hp.1 W
    have k2 := hide fun W => rright_calls b hp.2 W
    generalize pRight a = x at *
    generalize pRight b = y at *
    have hn : (decide ((0 : Int) < (n : Int)) = !decide (n = 0)) := by
      by_cases h : n = 0
      · subst h; rfl
      · have : decide ((0 : Int) < (n : Int)) = true := by simp; omega
        rw [this]; simp [h]
    clear hp
    go_enter Try.func16, Try.ntmps16
    go_wp2_with fail
    refine (unhide k1 _).mono ?_
    rintro e w1 ⟨rfl, b1⟩
    obtain ⟨c1, -, z1, -⟩ := alloc_kept b1
    have hb1 := hb0.trans (b1.mono (by simp))
    have d1 := c1 3
    have d2 := c1 4
    simp only [List.getElem?_toArray, List.getElem?_cons_succ, List.getElem?_cons_zero] at d1 d2
    clear c1 b1 hb0 k1
    cases x with
    | false =>
      go_wp2_with fail
      go_ret
      exact ⟨rfl, hb1⟩
    | true =>
      go_wp2_with fail
      refine (unhide k2 _).mono ?_
      rintro e w2 ⟨rfl, b2⟩
      have d3 := ((bcell b2).1 w.heap.size 4 z1).trans d2
      have hb2 := hb1.trans (b2.mono (Nat.le_of_lt z1))
      clear d1 d2
      cases y with
      | false =>
        go_wp2_with fail
        go_ret
        exact ⟨rfl, hb2⟩
      | true =>
        go_wp2_with fail
        go_ret
        exact ⟨by simp; by_cases h : n = 0 <;> simp [h]; omega, hb2⟩
  | sa a b =>
    simp only [Pl.right]
    unfold Pl.fl Fl.cells at *
    simp only at *
    have k1 := hide fun W => rright_calls a hp.1 W
    have k2 := hide fun W => rsays_calls b hp.2 W
    generalize pRight a = x at *
    generalize pSays b = y at *
    clear hp
    go_enter Try.func16, Try.ntmps16
    go_wp2_with fail
    refine (unhide k1 _).mono ?_
    rintro e w1 ⟨rfl, b1⟩
    obtain ⟨c1, -, z1, -⟩ := alloc_kept b1
    have hb1 := hb0.trans (b1.mono (by simp))
    have d1 := c1 3
    simp only [List.getElem?_toArray, List.getElem?_cons_succ, List.getElem?_cons_zero] at d1
    clear c1 b1 hb0 k1
    cases x with
    | false =>
      go_wp2_with fail
      go_ret
      exact ⟨rfl, hb1⟩
    | true =>
      go_wp2_with fail
      refine (unhide k2 _).mono ?_
      rintro e w2 ⟨rfl, b2⟩
      have hb2 := hb1.trans (b2.mono (Nat.le_of_lt z1))
      go_wp2_with fail
      go_ret
      exact ⟨rfl, hb2⟩
  | de o a n =>
    simp only [Pl.right]
    unfold Pl.fl Fl.cells at *
    simp only at *
    have k1 := hide fun W => rright_calls a hp W
    generalize pRight a = x at *
    clear hp
    go_enter Try.func16, Try.ntmps16
    go_wp2_with fail
    refine (unhide k1 _).mono ?_
    rintro e w1 ⟨rfl, b1⟩
    have hb1 := hb0.trans (b1.mono (by simp))
    go_wp2_with fail
    go_ret
    exact ⟨rfl, hb1⟩
set_option maxHeartbeats 2000000 in
set_option maxRecDepth 100000 in
theorem fbytes_calls (p : Pl) (ok : p.ok) (hp : p.most 1000000000) (w : World) :
    Calls Try.prog 11 #[.agg p.fl.cells] w fun e w' => e = .returned (.tuple #[.string (str p.bytes.1), .int .i64 p.bytes.2]) ∧ Below w.heap.size w w' := by
  have hb0 := (Below.refl w.heap.size w).alloc (Nat.le_refl _) (.cells p.fl.cells 29)
  have q0 := al1 w (.cells p.fl.cells 29)
  have fi := fl_info p.fl
  have kR := fun W => fright_calls p hp W
  unfold Pl.bytes
  cases p with
  | no =>
    simp only [Pl.tag, if_true]
    unfold Pl.fl Fl.zero Fl.cells at *
    simp only at *
    clear kR
    go_enter Try.func11, Try.ntmps11
    go_wp2
    go_ret2
    exact ⟨rfl, hb0⟩
  | num =>
    simp only [Pl.tag, if_true]
    unfold Pl.fl Fl.zero Fl.cells at *
    simp only at *
    clear kR
    go_enter Try.func11, Try.ntmps11
    go_wp2
    go_ret2
    exact ⟨rfl, hb0⟩
  | tr o a b n =>
    obtain ⟨R, hR⟩ : ∃ R, (Pl.tr o a b n).right = R := ⟨_, rfl⟩
    simp only [Pl.tag, hR, Pl.fields]
    rw [hR] at kR
    rw [if_neg (by decide)]
    have ok1 := ok.1
    have ok2 := ok.2
    have hp1 := hp.1
    have hp2 := hp.2
    have L0 := pBig_length 1 1
    have g0 := hide fun W => rbig_calls 1 1 (by decide) (by decide) (by decide) W
    have L1 := pBig_length o 4
    have g1 := hide fun W => rbig_calls o 4 (by omega) (by decide) (by decide) W
    have L2 := pText4_length a
    have g2 := hide fun W => rtext3_calls a (by omega) W
    have L3 := pText4_length b
    have g3 := hide fun W => rtext3_calls b (by omega) W
    have L4 := pBig_length n 8
    have g4 := hide fun W => rbig_calls n 8 (by omega) (by decide) (by decide) W
    have fC : Hid ((Pl.tr o a b n).fl.cells = #[.int .i64 1, .int .u32 (o : Int), .string (str a), .string (str b), .int .u64 (n : Int)]) := rfl
    generalize (Pl.tr o a b n).fl.cells = C at *
    have fC := unhide fC
    generalize pBig 1 1 = P0 at *
    generalize pBig o 4 = P1 at *
    generalize pText4 a = P2 at *
    generalize pText4 b = P3 at *
    generalize pBig n 8 = P4 at *
    have a1 := append_str P0 P1
    have n1 : ¬ 9223372036854775807 < P0.length + P1.length := by omega
    have a2 : str (P0 ++ P1) ++ str P2 = str (P0 ++ (P1 ++ P2)) := by rw [append_str]; simp
    have n2 : ¬ 9223372036854775807 < P0.length + P1.length + P2.length := by omega
    have a3 : str (P0 ++ (P1 ++ P2)) ++ str P3 = str (P0 ++ (P1 ++ (P2 ++ P3))) := by rw [append_str]; simp
    have n3 : ¬ 9223372036854775807 < P0.length + (P1.length + P2.length) + P3.length := by omega
    have a4 : str (P0 ++ (P1 ++ (P2 ++ P3))) ++ str P4 = str (P0 ++ (P1 ++ (P2 ++ (P3 ++ P4)))) := by rw [append_str]; simp
    have n4 : ¬ 9223372036854775807 < P0.length + (P1.length + (P2.length + P3.length)) + P4.length := by omega
    clear L0 L1 L2 L3 L4 ok hp ok2 hp1 hp2 hR
    have KR := hide kR
    clear kR
    have CF : Hid (∀ W : World, W.heap[w.heap.size]? = some (.cells C 29 (0, 0)) → W.cell? ⟨w.heap.size, 0, none⟩ = some (.int .i64 1) ∧ W.cell? ⟨w.heap.size, 1, none⟩ = some (.int .u32 (o : Int)) ∧ W.cell? ⟨w.heap.size, 2, none⟩ = some (.string (str a)) ∧ W.cell? ⟨w.heap.size, 3, none⟩ = some (.string (str b)) ∧ W.cell? ⟨w.heap.size, 4, none⟩ = some (.int .u64 (n : Int))) := fun W hW => by
      rw [fC] at hW
      exact ⟨(sig_cell hW).1 0 _ rfl, (sig_cell hW).1 1 _ rfl, (sig_cell hW).1 2 _ rfl, (sig_cell hW).1 3 _ rfl, (sig_cell hW).1 4 _ rfl⟩
    clear fC
    have z0 := (Array.getElem?_eq_some_iff.1 q0).1
    obtain ⟨c0, c1, c2, c3, c4⟩ := unhide CF _ q0
    go_enter Try.func11, Try.ntmps11
    go_wp2_with (refine wpList_load_row rfl 29 (.tmp 1) rfl w.heap.size rfl 29 C (0, 0) _ q0 Try.underlying29 rfl fi ?_)
    refine (unhide KR _).mono ?_
    rintro e w1 ⟨rfl, b1⟩
    have q1 := Below.at b1 z0 q0
    have hb1 := hb0.trans (b1.mono hb0.size)
    clear c0 c1 c2 c3 c4 q0 hb0 b1 z0
    cases R with
    | false =>
      go_wp2_with fail
      go_ret2
      exact ⟨rfl, hb1⟩
    | true =>
      obtain ⟨c0, c1, c2, c3, c4⟩ := unhide CF _ q1
      go_wp2_with fail
      refine (unhide g0 _).mono ?_
      rintro e w2' ⟨rfl, b2⟩
      have q2 := Below.at b2 (Array.getElem?_eq_some_iff.1 q1).1 q1
      have hb2 := hb1.trans (b2.mono hb1.size)
      clear c0 c1 c2 c3 c4 q1 hb1 b2 g0
      obtain ⟨c0, c1, c2, c3, c4⟩ := unhide CF _ q2
      go_wp2_with fail
      refine (unhide g1 _).mono ?_
      rintro e w3' ⟨rfl, b3⟩
      have q3 := Below.at b3 (Array.getElem?_eq_some_iff.1 q2).1 q2
      have hb3 := hb2.trans (b3.mono hb2.size)
      clear c0 c1 c2 c3 c4 q2 hb2 b3 g1
      obtain ⟨c0, c1, c2, c3, c4⟩ := unhide CF _ q3
      go_wp2_with fail
      refine (unhide g2 _).mono ?_
      rintro e w4' ⟨rfl, b4⟩
      have q4 := Below.at b4 (Array.getElem?_eq_some_iff.1 q3).1 q3
      have hb4 := hb3.trans (b4.mono hb3.size)
      clear c0 c1 c2 c3 c4 q3 hb3 b4 g2
      obtain ⟨c0, c1, c2, c3, c4⟩ := unhide CF _ q4
      go_wp2_with fail
      refine (unhide g3 _).mono ?_
      rintro e w5' ⟨rfl, b5⟩
      have q5 := Below.at b5 (Array.getElem?_eq_some_iff.1 q4).1 q4
      have hb5 := hb4.trans (b5.mono hb4.size)
      clear c0 c1 c2 c3 c4 q4 hb4 b5 g3
      obtain ⟨c0, c1, c2, c3, c4⟩ := unhide CF _ q5
      go_wp2_with fail
      refine (unhide g4 _).mono ?_
      rintro e w6' ⟨rfl, b6⟩
      have q6 := Below.at b6 (Array.getElem?_eq_some_iff.1 q5).1 q5
      have hb6 := hb5.trans (b6.mono hb5.size)
      clear c0 c1 c2 c3 c4 q5 hb5 b6 g4
      obtain ⟨c0, c1, c2, c3, c4⟩ := unhide CF _ q6
      go_wp2_with fail
      go_ret2
      exact ⟨by first | rfl | simp, hb6⟩
  | sa a b =>
    obtain ⟨R, hR⟩ : ∃ R, (Pl.sa a b).right = R := ⟨_, rfl⟩
    simp only [Pl.tag, hR, Pl.fields]
    rw [hR] at kR
    rw [if_neg (by decide)]
    have hp1 := hp.1
    have hp2 := hp.2
    have L0 := pBig_length 2 1
    have g0 := hide fun W => rbig_calls 2 1 (by decide) (by decide) (by decide) W
    have L1 := pText4_length a
    have g1 := hide fun W => rtext3_calls a (by omega) W
    have L2 := pText4_length b
    have g2 := hide fun W => rtext3_calls b (by omega) W
    have fC : Hid ((Pl.sa a b).fl.cells = #[.int .i64 2, .int .u32 ((0 : Nat) : Int), .string (str a), .string (str b), .int .u64 ((0 : Nat) : Int)]) := rfl
    generalize (Pl.sa a b).fl.cells = C at *
    have fC := unhide fC
    generalize pBig 2 1 = P0 at *
    generalize pText4 a = P1 at *
    generalize pText4 b = P2 at *
    have a1 := append_str P0 P1
    have n1 : ¬ 9223372036854775807 < P0.length + P1.length := by omega
    have a2 : str (P0 ++ P1) ++ str P2 = str (P0 ++ (P1 ++ P2)) := by rw [append_str]; simp
    have n2 : ¬ 9223372036854775807 < P0.length + P1.length + P2.length := by omega
    clear L0 L1 L2 ok hp hp1 hp2 hR
    have KR := hide kR
    clear kR
    have CF : Hid (∀ W : World, W.heap[w.heap.size]? = some (.cells C 29 (0, 0)) → W.cell? ⟨w.heap.size, 0, none⟩ = some (.int .i64 2) ∧ W.cell? ⟨w.heap.size, 2, none⟩ = some (.string (str a)) ∧ W.cell? ⟨w.heap.size, 3, none⟩ = some (.string (str b))) := fun W hW => by
      rw [fC] at hW
      exact ⟨(sig_cell hW).1 0 _ rfl, (sig_cell hW).1 2 _ rfl, (sig_cell hW).1 3 _ rfl⟩
    clear fC
    have z0 := (Array.getElem?_eq_some_iff.1 q0).1
    obtain ⟨c0, c2, c3⟩ := unhide CF _ q0
    go_enter Try.func11, Try.ntmps11
    go_wp2_with (refine wpList_load_row rfl 29 (.tmp 1) rfl w.heap.size rfl 29 C (0, 0) _ q0 Try.underlying29 rfl fi ?_)
    refine (unhide KR _).mono ?_
    rintro e w1 ⟨rfl, b1⟩
    have q1 := Below.at b1 z0 q0
    have hb1 := hb0.trans (b1.mono hb0.size)
    clear c0 c2 c3 q0 hb0 b1 z0
    cases R with
    | false =>
      go_wp2_with fail
      go_ret2
      exact ⟨rfl, hb1⟩
    | true =>
      obtain ⟨c0, c2, c3⟩ := unhide CF _ q1
      go_wp2_with fail
      refine (unhide g0 _).mono ?_
      rintro e w2' ⟨rfl, b2⟩
      have q2 := Below.at b2 (Array.getElem?_eq_some_iff.1 q1).1 q1
      have hb2 := hb1.trans (b2.mono hb1.size)
      clear c0 c2 c3 q1 hb1 b2 g0
      obtain ⟨c0, c2, c3⟩ := unhide CF _ q2
      go_wp2_with fail
      refine (unhide g1 _).mono ?_
      rintro e w3' ⟨rfl, b3⟩
      have q3 := Below.at b3 (Array.getElem?_eq_some_iff.1 q2).1 q2
      have hb3 := hb2.trans (b3.mono hb2.size)
      clear c0 c2 c3 q2 hb2 b3 g1
      obtain ⟨c0, c2, c3⟩ := unhide CF _ q3
      go_wp2_with fail
      refine (unhide g2 _).mono ?_
      rintro e w4' ⟨rfl, b4⟩
      have q4 := Below.at b4 (Array.getElem?_eq_some_iff.1 q3).1 q3
      have hb4 := hb3.trans (b4.mono hb3.size)
      clear c0 c2 c3 q3 hb3 b4 g2
      obtain ⟨c0, c2, c3⟩ := unhide CF _ q4
      go_wp2_with fail
      go_ret2
      exact ⟨by first | rfl | simp, hb4⟩
  | de o a n =>
    obtain ⟨R, hR⟩ : ∃ R, (Pl.de o a n).right = R := ⟨_, rfl⟩
    simp only [Pl.tag, hR, Pl.fields]
    rw [hR] at kR
    rw [if_neg (by decide)]
    have ok1 := ok.1
    have ok2 := ok.2
    have hp1 : a.length ≤ 1000000000 := hp
    have L0 := pBig_length 3 1
    have g0 := hide fun W => rbig_calls 3 1 (by decide) (by decide) (by decide) W
    have L1 := pBig_length o 4
    have g1 := hide fun W => rbig_calls o 4 (by omega) (by decide) (by decide) W
    have L2 := pText4_length a
    have g2 := hide fun W => rtext3_calls a (by omega) W
    have L3 := pBig_length n 8
    have g3 := hide fun W => rbig_calls n 8 (by omega) (by decide) (by decide) W
    have fC : Hid ((Pl.de o a n).fl.cells = #[.int .i64 3, .int .u32 (o : Int), .string (str a), .string (str []), .int .u64 (n : Int)]) := rfl
    generalize (Pl.de o a n).fl.cells = C at *
    have fC := unhide fC
    generalize pBig 3 1 = P0 at *
    generalize pBig o 4 = P1 at *
    generalize pText4 a = P2 at *
    generalize pBig n 8 = P3 at *
    have a1 := append_str P0 P1
    have n1 : ¬ 9223372036854775807 < P0.length + P1.length := by omega
    have a2 : str (P0 ++ P1) ++ str P2 = str (P0 ++ (P1 ++ P2)) := by rw [append_str]; simp
    have n2 : ¬ 9223372036854775807 < P0.length + P1.length + P2.length := by omega
    have a3 : str (P0 ++ (P1 ++ P2)) ++ str P3 = str (P0 ++ (P1 ++ (P2 ++ P3))) := by rw [append_str]; simp
    have n3 : ¬ 9223372036854775807 < P0.length + (P1.length + P2.length) + P3.length := by omega
    clear L0 L1 L2 L3 ok hp ok2 hp1 hR
    have KR := hide kR
    clear kR
    have CF : Hid (∀ W : World, W.heap[w.heap.size]? = some (.cells C 29 (0, 0)) → W.cell? ⟨w.heap.size, 0, none⟩ = some (.int .i64 3) ∧ W.cell? ⟨w.heap.size, 1, none⟩ = some (.int .u32 (o : Int)) ∧ W.cell? ⟨w.heap.size, 2, none⟩ = some (.string (str a)) ∧ W.cell? ⟨w.heap.size, 4, none⟩ = some (.int .u64 (n : Int))) := fun W hW => by
      rw [fC] at hW
      exact ⟨(sig_cell hW).1 0 _ rfl, (sig_cell hW).1 1 _ rfl, (sig_cell hW).1 2 _ rfl, (sig_cell hW).1 4 _ rfl⟩
    clear fC
    have z0 := (Array.getElem?_eq_some_iff.1 q0).1
    obtain ⟨c0, c1, c2, c4⟩ := unhide CF _ q0
    go_enter Try.func11, Try.ntmps11
    go_wp2_with (refine wpList_load_row rfl 29 (.tmp 1) rfl w.heap.size rfl 29 C (0, 0) _ q0 Try.underlying29 rfl fi ?_)
    refine (unhide KR _).mono ?_
    rintro e w1 ⟨rfl, b1⟩
    have q1 := Below.at b1 z0 q0
    have hb1 := hb0.trans (b1.mono hb0.size)
    clear c0 c1 c2 c4 q0 hb0 b1 z0
    cases R with
    | false =>
      go_wp2_with fail
      go_ret2
      exact ⟨rfl, hb1⟩
    | true =>
      obtain ⟨c0, c1, c2, c4⟩ := unhide CF _ q1
      go_wp2_with fail
      refine (unhide g0 _).mono ?_
      rintro e w2' ⟨rfl, b2⟩
      have q2 := Below.at b2 (Array.getElem?_eq_some_iff.1 q1).1 q1
      have hb2 := hb1.trans (b2.mono hb1.size)
      clear c0 c1 c2 c4 q1 hb1 b2 g0
      obtain ⟨c0, c1, c2, c4⟩ := unhide CF _ q2
      go_wp2_with fail
      refine (unhide g1 _).mono ?_
      rintro e w3' ⟨rfl, b3⟩
      have q3 := Below.at b3 (Array.getElem?_eq_some_iff.1 q2).1 q2
      have hb3 := hb2.trans (b3.mono hb2.size)
      clear c0 c1 c2 c4 q2 hb2 b3 g1
      obtain ⟨c0, c1, c2, c4⟩ := unhide CF _ q3
      go_wp2_with fail
      refine (unhide g2 _).mono ?_
      rintro e w4' ⟨rfl, b4⟩
      have q4 := Below.at b4 (Array.getElem?_eq_some_iff.1 q3).1 q3
      have hb4 := hb3.trans (b4.mono hb3.size)
      clear c0 c1 c2 c4 q3 hb3 b4 g2
      obtain ⟨c0, c1, c2, c4⟩ := unhide CF _ q4
      go_wp2_with fail
      refine (unhide g3 _).mono ?_
      rintro e w5' ⟨rfl, b5⟩
      have q5 := Below.at b5 (Array.getElem?_eq_some_iff.1 q4).1 q4
      have hb5 := hb4.trans (b5.mono hb4.size)
      clear c0 c1 c2 c4 q4 hb4 b5 g3
      obtain ⟨c0, c1, c2, c4⟩ := unhide CF _ q5
      go_wp2_with fail
      go_ret2
      exact ⟨by first | rfl | simp, hb5⟩
end Go.Proofs.Ytlanplknendmaaa
