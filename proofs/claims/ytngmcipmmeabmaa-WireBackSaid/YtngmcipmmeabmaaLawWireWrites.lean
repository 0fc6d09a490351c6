/-
  THE WALK OF THE LAW WireWrites: whatever the number, digest, text and signature, it returns true, and nothing that was there has turned.
-/
import Derived.Test.YtngmcipmmeabmaaWireLaw
import Derived.Test.YtngmcipmmeabmaaWireRef2
import Derived.Test.YtngmcipmmeabmaaQuietRow
namespace Go.Proofs.Ytngmcipmmeabmaa
open Go.RowKit
set_option linter.unusedSimpArgs false
set_option linter.unusedVariables false

theorem wlong_calls (n : Nat) (w : World) :
    Calls Try.prog 12 #[.int .u64 (n : Int)] w fun e w' => e = .returned (.string (str (pBig n 8))) ∧ Below w.heap.size w w' := by
  have hc := number_calls n 8 (by decide) (by decide) w
  generalize pBig n 8 = B at *
  have Hc := hide hc
  clear hc
  go_enter Try.func12, Try.ntmps12
  go_wp2_with fail
  refine (unhide Hc).mono ?_
  rintro e w' ⟨rfl, hb⟩
  go_wp2
  go_ret
  exact ⟨rfl, hb⟩
theorem short_calls (i : Int) (p1 p2 p3 : Option Addr) (n1 n2 n3 c1 c2 c3 : Nat) (w : World) :
    Calls Try.prog 8 #[.agg #[.int .i64 i, .slice p1 n1 c1, .slice p2 n2 c2, .slice p3 n3 c3]] w fun e w' => e = .returned (.bool (decide (n1 ≤ 100) && decide (n2 ≤ 100) && decide (n3 ≤ 100))) ∧ Below w.heap.size w w' := by
  have hb0 := (Below.refl w.heap.size w).alloc (Nat.le_refl _) (.cells #[.int .i64 i, .slice p1 n1 c1, .slice p2 n2 c2, .slice p3 n3 c3] 27)
  cases d1 : decide ((n1 : Int) ≤ 100) <;> cases d2 : decide ((n2 : Int) ≤ 100) <;> cases d3 : decide ((n3 : Int) ≤ 100)
  all_goals
    generalize hp : (decide (n1 ≤ 100) && decide (n2 ≤ 100) && decide (n3 ≤ 100)) = p
    have Hp := hide hp
    clear hp
    go_enter Try.func8, Try.ntmps8
    go_wp2
    go_ret
    refine ⟨?_, hb0⟩
    rw [← unhide Hp]
    simp only [decide_eq_true_eq, decide_eq_false_iff_not] at d1 d2 d3
    simp
    omega
set_option maxHeartbeats 8000000 in
set_option maxRecDepth 100000 in
theorem wireWrites_walk (n : Nat) (hn : n < 18446744073709551616) (d : List UInt8) (hd32 : d.length = 32) (l : List UInt8) (hl : l.length ≤ maxLen) (i : Int) (p1 p2 p3 : Option Addr) (n1 n2 n3 c1 c2 c3 : Nat) (l1 l2 l3 : List UInt8) (w : World)
    (D1 : Digs w (.slice p1 n1 c1) l1) (D2 : Digs w (.slice p2 n2 c2) l2) (D3 : Digs w (.slice p3 n3 c3) l3) :
    Calls Try.prog 3 #[.int .u64 (n : Int), .agg (bc d), .string (str l), .agg #[.int .i64 i, .slice p1 n1 c1, .slice p2 n2 c2, .slice p3 n3 c3]] w fun e w' => e = .returned (.bool true) ∧ Below w.heap.size w w' := by
  unfold maxLen at hl
  have q0 := (al2 w (.cells (bc d) 24) (.cells #[.int .i64 i, .slice p1 n1 c1, .slice p2 n2 c2, .slice p3 n3 c3] 27)).1
  have q1 := (al2 w (.cells (bc d) 24) (.cells #[.int .i64 i, .slice p1 n1 c1, .slice p2 n2 c2, .slice p3 n3 c3] 27)).2
  have hb0 := bel2 w (.cells (bc d) 24) (.cells #[.int .i64 i, .slice p1 n1 c1, .slice p2 n2 c2, .slice p3 n3 c3] 27)
  have z0 : ((w.alloc (.cells (bc d) 24)).alloc (.cells #[.int .i64 i, .slice p1 n1 c1, .slice p2 n2 c2, .slice p3 n3 c3] 27)).heap.size = w.heap.size + 1 + 1 := by simp
  generalize hX0 : (w.alloc (.cells (bc d) 24)).alloc (.cells #[.int .i64 i, .slice p1 n1 c1, .slice p2 n2 c2, .slice p3 n3 c3] 27) = X0 at *
  have HX0 := hide hX0
  clear hX0
  by_cases hbig : 5000 < l.length
  · have hd : decide ((5000 : Int) < (l.length : Int)) = true := by simp; omega
    go_enter Try.func3, Try.ntmps3
    go_wp2_with fail
    rw [unhide HX0]
    refine (wawake_calls _).mono ?_
    rintro en w1 ⟨rfl, hb1⟩
    have b1 := hb0.trans (hb1.mono hb0.size)
    clear hb1 hb0 q0 q1
    go_wp2_with fail
    refine (wawake_calls _).mono ?_
    rintro en w2 ⟨rfl, hb2⟩
    go_wp2
    go_ret
    exact ⟨rfl, b1.trans (hb2.mono b1.size)⟩
  · have hd : decide ((5000 : Int) < (l.length : Int)) = false := by simp; omega
    have Q0 := hide q0
    have Q1 := hide q1
    have HD1 := hide D1
    have HD2 := hide D2
    have HD3 := hide D3
    clear q0 q1 D1 D2 D3
    go_enter Try.func3, Try.ntmps3
    go_wp2_with fail
    rw [unhide HX0]
    refine (wawake_calls _).mono ?_
    rintro en w1 ⟨rfl, hb1⟩
    have b1 := hb0.trans (hb1.mono hb0.size)
    have q0 := Below.at hb1 (by omega) (unhide Q0)
    have q1 := Below.at hb1 (by omega) (unhide Q1)
    have z1 := hb1.size
    have k0 := (sig_cell q1).1 0 _ rfl
    have k1 := (sig_cell q1).1 1 _ rfl
    have k2 := (sig_cell q1).1 2 _ rfl
    have k3 := (sig_cell q1).1 3 _ rfl
    have R0 := hide q0
    have R1 := hide q1
    clear hb1 hb0 q0 q1 Q0 Q1
    go_wp2_with fail
    refine (short_calls i p1 p2 p3 n1 n2 n3 c1 c2 c3 _).mono ?_
    rintro en X ⟨rfl, hb2⟩
    have b2 := b1.trans (hb2.mono b1.size)
    have q0 := Below.at hb2 (by omega) (unhide R0)
    have q1 := Below.at hb2 (by omega) (unhide R1)
    have z2 := hb2.size
    clear hb2 R0 R1 b1 k0 k1 k2 k3
    by_cases hsh : n1 ≤ 100 ∧ n2 ≤ 100 ∧ n3 ≤ 100
    · rw [show (decide (n1 ≤ 100) && decide (n2 ≤ 100) && decide (n3 ≤ 100)) = true by simp; omega]
      have e1 := (unhide HD1)
      have e2 := (unhide HD2)
      have e3 := (unhide HD3)
      have L1 : l1.length = 32 * n1 := by obtain ⟨_, _, _, h1, h2, _⟩ := e1; cases h1; exact h2
      have L2 : l2.length = 32 * n2 := by obtain ⟨_, _, _, h1, h2, _⟩ := e2; cases h1; exact h2
      have L3 : l3.length = 32 * n3 := by obtain ⟨_, _, _, h1, h2, _⟩ := e3; cases h1; exact h2
      have hrg : ∀ d os, Below w.heap.size w (Sort.grow (redrawn X d) os) := fun d os => b2.trans ((below_regrown X d os).mono b2.size)
      have hm1 : IntKind.u8.wrap (n : Int) = ((n % 256 : Nat) : Int) := by rw [IntKind.wrap_u8']; omega
      have hm1' : (n : Int).tmod 256 = ((n % 256 : Nat) : Int) := by rw [Int.tmod_eq_emod_of_nonneg (by omega)]; omega
      have hm4 : IntKind.u32.wrap (n : Int) = ((n % 4294967296 : Nat) : Int) := by rw [IntKind.wrap_u32']; omega
      have hm4' : (n : Int).tmod 4294967296 = ((n % 4294967296 : Nat) : Int) := by rw [Int.tmod_eq_emod_of_nonneg (by omega)]; omega
      have kA : Hid (∀ dd os, Calls Try.prog 7 #[] (Sort.grow (redrawn X dd) os) fun e w'' => e = .returned (.bool true) ∧ ∃ p : Regrown, w'' = Sort.grow (redrawn X p.d) p.os) := fun dd os => Calls.regrown_of (wawake_calls _)
      have kB : Hid (∀ dd os, Calls Try.prog 9 #[.int .u8 (IntKind.u8.wrap (n : Int))] (Sort.grow (redrawn X dd) os) fun e w'' => e = .returned (.string (str (pBig (n % 256) 1))) ∧ ∃ p : Regrown, w'' = Sort.grow (redrawn X p.d) p.os) := fun dd os => Calls.regrown_of (by rw [hm1]; exact wbyte_calls (n % 256) (by omega) _)
      have kB2 : Hid (∀ dd os, Calls Try.prog 10 #[.int .u64 ((n : Int).tmod 256), .int .i64 1] (Sort.grow (redrawn X dd) os) fun e w'' => e = .returned (.string (str (pBig (n % 256) 1))) ∧ ∃ p : Regrown, w'' = Sort.grow (redrawn X p.d) p.os) := fun dd os => Calls.regrown_of (by rw [hm1']; exact rbig_calls (n % 256) 1 (by omega) (by decide) (by decide) _)
      have kW : Hid (∀ dd os, Calls Try.prog 11 #[.int .u32 (IntKind.u32.wrap (n : Int))] (Sort.grow (redrawn X dd) os) fun e w'' => e = .returned (.string (str (pBig (n % 4294967296) 4))) ∧ ∃ p : Regrown, w'' = Sort.grow (redrawn X p.d) p.os) := fun dd os => Calls.regrown_of (by rw [hm4]; exact wword_calls (n % 4294967296) (by omega) _)
      have kW2 : Hid (∀ dd os, Calls Try.prog 10 #[.int .u64 ((n : Int).tmod 4294967296), .int .i64 4] (Sort.grow (redrawn X dd) os) fun e w'' => e = .returned (.string (str (pBig (n % 4294967296) 4))) ∧ ∃ p : Regrown, w'' = Sort.grow (redrawn X p.d) p.os) := fun dd os => Calls.regrown_of (by rw [hm4']; exact rbig_calls (n % 4294967296) 4 (by omega) (by decide) (by decide) _)
      have kL : Hid (∀ dd os, Calls Try.prog 12 #[.int .u64 (n : Int)] (Sort.grow (redrawn X dd) os) fun e w'' => e = .returned (.string (str (pBig n 8))) ∧ ∃ p : Regrown, w'' = Sort.grow (redrawn X p.d) p.os) := fun dd os => Calls.regrown_of (wlong_calls n _)
      have kL2 : Hid (∀ dd os, Calls Try.prog 10 #[.int .u64 (n : Int), .int .i64 8] (Sort.grow (redrawn X dd) os) fun e w'' => e = .returned (.string (str (pBig n 8))) ∧ ∃ p : Regrown, w'' = Sort.grow (redrawn X p.d) p.os) := fun dd os => Calls.regrown_of (rbig_calls n 8 (by omega) (by decide) (by decide) _)
      have kD : Hid (∀ dd os, Calls Try.prog 13 #[.agg (bc d)] (Sort.grow (redrawn X dd) os) fun e w'' => e = .returned (.string (str d)) ∧ ∃ p : Regrown, w'' = Sort.grow (redrawn X p.d) p.os) := fun dd os => Calls.regrown_of (wdigest_calls d hd32 _)
      have kD2 : Hid (∀ dd os, Calls Try.prog 14 #[.agg (bc d)] (Sort.grow (redrawn X dd) os) fun e w'' => e = .returned (.string (str d)) ∧ ∃ p : Regrown, w'' = Sort.grow (redrawn X p.d) p.os) := fun dd os => Calls.regrown_of (rbytes_calls d hd32 _)
      have kT : Hid (∀ dd os, Calls Try.prog 15 #[.string (str l)] (Sort.grow (redrawn X dd) os) fun e w'' => e = .returned (.string (str (pText4 l))) ∧ ∃ p : Regrown, w'' = Sort.grow (redrawn X p.d) p.os) := fun dd os => Calls.regrown_of (wtext_calls l (by omega) _)
      have kT2 : Hid (∀ dd os, Calls Try.prog 16 #[.string (str l)] (Sort.grow (redrawn X dd) os) fun e w'' => e = .returned (.string (str (pText4 l))) ∧ ∃ p : Regrown, w'' = Sort.grow (redrawn X p.d) p.os) := fun dd os => Calls.regrown_of (rtext3_calls l (by omega) _)
      have kP : Hid (∀ dd os, Calls Try.prog 17 #[.slice p1 n1 c1] (Sort.grow (redrawn X dd) os) fun e w'' => e = .returned (.string (str (pDigests l1))) ∧ ∃ p : Regrown, w'' = Sort.grow (redrawn X p.d) p.os) := fun dd os => Calls.regrown_of (wdigests_calls _ l1 (by omega) _ (e1.below (hrg _ _)))
      have kP2 : Hid (∀ dd os, Calls Try.prog 18 #[.slice p1 n1 c1] (Sort.grow (redrawn X dd) os) fun e w'' => e = .returned (.string (str (pDigests l1))) ∧ ∃ p : Regrown, w'' = Sort.grow (redrawn X p.d) p.os) := fun dd os => Calls.regrown_of (rdigs_calls _ l1 (by omega) _ (e1.below (hrg _ _)))
      have kS : Hid (∀ dd os, Calls Try.prog 19 #[.agg #[.int .i64 i, .slice p1 n1 c1, .slice p2 n2 c2, .slice p3 n3 c3]] (Sort.grow (redrawn X dd) os) fun e w'' => e = .returned (.string (str (pSig i l1 l2 l3))) ∧ ∃ p : Regrown, w'' = Sort.grow (redrawn X p.d) p.os) := fun dd os => Calls.regrown_of (wsig_calls i _ _ _ l1 l2 l3 (by omega) (by omega) (by omega) _ (e1.below (hrg _ _)) (e2.below (hrg _ _)) (e3.below (hrg _ _)))
      have kS2 : Hid (∀ dd os, Calls Try.prog 20 #[.agg #[.int .i64 i, .slice p1 n1 c1, .slice p2 n2 c2, .slice p3 n3 c3]] (Sort.grow (redrawn X dd) os) fun e w'' => e = .returned (.string (str (pSig i l1 l2 l3))) ∧ ∃ p : Regrown, w'' = Sort.grow (redrawn X p.d) p.os) := fun dd os => Calls.regrown_of (rsigr_calls i _ _ _ l1 l2 l3 (by omega) (by omega) (by omega) _ (e1.below (hrg _ _)) (e2.below (hrg _ _)) (e3.below (hrg _ _)))
      have hzX : w.heap.size + 1 < X.heap.size := by omega
      have rowD : Hid (∀ w', (∃ p : Regrown, w' = Sort.grow (redrawn X p.d) p.os) → w'.heap[w.heap.size]? = some (.cells (bc d) 24 (0, 0))) := fun w' ⟨p, hp⟩ => by
        rw [hp]; exact Below.at (below_regrown X p.d p.os) (by omega) q0
      have rowS : Hid (∀ w', (∃ p : Regrown, w' = Sort.grow (redrawn X p.d) p.os) → w'.heap[w.heap.size + 1]? = some (.cells #[.int .i64 i, .slice p1 n1 c1, .slice p2 n2 c2, .slice p3 n3 c3] 27 (0, 0))) := fun w' ⟨p, hp⟩ => by
        rw [hp]; exact Below.at (below_regrown X p.d p.os) hzX q1
      have cS1 : ∀ dd os, (Sort.grow (redrawn X dd) os).cell? ⟨w.heap.size + 1, 1, none⟩ = some (.slice p1 n1 c1) := fun dd os => by
        rw [(below_regrown X dd os).cell (p := ⟨w.heap.size + 1, 1, none⟩) hzX]; exact (sig_cell q1).1 1 _ rfl
      have hiD : (Try.prog.info? 24).map (·.size) = some (bc d).size := by rw [bc_size, hd32]; kernel_rfl
      have hiS : (Try.prog.info? 27).map (·.size) = some (#[.int .i64 i, .slice p1 n1 c1, .slice p2 n2 c2, .slice p3 n3 c3] : Array Value).size := by show _ = some 4; kernel_rfl
      have HB2 := hide b2
      clear e1 e2 e3 L1 L2 L3 hrg hm1 hm1' hm4 hm4' q0 q1 b2 HD1 HD2 HD3
      go_wp2_with fail
      refine wp_region_below mixed (by kernel_rfl) ?_
      quiet_step (exact unhide kA _ _)
      quiet_step (fail)
      quiet_step (fail)
      quiet_step (fail)
      quiet_step (exact unhide kB _ _)
      quiet_step (fail)
      quiet_step (fail)
      quiet_step (exact unhide kB2 _ _)
      quiet_step (fail)
      quiet_step (fail)
      quiet_step (fail)
      quiet_step (fail)
      quiet_step (fail)
      quiet_step (exact unhide kW _ _)
      quiet_step (fail)
      quiet_step (fail)
      quiet_step (exact unhide kW2 _ _)
      quiet_step (fail)
      quiet_step (fail)
      quiet_step (fail)
      quiet_step (fail)
      quiet_step (exact unhide kL _ _)
      quiet_step (fail)
      quiet_step (exact unhide kL2 _ _)
      quiet_step (fail)
      quiet_step (fail)
      quiet_step (fail)
      refine wpQuiet_load_row rfl 24 (.tmp 5) rfl w.heap.size rfl 24 _ (0, 0) _ (unhide rowD) Try.underlying24 rfl hiD ?_
      quiet_step (exact unhide kD _ _)
      refine wpQuiet_load_row rfl 24 (.tmp 5) rfl w.heap.size rfl 24 _ (0, 0) _ (unhide rowD) Try.underlying24 rfl hiD ?_
      quiet_step (exact unhide kD2 _ _)
      quiet_step (fail)
      quiet_step (fail)
      quiet_step (fail)
      quiet_step (fail)
      quiet_step (exact unhide kT _ _)
      quiet_step (fail)
      quiet_step (exact unhide kT2 _ _)
      quiet_step (fail)
      quiet_step (fail)
      quiet_step (fail)
      quiet_step (fail)
      quiet_step (fail)
      quiet_step (exact unhide kP _ _)
      quiet_step (fail)
      quiet_step (fail)
      quiet_step (exact unhide kP2 _ _)
      quiet_step (fail)
      quiet_step (fail)
      quiet_step (fail)
      refine wpQuiet_load_row rfl 27 (.tmp 7) rfl (w.heap.size + 1) rfl 27 _ (0, 0) _ (unhide rowS) Try.underlying27 rfl hiS ?_
      quiet_step (exact unhide kS _ _)
      refine wpQuiet_load_row rfl 27 (.tmp 7) rfl (w.heap.size + 1) rfl 27 _ (0, 0) _ (unhide rowS) Try.underlying27 rfl hiS ?_
      quiet_step (exact unhide kS2 _ _)
      repeat (quiet_step (fail))
      refine wpQuiet_nil ?_
      intro w3 hb3
      go_wp2
      go_ret
      exact ⟨rfl, (unhide HB2).trans (hb3.mono (unhide HB2).size)⟩
    · rw [show (decide (n1 ≤ 100) && decide (n2 ≤ 100) && decide (n3 ≤ 100)) = false by simp; omega]
      clear q0 q1 HD1 HD2 HD3
      go_wp2_with fail
      refine (wawake_calls _).mono ?_
      rintro en w3 ⟨rfl, hb3⟩
      go_wp2
      go_ret
      exact ⟨rfl, b2.trans (hb3.mono b2.size)⟩
end Go.Proofs.Ytngmcipmmeabmaa
