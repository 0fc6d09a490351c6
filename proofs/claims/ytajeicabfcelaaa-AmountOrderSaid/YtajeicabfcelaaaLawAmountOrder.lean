/-
  THE WALK OF THE LAW AmountOrder: it returns true, and nothing that was there has turned.
-/
import Derived.Test.YtajeicabfcelaaaAmtC
import Derived.Test.YtajeicabfcelaaaQuietRow
import Derived.Test.YtajeicabfcelaaaQuietMid
import Derived.Test.YtajeicabfcelaaaStoreV
namespace Go.Proofs.Ytajeicabfcelaaa
open Go.RowKit
set_option linter.unusedSimpArgs false
set_option linter.unusedVariables false

theorem wide_eql' (a b c d : Int) (w : World) : (binOp .eql 35 (.agg #[.int .u64 a, .int .u64 b]) (.agg #[.int .u64 c, .int .u64 d])).run Try.prog w = .ok (.bool (if a = c then decide (b = d) else false)) w := by
  by_cases h : a = c
  · subst h
    have : (a == a) = true := by simp
    go_simp
    split <;> simp_all
  · go_simp
theorem wide_eql (a b : Nat) (w : World) : (binOp .eql 35 (.agg (wv a)) (.agg (wv b))).run Try.prog w = .ok (.bool (decide (a = b))) w := by
  unfold wv
  rw [wide_eql']
  congr 2
  split
  · apply decide_eq_decide.2; omega
  · symm; apply decide_eq_false; omega
theorem wide_one (a : Nat) : (wv a).all (·.oneCell') = true := by simp [wv, Value.oneCell']
theorem wide_info (a : Nat) : (Try.prog.info? 35).map (·.size) = some (wv a).size := (show (Try.prog.info? 35).map (·.size) = some 2 by kernel_rfl)
set_option maxHeartbeats 4000000 in
set_option maxRecDepth 100000 in
theorem amountOrder_lt (a b c : Nat) (ha : a < wmax) (hb : b < wmax) (hc : c < wmax) (hab : a < b) (w : World) :
    Calls Try.prog 7 #[.agg (wv a), .agg (wv b), .agg (wv c)] w fun e w' => e = .returned (.bool true) ∧ Below w.heap.size w w' := by
  have d1 : decide (a < b) = true := by simpa using hab
  have d2 : decide (b < a) = false := by simp; omega
  have d3 : decide (a = b) = false := by simp; omega
  clear hab
  have ia := wide_info a
  have ib := wide_info b
  have ic := wide_info c
  have z2 : (#[.int .u64 0, .int .u64 0] : Array Value).size = 2 := rfl
  have A3 := hide (al3 w (.cells (wv a) 35) (.cells (wv b) 35) (.cells (wv c) 35))
  have B3 := hide (bel3 w (.cells (wv a) 35) (.cells (wv b) 35) (.cells (wv c) 35))
  have S3 : Hid ((((w.alloc (.cells (wv a) 35)).alloc (.cells (wv b) 35)).alloc (.cells (wv c) 35)).heap.size = w.heap.size + 3) := hide (by simp)
  have HE := hide (wide_eql a b)
  obtain ⟨x, ex, HA, hx0⟩ : ∃ (x : Nat) (ex : Int), Hid (∀ w, Calls Try.prog 15 #[.agg (wv a), .agg (wv c)] w fun e w' => e = .returned (.tuple #[.agg (wv x), .int .i64 ex]) ∧ Below w.heap.size w w') ∧ Hid (ex = 0 ∧ x = a + c ∨ ex = 10) := by
    by_cases h : wmax ≤ a + c
    · refine ⟨0, 10, fun w => ?_, .inr rfl⟩
      have := wadd_calls a c ha hc w
      rw [if_pos h] at this
      exact this
    · refine ⟨a + c, 0, fun w => ?_, .inl ⟨rfl, rfl⟩⟩
      have := wadd_calls a c ha hc w
      rw [if_neg h] at this
      exact this
  obtain ⟨y, ey, HB, hy0⟩ : ∃ (x : Nat) (ex : Int), Hid (∀ w, Calls Try.prog 15 #[.agg (wv b), .agg (wv c)] w fun e w' => e = .returned (.tuple #[.agg (wv x), .int .i64 ex]) ∧ Below w.heap.size w w') ∧ Hid (ex = 0 ∧ x = b + c ∨ ex = 10) := by
    by_cases h : wmax ≤ b + c
    · refine ⟨0, 10, fun w => ?_, .inr rfl⟩
      have := wadd_calls b c hb hc w
      rw [if_pos h] at this
      exact this
    · refine ⟨b + c, 0, fun w => ?_, .inl ⟨rfl, rfl⟩⟩
      have := wadd_calls b c hb hc w
      rw [if_neg h] at this
      exact this
  have hxy : Hid (ex = 0 ∧ ey = 0 ∧ decide (x < y) = decide (a < b) ∨ ex = 0 ∧ ey = 10 ∨ ex = 10) := by
    rcases unhide hx0 with ⟨h1, h2⟩ | h1
    · rcases unhide hy0 with ⟨h3, h4⟩ | h3
      · exact .inl ⟨h1, h3, by rw [h2, h4]; apply decide_eq_decide.2; omega⟩
      · exact .inr (.inl ⟨h1, h3⟩)
    · exact .inr (.inr h1)
  have HL := hide less_calls
  clear ha hb hc
  go_enter Try.func7, Try.ntmps7
  go_wp2_with fail
  refine (awake_calls _).mono ?_
  rintro e w1 ⟨rfl, hb1⟩
  have b1 : Below w.heap.size w w1 := (unhide B3).trans (hb1.mono (by have := unhide S3; omega))
  have q0 := Below.at hb1 (by have := unhide S3; omega) (unhide A3).1
  have q1 := Below.at hb1 (by have := unhide S3; omega) (unhide A3).2.1
  have q2 := Below.at hb1 (by have := unhide S3; omega) (unhide A3).2.2
  have z1 : w.heap.size + 3 ≤ w1.heap.size := by have := hb1.size; have := unhide S3; omega
  have kL : Hid (∀ x y dd os, Calls Try.prog 22 #[.agg (wv x), .agg (wv y)] (Sort.grow (redrawn w1 dd) os) fun e w'' => e = .returned (.bool (decide (x < y))) ∧ ∃ p : Regrown, w'' = Sort.grow (redrawn w1 p.d) p.os) := fun x y dd os => Calls.regrown_of (less_calls x y _)
  have R0 : Hid (∀ w', (∃ p : Regrown, w' = Sort.grow (redrawn w1 p.d) p.os) → w'.heap[w.heap.size]? = some (.cells (wv a) 35 (0, 0))) := fun w' ⟨p, hp⟩ => by
    rw [hp]; exact Below.at (below_regrown w1 p.d p.os) (by omega) q0
  have R1 : Hid (∀ w', (∃ p : Regrown, w' = Sort.grow (redrawn w1 p.d) p.os) → w'.heap[w.heap.size + 1]? = some (.cells (wv b) 35 (0, 0))) := fun w' ⟨p, hp⟩ => by
    rw [hp]; exact Below.at (below_regrown w1 p.d p.os) (by omega) q1
  have Z1 := hide z1
  have Q0 := hide q0
  have Q1 := hide q1
  have Q2 := hide q2
  have D1 := hide b1
  clear hb1 b1 q0 q1 q2 A3 B3 S3 z1
  generalize hN : w.heap.size = N at *
  have HN := hide hN
  clear hN hx0 hy0
  go_wp2_with fail
  refine wp_region_below mixed (by kernel_rfl) ?_
  refine wpQuiet_load_row rfl 35 (.tmp 3) rfl (N) rfl 35 _ (0, 0) _ (unhide R0) Try.underlying35 rfl (wide_info _) ?_
  refine wpQuiet_load_row rfl 35 (.tmp 4) rfl (N + 1) rfl 35 _ (0, 0) _ (unhide R1) Try.underlying35 rfl (wide_info _) ?_
  quiet_step (exact unhide kL _ _ _ _)
  rw [d1]
  quiet_step (fail)
  refine wpQuiet_load_row rfl 35 (.tmp 4) rfl (N + 1) rfl 35 _ (0, 0) _ (unhide R1) Try.underlying35 rfl (wide_info _) ?_
  refine wpQuiet_load_row rfl 35 (.tmp 3) rfl (N) rfl 35 _ (0, 0) _ (unhide R0) Try.underlying35 rfl (wide_info _) ?_
  quiet_step (exact unhide kL _ _ _ _)
  rw [d2]
  quiet_step (fail)
  quiet_step (fail)
  refine wpQuiet_load_row rfl 35 (.tmp 3) rfl (N) rfl 35 _ (0, 0) _ (unhide R0) Try.underlying35 rfl (wide_info _) ?_
  refine wpQuiet_load_row rfl 35 (.tmp 4) rfl (N + 1) rfl 35 _ (0, 0) _ (unhide R1) Try.underlying35 rfl (wide_info _) ?_
  refine wpQuiet_eql rfl 35 35 (.tmp 22) (.tmp 23) rfl _ _ rfl rfl (by kernel_rfl) _ (unhide HE) ?_
  rw [d3]
  refine wpQuiet_load_row rfl 35 (.tmp 3) rfl (N) rfl 35 _ (0, 0) _ (unhide R0) Try.underlying35 rfl (wide_info _) ?_
  refine wpQuiet_load_row rfl 35 (.tmp 4) rfl (N + 1) rfl 35 _ (0, 0) _ (unhide R1) Try.underlying35 rfl (wide_info _) ?_
  quiet_step (exact unhide kL _ _ _ _)
  rw [d1]
  repeat (go_big_quiet_step (fail))
  refine wpQuiet_nil ?_
  intro w2 hb2
  have z2 := hb2.size
  have q0 := Below.at hb2 (by have := unhide Z1; omega) (unhide Q0)
  have q1 := Below.at hb2 (by have := unhide Z1; omega) (unhide Q1)
  have q2 := Below.at hb2 (by have := unhide Z1; omega) (unhide Q2)
  have b2 : Below N w w2 := (unhide D1).trans (hb2.mono (by have := unhide Z1; omega))
  have z2' : N + 3 ≤ w2.heap.size := by have := unhide Z1; omega
  clear hb2 z2 Q0 Q1 Q2 D1 Z1 R0 R1 kL
  have E0 := hide q0
  have E1 := hide q1
  have E2 := hide q2
  have F2 := hide b2
  have G2 := hide z2'
  clear q0 q1 q2 b2 z2'
  go_wp2_with (first | refine wpList_load_row rfl 35 (.tmp 3) rfl (N) rfl 35 _ (0, 0) _ (unhide E0) Try.underlying35 rfl (wide_info _) ?_ | refine wpList_load_row rfl 35 (.tmp 5) rfl (N + 1 + 1) rfl 35 _ (0, 0) _ (unhide E2) Try.underlying35 rfl (wide_info _) ?_)
  refine (unhide HA _).mono ?_
  rintro e w3 ⟨rfl, hb3⟩
  have Hb3 := hide hb3
  clear hb3
  go_wp2_with (first
    | (refine wpList_store_newV rfl 35 (.tmp 7) (.tmp 39) rfl w3 _ _ (wv x) rfl rfl (wide_info _) rfl (wide_one _) ?_
       intro w4 q4 hb4 z4
       have hb24 : Hid (Below w2.heap.size w2 w4) := (unhide Hb3).trans (hb4.mono (unhide Hb3).size)
       have H4 : Hid (w4.heap[w3.heap.size]? = some (.cells (wv x) 35 (0, 0)) ∧ w4.heap.size = w3.heap.size + 1) := ⟨q4, z4⟩
       clear q4 hb4 z4
       have e0 := hide (Below.at (unhide hb24) (by have := unhide G2; omega) (unhide E0))
       have e1 := hide (Below.at (unhide hb24) (by have := unhide G2; omega) (unhide E1))
       have e2 := hide (Below.at (unhide hb24) (by have := unhide G2; omega) (unhide E2)))
    | refine wpList_load_row rfl 35 (.tmp 4) rfl (N + 1) rfl 35 _ (0, 0) _ (unhide e1) Try.underlying35 rfl (wide_info _) ?_ | refine wpList_load_row rfl 35 (.tmp 5) rfl (N + 1 + 1) rfl 35 _ (0, 0) _ (unhide e2) Try.underlying35 rfl (wide_info _) ?_)
  have z3 := (unhide Hb3).size
  have b4 : Below N w w4 := (unhide F2).trans ((unhide hb24).mono (by have := unhide G2; omega))
  have z4' : N + 3 ≤ w3.heap.size := by have := unhide G2; omega
  have q4 := (unhide H4).1
  have z4 := (unhide H4).2
  generalize w3.heap.size = M at *
  clear Hb3 hb24 z3 E0 E1 E2 F2 G2 H4
  refine (unhide HB _).mono ?_
  rintro e w5 ⟨rfl, hb5⟩
  have z5 := hb5.size
  have p0 := Below.at hb5 (by omega) (unhide e0)
  have p1 := Below.at hb5 (by omega) (unhide e1)
  have p3 := Below.at hb5 (by omega) q4
  have b5 : Below N w w5 := b4.trans (hb5.mono (by omega))
  have y5 : M < w5.heap.size := by omega
  clear e0 e1 e2 q4 z4 b4 hb5 z5
  have P0 := hide p0
  have P1 := hide p1
  have P3 := hide p3
  have B5 := hide b5
  have Y5 := hide y5
  have Z4 := hide z4'
  clear p0 p1 p3 b5 y5 z4'
  go_wp2_with (refine wpList_store_newV rfl 35 (.tmp 9) (.tmp 45) rfl w5 _ _ (wv y) rfl rfl (wide_info _) rfl (wide_one _) ?_; intro w6 q6 hb6 z6)
  have r0 := Below.at hb6 (by have := unhide Y5; have := unhide Z4; omega) (unhide P0)
  have r1 := Below.at hb6 (by have := unhide Y5; have := unhide Z4; omega) (unhide P1)
  have r3 := Below.at hb6 (unhide Y5) (unhide P3)
  have b6 : Below N w w6 := (unhide B5).trans (hb6.mono (by have := unhide Y5; have := unhide Z4; omega))
  have y5 := unhide Y5
  have z4' := unhide Z4
  generalize w5.heap.size = L at *
  have kL : Hid (∀ x y dd os, Calls Try.prog 22 #[.agg (wv x), .agg (wv y)] (Sort.grow (redrawn w6 dd) os) fun e w'' => e = .returned (.bool (decide (x < y))) ∧ ∃ p : Regrown, w'' = Sort.grow (redrawn w6 p.d) p.os) := fun x y dd os => Calls.regrown_of (less_calls x y _)
  have kA : Hid (∀ dd os, Calls Try.prog 8 #[] (Sort.grow (redrawn w6 dd) os) fun e w'' => e = .returned (.bool true) ∧ ∃ p : Regrown, w'' = Sort.grow (redrawn w6 p.d) p.os) := fun dd os => Calls.regrown_of (awake_calls _)
  have R0 : Hid (∀ w', (∃ p : Regrown, w' = Sort.grow (redrawn w6 p.d) p.os) → w'.heap[N]? = some (.cells (wv a) 35 (0, 0))) := fun w' ⟨p, hp⟩ => by
    rw [hp]; exact Below.at (below_regrown w6 p.d p.os) (by omega) r0
  have R1 : Hid (∀ w', (∃ p : Regrown, w' = Sort.grow (redrawn w6 p.d) p.os) → w'.heap[N + 1]? = some (.cells (wv b) 35 (0, 0))) := fun w' ⟨p, hp⟩ => by
    rw [hp]; exact Below.at (below_regrown w6 p.d p.os) (by omega) r1
  have R3 : Hid (∀ w', (∃ p : Regrown, w' = Sort.grow (redrawn w6 p.d) p.os) → w'.heap[M]? = some (.cells (wv x) 35 (0, 0))) := fun w' ⟨p, hp⟩ => by
    rw [hp]; exact Below.at (below_regrown w6 p.d p.os) (by omega) r3
  have R4 : Hid (∀ w', (∃ p : Regrown, w' = Sort.grow (redrawn w6 p.d) p.os) → w'.heap[L]? = some (.cells (wv y) 35 (0, 0))) := fun w' ⟨p, hp⟩ => by
    rw [hp]; exact Below.at (below_regrown w6 p.d p.os) (by omega) q6
  have F6 := hide b6
  have Z6 : Hid (N ≤ w6.heap.size) := hide (by omega)
  clear r0 r1 r3 q6 hb6 z6 b6 P0 P1 P3 B5 Y5 Z4 HE HA HB HL
  go_wp2_with fail
  refine wp_region_below mixed (by kernel_rfl) ?_
  quiet_step (exact unhide kA _ _)
  quiet_step (fail)
  quiet_step (fail)
  rcases unhide hxy with ⟨rfl, rfl, hl⟩ | ⟨rfl, rfl⟩ | rfl
  · rw [d1] at hl
    repeat (go_big_quiet_step (fail))
    refine wpQuiet_load_row rfl 35 (.tmp 7) rfl (M) rfl 35 _ (0, 0) _ (unhide R3) Try.underlying35 rfl (wide_info _) ?_
    refine wpQuiet_load_row rfl 35 (.tmp 9) rfl (L) rfl 35 _ (0, 0) _ (unhide R4) Try.underlying35 rfl (wide_info _) ?_
    quiet_step (exact unhide kL _ _ _ _)
    refine wpQuiet_load_row rfl 35 (.tmp 3) rfl (N) rfl 35 _ (0, 0) _ (unhide R0) Try.underlying35 rfl (wide_info _) ?_
    refine wpQuiet_load_row rfl 35 (.tmp 4) rfl (N + 1) rfl 35 _ (0, 0) _ (unhide R1) Try.underlying35 rfl (wide_info _) ?_
    quiet_step (exact unhide kL _ _ _ _)
    repeat (go_big_quiet_step (fail))
    refine wpQuiet_nil ?_
    intro w7 hb7
    go_wp2
    go_ret
    exact ⟨rfl, by rw [unhide HN]; exact (unhide F6).trans (hb7.mono (unhide Z6))⟩
  · repeat (go_big_quiet_step (fail))
    refine wpQuiet_nil ?_
    intro w7 hb7
    go_wp2
    go_ret
    exact ⟨rfl, by rw [unhide HN]; exact (unhide F6).trans (hb7.mono (unhide Z6))⟩
  · repeat (go_big_quiet_step (fail))
    refine wpQuiet_nil ?_
    intro w7 hb7
    go_wp2
    go_ret
    exact ⟨rfl, by rw [unhide HN]; exact (unhide F6).trans (hb7.mono (unhide Z6))⟩
set_option maxHeartbeats 4000000 in
set_option maxRecDepth 100000 in
theorem amountOrder_eq (a b c : Nat) (ha : a < wmax) (hb : b < wmax) (hc : c < wmax) (hab : a = b) (w : World) :
    Calls Try.prog 7 #[.agg (wv a), .agg (wv b), .agg (wv c)] w fun e w' => e = .returned (.bool true) ∧ Below w.heap.size w w' := by
  have d1 : decide (a < b) = false := by simp; omega
  have d2 : decide (b < a) = false := by simp; omega
  have d3 : decide (a = b) = true := by simpa using hab
  clear hab
  have ia := wide_info a
  have ib := wide_info b
  have ic := wide_info c
  have z2 : (#[.int .u64 0, .int .u64 0] : Array Value).size = 2 := rfl
  have A3 := hide (al3 w (.cells (wv a) 35) (.cells (wv b) 35) (.cells (wv c) 35))
  have B3 := hide (bel3 w (.cells (wv a) 35) (.cells (wv b) 35) (.cells (wv c) 35))
  have S3 : Hid ((((w.alloc (.cells (wv a) 35)).alloc (.cells (wv b) 35)).alloc (.cells (wv c) 35)).heap.size = w.heap.size + 3) := hide (by simp)
  have HE := hide (wide_eql a b)
  obtain ⟨x, ex, HA, hx0⟩ : ∃ (x : Nat) (ex : Int), Hid (∀ w, Calls Try.prog 15 #[.agg (wv a), .agg (wv c)] w fun e w' => e = .returned (.tuple #[.agg (wv x), .int .i64 ex]) ∧ Below w.heap.size w w') ∧ Hid (ex = 0 ∧ x = a + c ∨ ex = 10) := by
    by_cases h : wmax ≤ a + c
    · refine ⟨0, 10, fun w => ?_, .inr rfl⟩
      have := wadd_calls a c ha hc w
      rw [if_pos h] at this
      exact this
    · refine ⟨a + c, 0, fun w => ?_, .inl ⟨rfl, rfl⟩⟩
      have := wadd_calls a c ha hc w
      rw [if_neg h] at this
      exact this
  obtain ⟨y, ey, HB, hy0⟩ : ∃ (x : Nat) (ex : Int), Hid (∀ w, Calls Try.prog 15 #[.agg (wv b), .agg (wv c)] w fun e w' => e = .returned (.tuple #[.agg (wv x), .int .i64 ex]) ∧ Below w.heap.size w w') ∧ Hid (ex = 0 ∧ x = b + c ∨ ex = 10) := by
    by_cases h : wmax ≤ b + c
    · refine ⟨0, 10, fun w => ?_, .inr rfl⟩
      have := wadd_calls b c hb hc w
      rw [if_pos h] at this
      exact this
    · refine ⟨b + c, 0, fun w => ?_, .inl ⟨rfl, rfl⟩⟩
      have := wadd_calls b c hb hc w
      rw [if_neg h] at this
      exact this
  have hxy : Hid (ex = 0 ∧ ey = 0 ∧ decide (x < y) = decide (a < b) ∨ ex = 0 ∧ ey = 10 ∨ ex = 10) := by
    rcases unhide hx0 with ⟨h1, h2⟩ | h1
    · rcases unhide hy0 with ⟨h3, h4⟩ | h3
      · exact .inl ⟨h1, h3, by rw [h2, h4]; apply decide_eq_decide.2; omega⟩
      · exact .inr (.inl ⟨h1, h3⟩)
    · exact .inr (.inr h1)
  have HL := hide less_calls
  clear ha hb hc
  go_enter Try.func7, Try.ntmps7
  go_wp2_with fail
  refine (awake_calls _).mono ?_
  rintro e w1 ⟨rfl, hb1⟩
  have b1 : Below w.heap.size w w1 := (unhide B3).trans (hb1.mono (by have := unhide S3; omega))
  have q0 := Below.at hb1 (by have := unhide S3; omega) (unhide A3).1
  have q1 := Below.at hb1 (by have := unhide S3; omega) (unhide A3).2.1
  have q2 := Below.at hb1 (by have := unhide S3; omega) (unhide A3).2.2
  have z1 : w.heap.size + 3 ≤ w1.heap.size := by have := hb1.size; have := unhide S3; omega
  have kL : Hid (∀ x y dd os, Calls Try.prog 22 #[.agg (wv x), .agg (wv y)] (Sort.grow (redrawn w1 dd) os) fun e w'' => e = .returned (.bool (decide (x < y))) ∧ ∃ p : Regrown, w'' = Sort.grow (redrawn w1 p.d) p.os) := fun x y dd os => Calls.regrown_of (less_calls x y _)
  have R0 : Hid (∀ w', (∃ p : Regrown, w' = Sort.grow (redrawn w1 p.d) p.os) → w'.heap[w.heap.size]? = some (.cells (wv a) 35 (0, 0))) := fun w' ⟨p, hp⟩ => by
    rw [hp]; exact Below.at (below_regrown w1 p.d p.os) (by omega) q0
  have R1 : Hid (∀ w', (∃ p : Regrown, w' = Sort.grow (redrawn w1 p.d) p.os) → w'.heap[w.heap.size + 1]? = some (.cells (wv b) 35 (0, 0))) := fun w' ⟨p, hp⟩ => by
    rw [hp]; exact Below.at (below_regrown w1 p.d p.os) (by omega) q1
  have Z1 := hide z1
  have Q0 := hide q0
  have Q1 := hide q1
  have Q2 := hide q2
  have D1 := hide b1
  clear hb1 b1 q0 q1 q2 A3 B3 S3 z1
  generalize hN : w.heap.size = N at *
  have HN := hide hN
  clear hN hx0 hy0
  go_wp2_with fail
  refine wp_region_below mixed (by kernel_rfl) ?_
  refine wpQuiet_load_row rfl 35 (.tmp 3) rfl (N) rfl 35 _ (0, 0) _ (unhide R0) Try.underlying35 rfl (wide_info _) ?_
  refine wpQuiet_load_row rfl 35 (.tmp 4) rfl (N + 1) rfl 35 _ (0, 0) _ (unhide R1) Try.underlying35 rfl (wide_info _) ?_
  quiet_step (exact unhide kL _ _ _ _)
  rw [d1]
  quiet_step (fail)
  quiet_step (fail)
  quiet_step (fail)
  quiet_step (fail)
  quiet_step (fail)
  quiet_step (fail)
  refine wpQuiet_load_row rfl 35 (.tmp 3) rfl (N) rfl 35 _ (0, 0) _ (unhide R0) Try.underlying35 rfl (wide_info _) ?_
  refine wpQuiet_load_row rfl 35 (.tmp 4) rfl (N + 1) rfl 35 _ (0, 0) _ (unhide R1) Try.underlying35 rfl (wide_info _) ?_
  refine wpQuiet_eql rfl 35 35 (.tmp 22) (.tmp 23) rfl _ _ rfl rfl (by kernel_rfl) _ (unhide HE) ?_
  rw [d3]
  refine wpQuiet_load_row rfl 35 (.tmp 3) rfl (N) rfl 35 _ (0, 0) _ (unhide R0) Try.underlying35 rfl (wide_info _) ?_
  refine wpQuiet_load_row rfl 35 (.tmp 4) rfl (N + 1) rfl 35 _ (0, 0) _ (unhide R1) Try.underlying35 rfl (wide_info _) ?_
  quiet_step (exact unhide kL _ _ _ _)
  rw [d1]
  quiet_step (fail)
  refine wpQuiet_load_row rfl 35 (.tmp 4) rfl (N + 1) rfl 35 _ (0, 0) _ (unhide R1) Try.underlying35 rfl (wide_info _) ?_
  refine wpQuiet_load_row rfl 35 (.tmp 3) rfl (N) rfl 35 _ (0, 0) _ (unhide R0) Try.underlying35 rfl (wide_info _) ?_
  quiet_step (exact unhide kL _ _ _ _)
  rw [d2]
  repeat (go_big_quiet_step (fail))
  refine wpQuiet_nil ?_
  intro w2 hb2
  have z2 := hb2.size
  have q0 := Below.at hb2 (by have := unhide Z1; omega) (unhide Q0)
  have q1 := Below.at hb2 (by have := unhide Z1; omega) (unhide Q1)
  have q2 := Below.at hb2 (by have := unhide Z1; omega) (unhide Q2)
  have b2 : Below N w w2 := (unhide D1).trans (hb2.mono (by have := unhide Z1; omega))
  have z2' : N + 3 ≤ w2.heap.size := by have := unhide Z1; omega
  clear hb2 z2 Q0 Q1 Q2 D1 Z1 R0 R1 kL
  have E0 := hide q0
  have E1 := hide q1
  have E2 := hide q2
  have F2 := hide b2
  have G2 := hide z2'
  clear q0 q1 q2 b2 z2'
  go_wp2_with (first | refine wpList_load_row rfl 35 (.tmp 3) rfl (N) rfl 35 _ (0, 0) _ (unhide E0) Try.underlying35 rfl (wide_info _) ?_ | refine wpList_load_row rfl 35 (.tmp 5) rfl (N + 1 + 1) rfl 35 _ (0, 0) _ (unhide E2) Try.underlying35 rfl (wide_info _) ?_)
  refine (unhide HA _).mono ?_
  rintro e w3 ⟨rfl, hb3⟩
  have Hb3 := hide hb3
  clear hb3
  go_wp2_with (first
    | (refine wpList_store_newV rfl 35 (.tmp 7) (.tmp 39) rfl w3 _ _ (wv x) rfl rfl (wide_info _) rfl (wide_one _) ?_
       intro w4 q4 hb4 z4
       have hb24 : Hid (Below w2.heap.size w2 w4) := (unhide Hb3).trans (hb4.mono (unhide Hb3).size)
       have H4 : Hid (w4.heap[w3.heap.size]? = some (.cells (wv x) 35 (0, 0)) ∧ w4.heap.size = w3.heap.size + 1) := ⟨q4, z4⟩
       clear q4 hb4 z4
       have e0 := hide (Below.at (unhide hb24) (by have := unhide G2; omega) (unhide E0))
       have e1 := hide (Below.at (unhide hb24) (by have := unhide G2; omega) (unhide E1))
       have e2 := hide (Below.at (unhide hb24) (by have := unhide G2; omega) (unhide E2)))
    | refine wpList_load_row rfl 35 (.tmp 4) rfl (N + 1) rfl 35 _ (0, 0) _ (unhide e1) Try.underlying35 rfl (wide_info _) ?_ | refine wpList_load_row rfl 35 (.tmp 5) rfl (N + 1 + 1) rfl 35 _ (0, 0) _ (unhide e2) Try.underlying35 rfl (wide_info _) ?_)
  have z3 := (unhide Hb3).size
  have b4 : Below N w w4 := (unhide F2).trans ((unhide hb24).mono (by have := unhide G2; omega))
  have z4' : N + 3 ≤ w3.heap.size := by have := unhide G2; omega
  have q4 := (unhide H4).1
  have z4 := (unhide H4).2
  generalize w3.heap.size = M at *
  clear Hb3 hb24 z3 E0 E1 E2 F2 G2 H4
  refine (unhide HB _).mono ?_
  rintro e w5 ⟨rfl, hb5⟩
  have z5 := hb5.size
  have p0 := Below.at hb5 (by omega) (unhide e0)
  have p1 := Below.at hb5 (by omega) (unhide e1)
  have p3 := Below.at hb5 (by omega) q4
  have b5 : Below N w w5 := b4.trans (hb5.mono (by omega))
  have y5 : M < w5.heap.size := by omega
  clear e0 e1 e2 q4 z4 b4 hb5 z5
  have P0 := hide p0
  have P1 := hide p1
  have P3 := hide p3
  have B5 := hide b5
  have Y5 := hide y5
  have Z4 := hide z4'
  clear p0 p1 p3 b5 y5 z4'
  go_wp2_with (refine wpList_store_newV rfl 35 (.tmp 9) (.tmp 45) rfl w5 _ _ (wv y) rfl rfl (wide_info _) rfl (wide_one _) ?_; intro w6 q6 hb6 z6)
  have r0 := Below.at hb6 (by have := unhide Y5; have := unhide Z4; omega) (unhide P0)
  have r1 := Below.at hb6 (by have := unhide Y5; have := unhide Z4; omega) (unhide P1)
  have r3 := Below.at hb6 (unhide Y5) (unhide P3)
  have b6 : Below N w w6 := (unhide B5).trans (hb6.mono (by have := unhide Y5; have := unhide Z4; omega))
  have y5 := unhide Y5
  have z4' := unhide Z4
  generalize w5.heap.size = L at *
  have kL : Hid (∀ x y dd os, Calls Try.prog 22 #[.agg (wv x), .agg (wv y)] (Sort.grow (redrawn w6 dd) os) fun e w'' => e = .returned (.bool (decide (x < y))) ∧ ∃ p : Regrown, w'' = Sort.grow (redrawn w6 p.d) p.os) := fun x y dd os => Calls.regrown_of (less_calls x y _)
  have kA : Hid (∀ dd os, Calls Try.prog 8 #[] (Sort.grow (redrawn w6 dd) os) fun e w'' => e = .returned (.bool true) ∧ ∃ p : Regrown, w'' = Sort.grow (redrawn w6 p.d) p.os) := fun dd os => Calls.regrown_of (awake_calls _)
  have R0 : Hid (∀ w', (∃ p : Regrown, w' = Sort.grow (redrawn w6 p.d) p.os) → w'.heap[N]? = some (.cells (wv a) 35 (0, 0))) := fun w' ⟨p, hp⟩ => by
    rw [hp]; exact Below.at (below_regrown w6 p.d p.os) (by omega) r0
  have R1 : Hid (∀ w', (∃ p : Regrown, w' = Sort.grow (redrawn w6 p.d) p.os) → w'.heap[N + 1]? = some (.cells (wv b) 35 (0, 0))) := fun w' ⟨p, hp⟩ => by
    rw [hp]; exact Below.at (below_regrown w6 p.d p.os) (by omega) r1
  have R3 : Hid (∀ w', (∃ p : Regrown, w' = Sort.grow (redrawn w6 p.d) p.os) → w'.heap[M]? = some (.cells (wv x) 35 (0, 0))) := fun w' ⟨p, hp⟩ => by
    rw [hp]; exact Below.at (below_regrown w6 p.d p.os) (by omega) r3
  have R4 : Hid (∀ w', (∃ p : Regrown, w' = Sort.grow (redrawn w6 p.d) p.os) → w'.heap[L]? = some (.cells (wv y) 35 (0, 0))) := fun w' ⟨p, hp⟩ => by
    rw [hp]; exact Below.at (below_regrown w6 p.d p.os) (by omega) q6
  have F6 := hide b6
  have Z6 : Hid (N ≤ w6.heap.size) := hide (by omega)
  clear r0 r1 r3 q6 hb6 z6 b6 P0 P1 P3 B5 Y5 Z4 HE HA HB HL
  go_wp2_with fail
  refine wp_region_below mixed (by kernel_rfl) ?_
  quiet_step (exact unhide kA _ _)
  quiet_step (fail)
  quiet_step (fail)
  rcases unhide hxy with ⟨rfl, rfl, hl⟩ | ⟨rfl, rfl⟩ | rfl
  · rw [d1] at hl
    repeat (go_big_quiet_step (fail))
    refine wpQuiet_load_row rfl 35 (.tmp 7) rfl (M) rfl 35 _ (0, 0) _ (unhide R3) Try.underlying35 rfl (wide_info _) ?_
    refine wpQuiet_load_row rfl 35 (.tmp 9) rfl (L) rfl 35 _ (0, 0) _ (unhide R4) Try.underlying35 rfl (wide_info _) ?_
    quiet_step (exact unhide kL _ _ _ _)
    refine wpQuiet_load_row rfl 35 (.tmp 3) rfl (N) rfl 35 _ (0, 0) _ (unhide R0) Try.underlying35 rfl (wide_info _) ?_
    refine wpQuiet_load_row rfl 35 (.tmp 4) rfl (N + 1) rfl 35 _ (0, 0) _ (unhide R1) Try.underlying35 rfl (wide_info _) ?_
    quiet_step (exact unhide kL _ _ _ _)
    repeat (go_big_quiet_step (fail))
    refine wpQuiet_nil ?_
    intro w7 hb7
    go_wp2
    go_ret
    exact ⟨rfl, by rw [unhide HN]; exact (unhide F6).trans (hb7.mono (unhide Z6))⟩
  · repeat (go_big_quiet_step (fail))
    refine wpQuiet_nil ?_
    intro w7 hb7
    go_wp2
    go_ret
    exact ⟨rfl, by rw [unhide HN]; exact (unhide F6).trans (hb7.mono (unhide Z6))⟩
  · repeat (go_big_quiet_step (fail))
    refine wpQuiet_nil ?_
    intro w7 hb7
    go_wp2
    go_ret
    exact ⟨rfl, by rw [unhide HN]; exact (unhide F6).trans (hb7.mono (unhide Z6))⟩
set_option maxHeartbeats 4000000 in
set_option maxRecDepth 100000 in
theorem amountOrder_gt (a b c : Nat) (ha : a < wmax) (hb : b < wmax) (hc : c < wmax) (hab : b < a) (w : World) :
    Calls Try.prog 7 #[.agg (wv a), .agg (wv b), .agg (wv c)] w fun e w' => e = .returned (.bool true) ∧ Below w.heap.size w w' := by
  have d1 : decide (a < b) = false := by simp; omega
  have d2 : decide (b < a) = true := by simpa using hab
  have d3 : decide (a = b) = false := by simp; omega
  clear hab
  have ia := wide_info a
  have ib := wide_info b
  have ic := wide_info c
  have z2 : (#[.int .u64 0, .int .u64 0] : Array Value).size = 2 := rfl
  have A3 := hide (al3 w (.cells (wv a) 35) (.cells (wv b) 35) (.cells (wv c) 35))
  have B3 := hide (bel3 w (.cells (wv a) 35) (.cells (wv b) 35) (.cells (wv c) 35))
  have S3 : Hid ((((w.alloc (.cells (wv a) 35)).alloc (.cells (wv b) 35)).alloc (.cells (wv c) 35)).heap.size = w.heap.size + 3) := hide (by simp)
  have HE := hide (wide_eql a b)
  obtain ⟨x, ex, HA, hx0⟩ : ∃ (x : Nat) (ex : Int), Hid (∀ w, Calls Try.prog 15 #[.agg (wv a), .agg (wv c)] w fun e w' => e = .returned (.tuple #[.agg (wv x), .int .i64 ex]) ∧ Below w.heap.size w w') ∧ Hid (ex = 0 ∧ x = a + c ∨ ex = 10) := by
    by_cases h : wmax ≤ a + c
    · refine ⟨0, 10, fun w => ?_, .inr rfl⟩
      have := wadd_calls a c ha hc w
      rw [if_pos h] at this
      exact this
    · refine ⟨a + c, 0, fun w => ?_, .inl ⟨rfl, rfl⟩⟩
      have := wadd_calls a c ha hc w
      rw [if_neg h] at this
      exact this
  obtain ⟨y, ey, HB, hy0⟩ : ∃ (x : Nat) (ex : Int), Hid (∀ w, Calls Try.prog 15 #[.agg (wv b), .agg (wv c)] w fun e w' => e = .returned (.tuple #[.agg (wv x), .int .i64 ex]) ∧ Below w.heap.size w w') ∧ Hid (ex = 0 ∧ x = b + c ∨ ex = 10) := by
    by_cases h : wmax ≤ b + c
    · refine ⟨0, 10, fun w => ?_, .inr rfl⟩
      have := wadd_calls b c hb hc w
      rw [if_pos h] at this
      exact this
    · refine ⟨b + c, 0, fun w => ?_, .inl ⟨rfl, rfl⟩⟩
      have := wadd_calls b c hb hc w
      rw [if_neg h] at this
      exact this
  have hxy : Hid (ex = 0 ∧ ey = 0 ∧ decide (x < y) = decide (a < b) ∨ ex = 0 ∧ ey = 10 ∨ ex = 10) := by
    rcases unhide hx0 with ⟨h1, h2⟩ | h1
    · rcases unhide hy0 with ⟨h3, h4⟩ | h3
      · exact .inl ⟨h1, h3, by rw [h2, h4]; apply decide_eq_decide.2; omega⟩
      · exact .inr (.inl ⟨h1, h3⟩)
    · exact .inr (.inr h1)
  have HL := hide less_calls
  clear ha hb hc
  go_enter Try.func7, Try.ntmps7
  go_wp2_with fail
  refine (awake_calls _).mono ?_
  rintro e w1 ⟨rfl, hb1⟩
  have b1 : Below w.heap.size w w1 := (unhide B3).trans (hb1.mono (by have := unhide S3; omega))
  have q0 := Below.at hb1 (by have := unhide S3; omega) (unhide A3).1
  have q1 := Below.at hb1 (by have := unhide S3; omega) (unhide A3).2.1
  have q2 := Below.at hb1 (by have := unhide S3; omega) (unhide A3).2.2
  have z1 : w.heap.size + 3 ≤ w1.heap.size := by have := hb1.size; have := unhide S3; omega
  have kL : Hid (∀ x y dd os, Calls Try.prog 22 #[.agg (wv x), .agg (wv y)] (Sort.grow (redrawn w1 dd) os) fun e w'' => e = .returned (.bool (decide (x < y))) ∧ ∃ p : Regrown, w'' = Sort.grow (redrawn w1 p.d) p.os) := fun x y dd os => Calls.regrown_of (less_calls x y _)
  have R0 : Hid (∀ w', (∃ p : Regrown, w' = Sort.grow (redrawn w1 p.d) p.os) → w'.heap[w.heap.size]? = some (.cells (wv a) 35 (0, 0))) := fun w' ⟨p, hp⟩ => by
    rw [hp]; exact Below.at (below_regrown w1 p.d p.os) (by omega) q0
  have R1 : Hid (∀ w', (∃ p : Regrown, w' = Sort.grow (redrawn w1 p.d) p.os) → w'.heap[w.heap.size + 1]? = some (.cells (wv b) 35 (0, 0))) := fun w' ⟨p, hp⟩ => by
    rw [hp]; exact Below.at (below_regrown w1 p.d p.os) (by omega) q1
  have Z1 := hide z1
  have Q0 := hide q0
  have Q1 := hide q1
  have Q2 := hide q2
  have D1 := hide b1
  clear hb1 b1 q0 q1 q2 A3 B3 S3 z1
  generalize hN : w.heap.size = N at *
  have HN := hide hN
  clear hN hx0 hy0
  go_wp2_with fail
  refine wp_region_below mixed (by kernel_rfl) ?_
  refine wpQuiet_load_row rfl 35 (.tmp 3) rfl (N) rfl 35 _ (0, 0) _ (unhide R0) Try.underlying35 rfl (wide_info _) ?_
  refine wpQuiet_load_row rfl 35 (.tmp 4) rfl (N + 1) rfl 35 _ (0, 0) _ (unhide R1) Try.underlying35 rfl (wide_info _) ?_
  quiet_step (exact unhide kL _ _ _ _)
  rw [d1]
  quiet_step (fail)
  quiet_step (fail)
  quiet_step (fail)
  quiet_step (fail)
  quiet_step (fail)
  quiet_step (fail)
  refine wpQuiet_load_row rfl 35 (.tmp 3) rfl (N) rfl 35 _ (0, 0) _ (unhide R0) Try.underlying35 rfl (wide_info _) ?_
  refine wpQuiet_load_row rfl 35 (.tmp 4) rfl (N + 1) rfl 35 _ (0, 0) _ (unhide R1) Try.underlying35 rfl (wide_info _) ?_
  refine wpQuiet_eql rfl 35 35 (.tmp 22) (.tmp 23) rfl _ _ rfl rfl (by kernel_rfl) _ (unhide HE) ?_
  rw [d3]
  refine wpQuiet_load_row rfl 35 (.tmp 3) rfl (N) rfl 35 _ (0, 0) _ (unhide R0) Try.underlying35 rfl (wide_info _) ?_
  refine wpQuiet_load_row rfl 35 (.tmp 4) rfl (N + 1) rfl 35 _ (0, 0) _ (unhide R1) Try.underlying35 rfl (wide_info _) ?_
  quiet_step (exact unhide kL _ _ _ _)
  rw [d1]
  quiet_step (fail)
  refine wpQuiet_load_row rfl 35 (.tmp 4) rfl (N + 1) rfl 35 _ (0, 0) _ (unhide R1) Try.underlying35 rfl (wide_info _) ?_
  refine wpQuiet_load_row rfl 35 (.tmp 3) rfl (N) rfl 35 _ (0, 0) _ (unhide R0) Try.underlying35 rfl (wide_info _) ?_
  quiet_step (exact unhide kL _ _ _ _)
  rw [d2]
  repeat (go_big_quiet_step (fail))
  refine wpQuiet_nil ?_
  intro w2 hb2
  have z2 := hb2.size
  have q0 := Below.at hb2 (by have := unhide Z1; omega) (unhide Q0)
  have q1 := Below.at hb2 (by have := unhide Z1; omega) (unhide Q1)
  have q2 := Below.at hb2 (by have := unhide Z1; omega) (unhide Q2)
  have b2 : Below N w w2 := (unhide D1).trans (hb2.mono (by have := unhide Z1; omega))
  have z2' : N + 3 ≤ w2.heap.size := by have := unhide Z1; omega
  clear hb2 z2 Q0 Q1 Q2 D1 Z1 R0 R1 kL
  have E0 := hide q0
  have E1 := hide q1
  have E2 := hide q2
  have F2 := hide b2
  have G2 := hide z2'
  clear q0 q1 q2 b2 z2'
  go_wp2_with (first | refine wpList_load_row rfl 35 (.tmp 3) rfl (N) rfl 35 _ (0, 0) _ (unhide E0) Try.underlying35 rfl (wide_info _) ?_ | refine wpList_load_row rfl 35 (.tmp 5) rfl (N + 1 + 1) rfl 35 _ (0, 0) _ (unhide E2) Try.underlying35 rfl (wide_info _) ?_)
  refine (unhide HA _).mono ?_
  rintro e w3 ⟨rfl, hb3⟩
  have Hb3 := hide hb3
  clear hb3
  go_wp2_with (first
    | (refine wpList_store_newV rfl 35 (.tmp 7) (.tmp 39) rfl w3 _ _ (wv x) rfl rfl (wide_info _) rfl (wide_one _) ?_
       intro w4 q4 hb4 z4
       have hb24 : Hid (Below w2.heap.size w2 w4) := (unhide Hb3).trans (hb4.mono (unhide Hb3).size)
       have H4 : Hid (w4.heap[w3.heap.size]? = some (.cells (wv x) 35 (0, 0)) ∧ w4.heap.size = w3.heap.size + 1) := ⟨q4, z4⟩
       clear q4 hb4 z4
       have e0 := hide (Below.at (unhide hb24) (by have := unhide G2; omega) (unhide E0))
       have e1 := hide (Below.at (unhide hb24) (by have := unhide G2; omega) (unhide E1))
       have e2 := hide (Below.at (unhide hb24) (by have := unhide G2; omega) (unhide E2)))
    | refine wpList_load_row rfl 35 (.tmp 4) rfl (N + 1) rfl 35 _ (0, 0) _ (unhide e1) Try.underlying35 rfl (wide_info _) ?_ | refine wpList_load_row rfl 35 (.tmp 5) rfl (N + 1 + 1) rfl 35 _ (0, 0) _ (unhide e2) Try.underlying35 rfl (wide_info _) ?_)
  have z3 := (unhide Hb3).size
  have b4 : Below N w w4 := (unhide F2).trans ((unhide hb24).mono (by have := unhide G2; omega))
  have z4' : N + 3 ≤ w3.heap.size := by have := unhide G2; omega
  have q4 := (unhide H4).1
  have z4 := (unhide H4).2
  generalize w3.heap.size = M at *
  clear Hb3 hb24 z3 E0 E1 E2 F2 G2 H4
  refine (unhide HB _).mono ?_
  rintro e w5 ⟨rfl, hb5⟩
  have z5 := hb5.size
  have p0 := Below.at hb5 (by omega) (unhide e0)
  have p1 := Below.at hb5 (by omega) (unhide e1)
  have p3 := Below.at hb5 (by omega) q4
  have b5 : Below N w w5 := b4.trans (hb5.mono (by omega))
  have y5 : M < w5.heap.size := by omega
  clear e0 e1 e2 q4 z4 b4 hb5 z5
  have P0 := hide p0
  have P1 := hide p1
  have P3 := hide p3
  have B5 := hide b5
  have Y5 := hide y5
  have Z4 := hide z4'
  clear p0 p1 p3 b5 y5 z4'
  go_wp2_with (refine wpList_store_newV rfl 35 (.tmp 9) (.tmp 45) rfl w5 _ _ (wv y) rfl rfl (wide_info _) rfl (wide_one _) ?_; intro w6 q6 hb6 z6)
  have r0 := Below.at hb6 (by have := unhide Y5; have := unhide Z4; omega) (unhide P0)
  have r1 := Below.at hb6 (by have := unhide Y5; have := unhide Z4; omega) (unhide P1)
  have r3 := Below.at hb6 (unhide Y5) (unhide P3)
  have b6 : Below N w w6 := (unhide B5).trans (hb6.mono (by have := unhide Y5; have := unhide Z4; omega))
  have y5 := unhide Y5
  have z4' := unhide Z4
  generalize w5.heap.size = L at *
  have kL : Hid (∀ x y dd os, Calls Try.prog 22 #[.agg (wv x), .agg (wv y)] (Sort.grow (redrawn w6 dd) os) fun e w'' => e = .returned (.bool (decide (x < y))) ∧ ∃ p : Regrown, w'' = Sort.grow (redrawn w6 p.d) p.os) := fun x y dd os => Calls.regrown_of (less_calls x y _)
  have kA : Hid (∀ dd os, Calls Try.prog 8 #[] (Sort.grow (redrawn w6 dd) os) fun e w'' => e = .returned (.bool true) ∧ ∃ p : Regrown, w'' = Sort.grow (redrawn w6 p.d) p.os) := fun dd os => Calls.regrown_of (awake_calls _)
  have R0 : Hid (∀ w', (∃ p : Regrown, w' = Sort.grow (redrawn w6 p.d) p.os) → w'.heap[N]? = some (.cells (wv a) 35 (0, 0))) := fun w' ⟨p, hp⟩ => by
    rw [hp]; exact Below.at (below_regrown w6 p.d p.os) (by omega) r0
  have R1 : Hid (∀ w', (∃ p : Regrown, w' = Sort.grow (redrawn w6 p.d) p.os) → w'.heap[N + 1]? = some (.cells (wv b) 35 (0, 0))) := fun w' ⟨p, hp⟩ => by
    rw [hp]; exact Below.at (below_regrown w6 p.d p.os) (by omega) r1
  have R3 : Hid (∀ w', (∃ p : Regrown, w' = Sort.grow (redrawn w6 p.d) p.os) → w'.heap[M]? = some (.cells (wv x) 35 (0, 0))) := fun w' ⟨p, hp⟩ => by
    rw [hp]; exact Below.at (below_regrown w6 p.d p.os) (by omega) r3
  have R4 : Hid (∀ w', (∃ p : Regrown, w' = Sort.grow (redrawn w6 p.d) p.os) → w'.heap[L]? = some (.cells (wv y) 35 (0, 0))) := fun w' ⟨p, hp⟩ => by
    rw [hp]; exact Below.at (below_regrown w6 p.d p.os) (by omega) q6
  have F6 := hide b6
  have Z6 : Hid (N ≤ w6.heap.size) := hide (by omega)
  clear r0 r1 r3 q6 hb6 z6 b6 P0 P1 P3 B5 Y5 Z4 HE HA HB HL
  go_wp2_with fail
  refine wp_region_below mixed (by kernel_rfl) ?_
  quiet_step (exact unhide kA _ _)
  quiet_step (fail)
  quiet_step (fail)
  rcases unhide hxy with ⟨rfl, rfl, hl⟩ | ⟨rfl, rfl⟩ | rfl
  · rw [d1] at hl
    repeat (go_big_quiet_step (fail))
    refine wpQuiet_load_row rfl 35 (.tmp 7) rfl (M) rfl 35 _ (0, 0) _ (unhide R3) Try.underlying35 rfl (wide_info _) ?_
    refine wpQuiet_load_row rfl 35 (.tmp 9) rfl (L) rfl 35 _ (0, 0) _ (unhide R4) Try.underlying35 rfl (wide_info _) ?_
    quiet_step (exact unhide kL _ _ _ _)
    refine wpQuiet_load_row rfl 35 (.tmp 3) rfl (N) rfl 35 _ (0, 0) _ (unhide R0) Try.underlying35 rfl (wide_info _) ?_
    refine wpQuiet_load_row rfl 35 (.tmp 4) rfl (N + 1) rfl 35 _ (0, 0) _ (unhide R1) Try.underlying35 rfl (wide_info _) ?_
    quiet_step (exact unhide kL _ _ _ _)
    repeat (go_big_quiet_step (fail))
    refine wpQuiet_nil ?_
    intro w7 hb7
    go_wp2
    go_ret
    exact ⟨rfl, by rw [unhide HN]; exact (unhide F6).trans (hb7.mono (unhide Z6))⟩
  · repeat (go_big_quiet_step (fail))
    refine wpQuiet_nil ?_
    intro w7 hb7
    go_wp2
    go_ret
    exact ⟨rfl, by rw [unhide HN]; exact (unhide F6).trans (hb7.mono (unhide Z6))⟩
  · repeat (go_big_quiet_step (fail))
    refine wpQuiet_nil ?_
    intro w7 hb7
    go_wp2
    go_ret
    exact ⟨rfl, by rw [unhide HN]; exact (unhide F6).trans (hb7.mono (unhide Z6))⟩
theorem amountOrder_walk (a b c : Nat) (ha : a < wmax) (hb : b < wmax) (hc : c < wmax) (w : World) :
    Calls Try.prog 7 #[.agg (wv a), .agg (wv b), .agg (wv c)] w fun e w' => e = .returned (.bool true) ∧ Below w.heap.size w w' := by
  rcases Nat.lt_trichotomy a b with hab | hab | hab
  · exact amountOrder_lt a b c ha hb hc hab w
  · exact amountOrder_eq a b c ha hb hc hab w
  · exact amountOrder_gt a b c ha hb hc hab w
end Go.Proofs.Ytajeicabfcelaaa
