/-
  WHAT amount's Less AND A WIDE NUMBER'S Add AND Sub RETURN: of numbers below 2^128.
-/
import Derived.Test.YtfdnpmanepoblaaAmtB
namespace Go.Proofs.Ytfdnpmanepoblaa
open Go.RowKit
set_option linter.unusedSimpArgs false
set_option linter.unusedVariables false

/-- A wide number. -/
def wv (n : Nat) : Array Value := #[.int .u64 ((n / 18446744073709551616 : Nat) : Int), .int .u64 ((n % 18446744073709551616 : Nat) : Int)]
theorem wv_eq (h l : Nat) (hl : l < 18446744073709551616) : wv (h * 18446744073709551616 + l) = #[.int .u64 (h : Int), .int .u64 (l : Int)] := by
  unfold wv
  rw [show (h * 18446744073709551616 + l) / 18446744073709551616 = h by omega, show (h * 18446744073709551616 + l) % 18446744073709551616 = l by omega]
theorem carry_iff (ah al bh bl c l : Nat) (h : al + bl = 18446744073709551616 * c + l) (hl : l < 18446744073709551616) : (340282366920938463463374607431768211456 ≤ ah * 18446744073709551616 + al + (bh * 18446744073709551616 + bl)) ↔ 18446744073709551616 ≤ ah + bh + c := by omega
theorem carry_sum (ah al bh bl c l : Nat) (h : al + bl = 18446744073709551616 * c + l) : ah * 18446744073709551616 + al + (bh * 18446744073709551616 + bl) = (ah + bh + c) * 18446744073709551616 + l := by omega
abbrev wmax : Nat := 340282366920938463463374607431768211456
set_option maxHeartbeats 1000000 in
theorem less_calls (a b : Nat) (w : World) :
    Calls Try.prog 12 #[.agg (wv a), .agg (wv b)] w fun e w' => e = .returned (.bool (decide (a < b))) ∧ Below w.heap.size w w' := by
  unfold wv
  have e : decide (a < b) = if a / 18446744073709551616 = b / 18446744073709551616 then decide (a % 18446744073709551616 < b % 18446744073709551616) else decide (a / 18446744073709551616 < b / 18446744073709551616) := by
    split <;> (apply decide_eq_decide.2; omega)
  rw [e]
  generalize a / 18446744073709551616 = ah
  generalize a % 18446744073709551616 = al
  generalize b / 18446744073709551616 = bh
  generalize b % 18446744073709551616 = bl
  have hb := bel2 w (.cells #[.int .u64 (ah : Int), .int .u64 (al : Int)] 25) (.cells #[.int .u64 (bh : Int), .int .u64 (bl : Int)] 25)
  go_enter Try.func12, Try.ntmps12
  by_cases h : ah = bh
  · rw [if_pos h]
    subst h
    go_wp2
    go_ret
    exact ⟨rfl, hb⟩
  · rw [if_neg h]
    go_wp2
    go_ret
    exact ⟨rfl, hb⟩
set_option maxHeartbeats 1000000 in
theorem wadd_calls (a b : Nat) (ha : a < wmax) (hb : b < wmax) (w : World) :
    Calls Try.prog 5 #[.agg (wv a), .agg (wv b)] w fun e w' => e = .returned (if wmax ≤ a + b then .tuple #[.agg (wv 0), .int .i64 10] else .tuple #[.agg (wv (a + b)), .int .i64 0]) ∧ Below w.heap.size w w' := by
  unfold wmax at *
  obtain ⟨ah, al, rfl, hah, hal⟩ : ∃ h l, a = h * 18446744073709551616 + l ∧ h < 18446744073709551616 ∧ l < 18446744073709551616 := ⟨a / 18446744073709551616, a % 18446744073709551616, by omega, by omega, by omega⟩
  obtain ⟨bh, bl, rfl, hbh, hbl⟩ : ∃ h l, b = h * 18446744073709551616 + l ∧ h < 18446744073709551616 ∧ l < 18446744073709551616 := ⟨b / 18446744073709551616, b % 18446744073709551616, by omega, by omega, by omega⟩
  rw [wv_eq ah al hal, wv_eq bh bl hbl]
  have e1 : (340282366920938463463374607431768211456 ≤ ah * 18446744073709551616 + al + (bh * 18446744073709551616 + bl)) ↔ 18446744073709551616 ≤ ah + bh + (al + bl) / 18446744073709551616 := carry_iff _ _ _ _ _ _ (Nat.div_add_mod _ _).symm (Nat.mod_lt _ (by decide))
  have e2 : ¬ 18446744073709551616 ≤ ah + bh + (al + bl) / 18446744073709551616 → wv (ah * 18446744073709551616 + al + (bh * 18446744073709551616 + bl)) = #[.int .u64 ((ah + bh + (al + bl) / 18446744073709551616 : Nat) : Int), .int .u64 (((al + bl) % 18446744073709551616 : Nat) : Int)] := fun h => by
    rw [carry_sum _ _ _ _ _ _ (Nat.div_add_mod _ _).symm, wv_eq _ _ (Nat.mod_lt _ (by decide))]
  simp only [e1]
  have s1 : ∀ w, (callFunc 15 #[.int .u64 (al : Int), .int .u64 (bl : Int), .int .u64 0]).run Try.prog w =
      .ok (.value (.tuple #[.int .u64 (((al + bl) % 18446744073709551616 : Nat) : Int), .int .u64 (((al + bl) / 18446744073709551616 : Nat) : Int)])) w := fun w => add64_run al bl 0 (by omega) w
  have hc : (al + bl) / 18446744073709551616 ≤ 1 := by omega
  generalize (al + bl) / 18446744073709551616 = c at *
  generalize (al + bl) % 18446744073709551616 = low at *
  have s2 : ∀ w, (callFunc 15 #[.int .u64 (ah : Int), .int .u64 (bh : Int), .int .u64 (c : Int)]).run Try.prog w =
      .ok (.value (.tuple #[.int .u64 (((ah + bh + c) % 18446744073709551616 : Nat) : Int), .int .u64 (((ah + bh + c) / 18446744073709551616 : Nat) : Int)])) w := fun w => add64_run ah bh c hc w
  have E2 := hide e2
  clear e1 e2 ha hb
  have hb := bel3 w (.cells #[.int .u64 (ah : Int), .int .u64 (al : Int)] 25) (.cells #[.int .u64 (bh : Int), .int .u64 (bl : Int)] 25) (.cells #[.int .u64 0, .int .u64 0] 25)
  go_enter Try.func5, Try.ntmps5
  by_cases h : 18446744073709551616 ≤ ah + bh + c
  · rw [if_pos h]
    have e3 : (ah + bh + c) / 18446744073709551616 = 1 := by omega
    rw [e3] at s2
    generalize (ah + bh + c) % 18446744073709551616 = high at *
    go_wp2_with (first | simp only [s1] | simp only [s2])
    exact bodyPost_ret (results_row_tmp rfl _ _ (w.heap.size + 1 + 1) _ _ _ _ rfl (al3 w _ _ _).2.2 Try.underlying25 rfl (show (Try.prog.info? 25).map (·.size) = some 2 by kernel_rfl)) rfl ⟨rfl, bel3 w _ _ _⟩
  · rw [if_neg h]
    have e3 : (ah + bh + c) / 18446744073709551616 = 0 := by omega
    have e4 : (ah + bh + c) % 18446744073709551616 = ah + bh + c := by omega
    rw [e3, e4] at s2
    rw [unhide E2 h]
    generalize ah + bh + c = high at *
    go_wp2_with (first | simp only [s1] | simp only [s2])
    exact bodyPost_ret (results_row_tmp rfl _ _ (w.heap.size + 1 + 1) _ _ _ _ rfl (al3 w _ _ _).2.2 Try.underlying25 rfl (show (Try.prog.info? 25).map (·.size) = some 2 by kernel_rfl)) rfl ⟨rfl, bel3 w _ _ _⟩
theorem bor_iff (ah al bh bl c l : Nat) (hal : al < 18446744073709551616) (hbl : bl < 18446744073709551616) (hc : c = if al < bl then 1 else 0) : (ah * 18446744073709551616 + al < bh * 18446744073709551616 + bl) ↔ ah < bh + c := by
  split at hc <;> omega
theorem bor_sum (ah al bh bl c l : Nat) (hal : al < 18446744073709551616) (hbl : bl < 18446744073709551616) (hc : c = if al < bl then 1 else 0) (hl : l = (al + 18446744073709551616 - bl - 0) % 18446744073709551616) (h : ¬ ah < bh + c) : (ah * 18446744073709551616 + al) - (bh * 18446744073709551616 + bl) = (ah - bh - c) * 18446744073709551616 + l := by
  split at hc <;> omega
set_option maxHeartbeats 1000000 in
theorem wsub_calls (a b : Nat) (ha : a < wmax) (hb : b < wmax) (w : World) :
    Calls Try.prog 8 #[.agg (wv a), .agg (wv b)] w fun e w' => e = .returned (if a < b then .tuple #[.agg (wv 0), .int .i64 11] else .tuple #[.agg (wv (a - b)), .int .i64 0]) ∧ Below w.heap.size w w' := by
  unfold wmax at *
  obtain ⟨ah, al, rfl, hah, hal⟩ : ∃ h l, a = h * 18446744073709551616 + l ∧ h < 18446744073709551616 ∧ l < 18446744073709551616 := ⟨a / 18446744073709551616, a % 18446744073709551616, by omega, by omega, by omega⟩
  obtain ⟨bh, bl, rfl, hbh, hbl⟩ : ∃ h l, b = h * 18446744073709551616 + l ∧ h < 18446744073709551616 ∧ l < 18446744073709551616 := ⟨b / 18446744073709551616, b % 18446744073709551616, by omega, by omega, by omega⟩
  rw [wv_eq ah al hal, wv_eq bh bl hbl]
  have s1 : ∀ w, (callFunc 17 #[.int .u64 (al : Int), .int .u64 (bl : Int), .int .u64 0]).run Try.prog w =
      .ok (.value (.tuple #[.int .u64 (((al + 18446744073709551616 - bl - 0) % 18446744073709551616 : Nat) : Int), .int .u64 ((if al < bl + 0 then 1 else 0 : Nat) : Int)])) w := fun w => sub64_run al bl 0 (by omega) w
  rw [Nat.add_zero] at s1
  have hll : (al + 18446744073709551616 - bl - 0) % 18446744073709551616 < 18446744073709551616 := Nat.mod_lt _ (by decide)
  generalize hl : (al + 18446744073709551616 - bl - 0) % 18446744073709551616 = low at *
  generalize hcc : (if al < bl then 1 else 0) = c at *
  have hc : c ≤ 1 := by rw [← hcc]; split <;> omega
  simp only [bor_iff ah al bh bl c low hal hbl hcc.symm]
  have e2 : ¬ ah < bh + c → wv (ah * 18446744073709551616 + al - (bh * 18446744073709551616 + bl)) = #[.int .u64 ((ah - bh - c : Nat) : Int), .int .u64 (low : Int)] := fun h => by
    rw [bor_sum ah al bh bl c low hal hbl hcc.symm hl.symm h, wv_eq _ _ hll]
  have s2 : ∀ w, (callFunc 17 #[.int .u64 (ah : Int), .int .u64 (bh : Int), .int .u64 (c : Int)]).run Try.prog w =
      .ok (.value (.tuple #[.int .u64 (((ah + 18446744073709551616 - bh - c) % 18446744073709551616 : Nat) : Int), .int .u64 ((if ah < bh + c then 1 else 0 : Nat) : Int)])) w := fun w => sub64_run ah bh c hc w
  have E2 := hide e2
  clear e2 ha hb hl hcc hll
  go_enter Try.func8, Try.ntmps8
  by_cases h : ah < bh + c
  · rw [if_pos h]
    rw [if_pos h] at s2
    generalize (ah + 18446744073709551616 - bh - c) % 18446744073709551616 = high at *
    go_wp2_with (first | simp only [s1] | simp only [s2])
    exact bodyPost_ret (results_row_tmp rfl _ _ (w.heap.size + 1 + 1) _ _ _ _ rfl (al3 w _ _ _).2.2 Try.underlying25 rfl (show (Try.prog.info? 25).map (·.size) = some 2 by kernel_rfl)) rfl ⟨rfl, bel3 w _ _ _⟩
  · rw [if_neg h]
    rw [if_neg h] at s2
    have e4 : (ah + 18446744073709551616 - bh - c) % 18446744073709551616 = ah - bh - c := by omega
    rw [e4] at s2
    rw [unhide E2 h]
    generalize ah - bh - c = high at *
    go_wp2_with (first | simp only [s1] | simp only [s2])
    exact bodyPost_ret (results_row_tmp rfl _ _ (w.heap.size + 1 + 1) _ _ _ _ rfl (al3 w _ _ _).2.2 Try.underlying25 rfl (show (Try.prog.info? 25).map (·.size) = some 2 by kernel_rfl)) rfl ⟨rfl, bel3 w _ _ _⟩
theorem wide_eql' (a b c d : Int) (w : World) : (binOp .eql 25 (.agg #[.int .u64 a, .int .u64 b]) (.agg #[.int .u64 c, .int .u64 d])).run Try.prog w = .ok (.bool (if a = c then decide (b = d) else false)) w := by
  by_cases h : a = c
  · subst h
    have : (a == a) = true := by simp
    go_simp
    split <;> simp_all
  · go_simp
theorem wide_eql (a b : Nat) (w : World) : (binOp .eql 25 (.agg (wv a)) (.agg (wv b))).run Try.prog w = .ok (.bool (decide (a = b))) w := by
  unfold wv
  rw [wide_eql']
  congr 2
  split
  · apply decide_eq_decide.2; omega
  · symm; apply decide_eq_false; omega
theorem wide_one (a : Nat) : (wv a).all (·.oneCell') = true := by simp [wv, Value.oneCell']
theorem wide_info (a : Nat) : (Try.prog.info? 25).map (·.size) = some (wv a).size := (show (Try.prog.info? 25).map (·.size) = some 2 by kernel_rfl)
end Go.Proofs.Ytfdnpmanepoblaa
