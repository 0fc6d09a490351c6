/-
  WHAT amount's Split RETURNS.
-/
import Derived.Test.YtajeicabfcelaaaDivQ
namespace Go.Proofs.Ytajeicabfcelaaa
open Go.RowKit
set_option linter.unusedSimpArgs false
set_option linter.unusedVariables false

/-- A part, and the rest. -/
def pSplit (n part whole : Nat) : Nat × Nat := if whole ≤ part then (n, 0) else (n * part / whole, n - n * part / whole)
theorem share_le (n part whole : Nat) (h : part < whole) : n * part / whole ≤ n := by
  refine Nat.div_le_of_le_mul ?_
  rw [Nat.mul_comm whole]
  exact Nat.mul_le_mul_left n (Nat.le_of_lt h)
theorem high_lt (n part whole : Nat) (hn : n < 18446744073709551616) (h : part < whole) : n * part / 18446744073709551616 < whole := by
  refine Nat.div_lt_of_lt_mul ?_
  exact Nat.lt_of_le_of_lt (Nat.mul_le_mul_right part (Nat.le_of_lt hn)) (Nat.mul_lt_mul_of_pos_left h (by decide))
theorem div_any (hi lo y : Nat) (hh : hi < y) (hl : lo < 18446744073709551616) (hy : y < 18446744073709551616) (w : World) :
    Calls Try.prog 25 #[.int .u64 (hi : Int), .int .u64 (lo : Int), .int .u64 (y : Int)] w fun e w' => ∃ r : Int, e = .returned (.tuple #[.int .u64 (((hi * 18446744073709551616 + lo) / y : Nat) : Int), .int .u64 r]) ∧ Below w.heap.size w w' := by
  by_cases h0 : hi = 0
  · subst h0
    refine (div64_zero lo y hl hy (by omega) w).mono ?_
    rintro e w' ⟨rfl, hb⟩
    exact ⟨_, by rw [Nat.zero_mul, Nat.zero_add], hb⟩
  · exact div64_calls hi lo y hh hl hy (by omega) w
set_option maxRecDepth 100000 in
theorem split_calls (n part whole : Nat) (hn : n < 18446744073709551616) (hp : part < 18446744073709551616) (hw : whole < 18446744073709551616) (w : World) :
    Calls Try.prog 13 #[.int .u64 (n : Int), .int .u64 (part : Int), .int .u64 (whole : Int)] w fun e w' => e = .returned (.tuple #[.int .u64 ((pSplit n part whole).1 : Int), .int .u64 ((pSplit n part whole).2 : Int)]) ∧ Below w.heap.size w w' := by
  unfold pSplit
  by_cases h0 : whole ≤ part
  · rw [if_pos h0]
    by_cases hz : whole = 0
    · subst hz
      go_enter Try.func13, Try.ntmps13
      go_wp2
      go_ret2
      exact ⟨rfl, Below.refl _ _⟩
    · have d1 : ((whole : Int) == 0) = false := by simp; omega
      have d2 : decide (whole ≤ part) = true := by simpa using h0
      go_enter Try.func13, Try.ntmps13
      go_wp2
      go_ret2
      exact ⟨rfl, Below.refl _ _⟩
  · rw [if_neg h0]
    have d1 : ((whole : Int) == 0) = false := by simp; omega
    have d2 : decide (whole ≤ part) = false := by simpa using h0
    have hs := share_le n part whole (by omega)
    have hm := fun w => mul64_calls n part hn hp w
    have hh := high_lt n part whole hn (by omega)
    have hl : n * part % 18446744073709551616 < 18446744073709551616 := Nat.mod_lt _ (by decide)
    have hd := fun w => div_any _ _ whole hh hl hw w
    rw [Nat.div_add_mod'] at hd
    generalize n * part / 18446744073709551616 = H at *
    generalize n * part % 18446744073709551616 = L at *
    generalize n * part / whole = S at *
    have HM := hide hm
    have HD := hide hd
    have f1 : IntKind.u64.wrap ((n : Int) - (S : Int)) = ((n - S : Nat) : Int) := by rw [IntKind.wrap_u64]; omega
    generalize n - S = R at *
    have HS := hide hs
    clear h0 hm hd hh hl hs
    go_enter Try.func13, Try.ntmps13
    go_wp2_with fail
    refine (unhide HM _).mono ?_
    rintro e w1 ⟨rfl, rfl⟩
    go_wp2_with fail
    refine (unhide HD _).mono ?_
    rintro e w2 ⟨r, rfl, hb⟩
    go_wp2
    go_ret2
    exact ⟨rfl, hb⟩
end Go.Proofs.Ytajeicabfcelaaa
