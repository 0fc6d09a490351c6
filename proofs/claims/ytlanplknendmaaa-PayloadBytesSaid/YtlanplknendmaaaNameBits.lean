/-
  WHAT THE SMALL FUNCTIONS OF name RETURN: one contract each.
-/
import Derived.Test.YtlanplknendmaaaProg
import Derived.Test.YtlanplknendmaaaWordPure
import Derived.WalkKit
namespace Go.Proofs.Ytlanplknendmaaa
open Go.RowKit
set_option linter.unusedSimpArgs false
set_option linter.unusedVariables false

def pSmall (r : Nat) : Bool := (decide (97 ≤ r) && decide (r ≤ 122)) || (decide (945 ≤ r) && decide (r ≤ 969))
def pDigit (r : Nat) : Bool := decide (48 ≤ r) && decide (r ≤ 57)
def pCapital (r : Nat) : Bool := (decide (65 ≤ r) && decide (r ≤ 90)) || ((decide (913 ≤ r) && decide (r ≤ 937)) && (r != 930))

theorem isDigit_calls (r : Nat) (w : World) :
    Calls Try.prog 56 #[.int .i32 (r : Int)] w fun e w' => e = .returned (.bool (pDigit r)) ∧ w' = w := by
  by_cases h1 : 48 ≤ r
  · have d1 : decide ((48 : Int) ≤ (r : Int)) = true := by simp; omega
    by_cases h2 : r ≤ 57
    · have d2 : decide ((r : Int) ≤ 57) = true := by simp; omega
      have hp : pDigit r = true := by simp [pDigit]; omega
      rw [hp]; clear hp
      go_enter Try.func56, Try.ntmps56
      go_wp2
      go_ret
      exact ⟨rfl, rfl⟩
    · have d2 : decide ((r : Int) ≤ 57) = false := by simp; omega
      have hp : pDigit r = false := by simp [pDigit]; omega
      rw [hp]; clear hp
      go_enter Try.func56, Try.ntmps56
      go_wp2
      go_ret
      exact ⟨rfl, rfl⟩
  · have d1 : decide ((48 : Int) ≤ (r : Int)) = false := by simp; omega
    have hp : pDigit r = false := by simp [pDigit]; omega
    rw [hp]; clear hp
    go_enter Try.func56, Try.ntmps56
    go_wp2
    go_ret
    exact ⟨rfl, rfl⟩

theorem isSmall_calls (r : Nat) (w : World) :
    Calls Try.prog 55 #[.int .i32 (r : Int)] w fun e w' => e = .returned (.bool (pSmall r)) ∧ w' = w := by
  cases d1 : decide ((97 : Int) ≤ (r : Int)) <;> cases d2 : decide ((r : Int) ≤ 122) <;> cases d3 : decide ((945 : Int) ≤ (r : Int)) <;> cases d4 : decide ((r : Int) ≤ 969)
  all_goals
    generalize hp : pSmall r = p
    have Hp := hide hp
    clear hp
    go_enter Try.func55, Try.ntmps55
    go_wp2
    go_ret
    refine ⟨?_, rfl⟩
    rw [← unhide Hp]
    simp only [decide_eq_true_eq, decide_eq_false_iff_not] at d1 d2 d3 d4
    simp [pSmall]
    omega

end Go.Proofs.Ytlanplknendmaaa
