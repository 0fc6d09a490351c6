/-
  WHAT package letter's Same RETURNS.
-/
import Derived.Test.YtefdlpddhkocbaaLetC
import Derived.Test.YtefdlpddhkocbaaLoadG
namespace Go.Proofs.Ytefdlpddhkocbaa
open Go.RowKit
set_option linter.unusedSimpArgs false
set_option linter.unusedVariables false

/-- Are all their fields the same? -/
def pLSame (x y : Lt) : Bool := if x.fr = y.fr then if x.no = y.no then if x.tt = y.tt then if x.se = y.se then if x.re = y.re then decide (x.bo = y.bo) else false else false else false else false else false
theorem pLSame_iff (x y : Lt) : pLSame x y = true ↔ x = y := by
  obtain ⟨a1, a2, a3, a4, a5, a6⟩ := x
  obtain ⟨b1, b2, b3, b4, b5, b6⟩ := y
  simp [pLSame]
theorem let_eql (x y : Lt) (w : World) : (binOp .eql 24 (.agg x.cells) (.agg y.cells)).run Try.prog w = .ok (.bool (pLSame x y)) w := by
  obtain ⟨a1, a2, a3, a4, a5, a6⟩ := x
  obtain ⟨b1, b2, b3, b4, b5, b6⟩ := y
  unfold pLSame Lt.cells
  simp only
  have s : ∀ l m : List UInt8, ((str l).toList = (str m).toList) = (l = m) := fun l m => by rw [ByteArray.toList_eq, ByteArray.toList_eq, str_toList, str_toList]
  by_cases h1 : a1 = b1
  · subst h1
    by_cases h2 : a2 = b2
    · subst h2
      by_cases h3 : a3 = b3
      · subst h3
        go_simp
        by_cases h4 : a4 = b4 <;> by_cases h5 : a5 = b5 <;> by_cases h6 : a6 = b6 <;> simp [h4, h5, h6]
      · have e3 : ((a3 : Int) == (b3 : Int)) = false := by simp; omega
        go_simp
    · have e2 : ((a2 : Int) == (b2 : Int)) = false := by simp; omega
      go_simp
  · have e1 : ((a1 : Int) == (b1 : Int)) = false := by simp; omega
    go_simp
theorem lsame_calls (x y : Lt) (w : World) :
    Calls Try.prog 8 #[.agg x.cells, .agg y.cells] w fun e w' => e = .returned (.bool (pLSame x y)) ∧ Below w.heap.size w w' := by
  have he := let_eql x y
  have hi := let_info x
  have hj := let_info y
  have q := al2 w (.cells x.cells 24) (.cells y.cells 24)
  have hb := bel2 w (.cells x.cells 24) (.cells y.cells 24)
  generalize pLSame x y = R at *
  generalize x.cells = C at *
  generalize y.cells = D at *
  obtain ⟨q1, q2⟩ := q
  go_enter Try.func8, Try.ntmps8
  go_wp2_with (first
    | (refine wpList_load_row rfl 24 (.tmp 2) rfl w.heap.size rfl 24 C (0, 0) _ q1 Try.underlying24 rfl hi ?_)
    | (refine wpList_load_row rfl 24 (.tmp 3) rfl (w.heap.size + 1) rfl 24 D (0, 0) _ q2 Try.underlying24 rfl hj ?_)
    | simp only [he])
  go_ret
  exact ⟨rfl, hb⟩
end Go.Proofs.Ytefdlpddhkocbaa
