/-
  WHAT package letter's Right, written, Bytes, Same AND Read RETURN.
-/
import Derived.Test.YtefdlpddhkocbaaLetP
import Derived.Test.YtefdlpddhkocbaaQuietTail
import Derived.Test.YtefdlpddhkocbaaKitEq
import Derived.Deep.QuietTactic
import Derived.BigQuiet
namespace Go.Proofs.Ytefdlpddhkocbaa
open Go.RowKit
set_option linter.unusedSimpArgs false
set_option linter.unusedVariables false

theorem let_info (x : Lt) : (Try.prog.info? 24).map (·.size) = some x.cells.size := (show (Try.prog.info? 24).map (·.size) = some 6 by kernel_rfl)
theorem let_size (x : Lt) : x.cells.size = 6 := rfl
theorem let_one (x : Lt) : x.cells.all (·.oneCell') = true := by simp [Lt.cells, Value.oneCell']
set_option maxRecDepth 100000 in
theorem lright_calls (x : Lt) (h1 : x.se.length ≤ 4611686018427387904) (h2 : x.re.length ≤ 4611686018427387904) (w : World) :
    Calls Try.prog 9 #[.agg x.cells] w fun e w' => e = .returned (.bool x.right) ∧ Below w.heap.size w w' := by
  obtain ⟨fr, no, tt, se, re, bo⟩ := x
  unfold Lt.right Lt.cells
  have k1 := hide fun W => right_calls se h1 W
  have k2 := hide fun W => right_calls re h2 W
  simp only
  generalize pRight se = a at *
  generalize pRight re = b at *
  have hsz := str_size bo
  have hle : decide ((bo.length : Int) ≤ 300) = decide (bo.length ≤ 300) := by congr 1; apply propext; omega
  generalize hR : (if a = true then (if b = true then decide (bo.length ≤ 300) else false) else false) = R
  have HR := hide hR
  have hb0 : Below w.heap.size w (w.alloc (.cells (⟨fr, no, tt, se, re, bo⟩ : Lt).cells 24)) := (Below.refl _ w).alloc (Nat.le_refl _) _
  clear h1 h2 hR
  go_enter Try.func9, Try.ntmps9
  go_wp2_with fail
  refine (unhide k1 _).mono ?_
  rintro e w1 ⟨rfl, b1⟩
  obtain ⟨c1, -, z1, -⟩ := alloc_kept b1
  have hb1 := hb0.trans (b1.mono (by simp [Lt.cells]))
  have d1 := c1 4
  have d2 := c1 5
  simp only [List.getElem?_toArray, List.getElem?_cons_succ, List.getElem?_cons_zero] at d1 d2
  clear c1 b1
  cases a with
  | false =>
    go_wp2_with fail
    go_ret
    exact ⟨by rw [← unhide HR]; rfl, hb1⟩
  | true =>
    go_wp2_with fail
    refine (unhide k2 _).mono ?_
    rintro e w2 ⟨rfl, b2⟩
    have d3 := ((bcell b2).1 w.heap.size 5 z1).trans d2
    have hb2 := hb1.trans (b2.mono (Nat.le_of_lt z1))
    cases b with
    | false =>
      go_wp2_with fail
      go_ret
      exact ⟨by rw [← unhide HR]; rfl, hb2⟩
    | true =>
      go_wp2_with fail
      go_ret
      exact ⟨by rw [← unhide HR]; simp, hb2⟩
end Go.Proofs.Ytefdlpddhkocbaa
