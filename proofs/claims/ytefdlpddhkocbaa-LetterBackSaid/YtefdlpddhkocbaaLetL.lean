/-
  THE LAYER's awake AND light, OF LETTERS.
-/
import Derived.Test.YtefdlpddhkocbaaLetD
namespace Go.Proofs.Ytefdlpddhkocbaa
open Go.RowKit
set_option linter.unusedSimpArgs false
set_option linter.unusedVariables false

def exL : Lt := ⟨1, 0, 2, [97], [98], [99]⟩
theorem exL_right : exL.right = true := by decide +kernel
theorem zero_right : Lt.zero.right = false := by decide +kernel
theorem exL_ok : exL.ok := ⟨by decide, by decide, by decide⟩
theorem zero_ok : Lt.zero.ok := ⟨by decide, by decide, by decide⟩
set_option maxRecDepth 100000 in
theorem lawake_calls (w : World) :
    Calls Try.prog 4 #[] w fun e w' => e = .returned (.bool true) ∧ Below w.heap.size w w' := by
  have c1 := fun W => lbytes_calls exL exL_ok (by decide) (by decide) (by decide) W
  have c2 := fun W => lread_calls exL.bytes (by decide +kernel) W
  have c3 := fun W => lbytes_calls Lt.zero zero_ok (by decide) (by decide) (by decide) W
  have c4 := fun W => lsame_calls exL exL W
  rw [(pLSame_iff exL exL).2 rfl] at c4
  rw [letter_back exL exL_ok exL_right] at c2
  simp only [pLBytes, exL_right, zero_right, if_true, Bool.false_eq_true, if_false] at c1 c3
  have hi := let_info exL
  have ho := let_one exL
  have hsz : exL.cells.size = Lt.zero.cells.size := rfl
  have hiz := let_info Lt.zero
  generalize exL.bytes = B at *
  have C1 := hide c1
  have C2 := hide c2
  have C3 := hide c3
  have C4 := hide c4
  clear c1 c2 c3 c4
  have q0 := setRow_heap _ _ _ exL.cells _ _ (al1 w (.cells Lt.zero.cells 24))
  have hb0 := below_setRow ((Below.refl w.heap.size w).alloc (Nat.le_refl _) (.cells Lt.zero.cells 24)) (Nat.le_refl _) exL.cells
  have z0 : w.heap.size < ((w.alloc (.cells Lt.zero.cells 24)).setRow w.heap.size exL.cells).heap.size := by rw [setRow_size, World.size_alloc]; omega
  go_enter Try.func4, Try.ntmps4
  go_wp2_with (first
    | (refine wpList_store_row rfl 24 (.tmp 1) (.tmp 8) rfl w.heap.size exL.cells rfl rfl 24 _ (al1 w (.cells Lt.zero.cells 24)) hi hsz ho ?_)
    | (refine wpList_load_row rfl 24 (.tmp 1) rfl w.heap.size rfl 24 exL.cells (0, 0) _ q0 Try.underlying24 rfl hi ?_))
  refine (unhide C1 _).mono ?_
  rintro e w1 ⟨rfl, b1⟩
  have q1 := Below.at b1 z0 q0
  have hb1 := hb0.trans (b1.mono hb0.size)
  have z1 := Nat.lt_of_lt_of_le z0 b1.size
  clear q0 hb0 b1 z0
  go_wp2_with fail
  refine (unhide C2 _).mono ?_
  rintro e w2 ⟨rfl, b2⟩
  have q2 := Below.at b2 z1 q1
  have hb2 := hb1.trans (b2.mono hb1.size)
  have z2 := Nat.lt_of_lt_of_le z1 b2.size
  clear q1 hb1 b2 z1
  have qq := (setRow_other (w2.alloc (.cells Lt.zero.cells 24)) w2.heap.size w.heap.size exL.cells (by omega)).trans ((Below.heap_alloc w2 _ _ z2).trans q2)
  have qr := setRow_heap _ _ _ exL.cells _ _ (al1 w2 (.cells Lt.zero.cells 24))
  have hb3 := below_setRow (hb2.alloc (Nat.le_of_lt z2) (.cells Lt.zero.cells 24)) (Nat.le_of_lt z2) exL.cells
  have z3 : w2.heap.size < ((w2.alloc (.cells Lt.zero.cells 24)).setRow w2.heap.size exL.cells).heap.size := by rw [setRow_size, World.size_alloc]; omega
  go_wp2_with (refine wpList_store_row rfl 24 (.tmp 4) (.tmp 17) rfl w2.heap.size exL.cells rfl rfl 24 _ (al1 w2 (.cells Lt.zero.cells 24)) hi hsz ho ?_)
  refine (unhide C3 _).mono ?_
  rintro e w4 ⟨rfl, b4⟩
  have q4 : w4.heap[w.heap.size]? = some (.cells exL.cells 24 (0, 0)) := Below.at b4 (Nat.lt_trans z2 z3) qq
  have q5 : w4.heap[w2.heap.size]? = some (.cells exL.cells 24 (0, 0)) := Below.at b4 z3 qr
  have hb4 : Below w.heap.size w w4 := hb3.trans (b4.mono hb3.size)
  clear qq qr hb3 b4 z3 q2
  go_wp2_with (first
    | (refine wpList_load_row_gd rfl 24 (.tmp 1) rfl w.heap.size rfl 24 exL.cells (0, 0) _ q4 Try.underlying24 rfl hi ?_)
    | (refine wpList_load_row_gd rfl 24 (.tmp 4) rfl w2.heap.size rfl 24 exL.cells (0, 0) _ q5 Try.underlying24 rfl hi ?_))
  refine (unhide C4 _).mono ?_
  rintro e w5 ⟨rfl, b5⟩
  go_wp2
  go_ret
  exact ⟨rfl, hb4.trans (b5.mono hb4.size)⟩
theorem light_calls (x : Lt) (w : World) :
    Calls Try.prog 5 #[.agg x.cells] w fun e w' => e = .returned (.bool (if x.se.length ≤ 2000 then if x.re.length ≤ 2000 then decide (x.bo.length ≤ 2000) else false else false)) ∧ Below w.heap.size w w' := by
  obtain ⟨fr, no, tt, se, re, bo⟩ := x
  unfold Lt.cells
  simp only
  obtain ⟨R, hR⟩ : ∃ R, (if se.length ≤ 2000 then if re.length ≤ 2000 then decide (bo.length ≤ 2000) else false else false) = R := ⟨_, rfl⟩
  rw [hR]
  have HR := hide hR
  clear hR
  by_cases h1 : se.length ≤ 2000
  · by_cases h2 : re.length ≤ 2000
    · by_cases h3 : bo.length ≤ 2000
      · go_enter Try.func5, Try.ntmps5
        go_wp2
        go_ret
        exact ⟨by rw [← unhide HR]; simp [h1, h2, h3]; omega, (Below.refl _ _).alloc (Nat.le_refl _) _⟩
      · go_enter Try.func5, Try.ntmps5
        go_wp2
        go_ret
        exact ⟨by rw [← unhide HR]; simp [h1, h2, h3]; omega, (Below.refl _ _).alloc (Nat.le_refl _) _⟩
    · go_enter Try.func5, Try.ntmps5
      go_wp2
      go_ret
      exact ⟨by rw [← unhide HR]; simp [h1, h2], (Below.refl _ _).alloc (Nat.le_refl _) _⟩
  · go_enter Try.func5, Try.ntmps5
    go_wp2
    go_ret
    exact ⟨by rw [← unhide HR]; simp [h1], (Below.refl _ _).alloc (Nat.le_refl _) _⟩
end Go.Proofs.Ytefdlpddhkocbaa
