/-
  WHAT package letter's written AND Bytes RETURN.
-/
import Derived.Test.YtefdlpddhkocbaaLetA
namespace Go.Proofs.Ytefdlpddhkocbaa
open Go.RowKit
set_option linter.unusedSimpArgs false
set_option linter.unusedVariables false

set_option maxHeartbeats 2000000 in
set_option maxRecDepth 100000 in
theorem lwritten_calls (x : Lt) (ok : x.ok) (h1 : x.se.length ≤ 4000000000) (h2 : x.re.length ≤ 4000000000) (h3 : x.bo.length ≤ 4000000000) (w : World) :
    Calls Try.prog 10 #[.agg x.cells] w fun e w' => e = .returned (.string (str x.bytes)) ∧ Below w.heap.size w w' := by
  unfold Lt.bytes
  have hb0 := (Below.refl w.heap.size w).alloc (Nat.le_refl _) (.cells x.cells 24)
  have q0 := al1 w (.cells x.cells 24)
  have L1 := pBig_length x.fr 4
  have L2 := pBig_length x.no 4
  have L3 := pBig_length x.tt 4
  have L4 := pText4_length x.se
  have L5 := pText4_length x.re
  have L6 := pText4_length x.bo
  have w1 := fun w => wword_calls x.fr ok.fr w
  have w2 := fun w => wword_calls x.no ok.no w
  have w3 := fun w => wword_calls x.tt ok.tt w
  have w4 := fun w => wtext_calls x.se (by omega) w
  have w5 := fun w => wtext_calls x.re (by omega) w
  have w6 := fun w => wtext_calls x.bo (by omega) w
  obtain ⟨fr, no, tt, se, re, bo⟩ := x
  simp only [Lt.cells] at *
  generalize pBig fr 4 = P1 at *
  generalize pBig no 4 = P2 at *
  generalize pBig tt 4 = P3 at *
  generalize pText4 se = P4 at *
  generalize pText4 re = P5 at *
  generalize pText4 bo = P6 at *
  have a1 := append_str P1 P2
  have a2 : str (P1 ++ P2) ++ str P3 = str (P1 ++ (P2 ++ P3)) := by rw [append_str]; simp
  have a3 : str (P1 ++ (P2 ++ P3)) ++ str P4 = str (P1 ++ (P2 ++ (P3 ++ P4))) := by rw [append_str]; simp
  have a4 : str (P1 ++ (P2 ++ (P3 ++ P4))) ++ str P5 = str (P1 ++ (P2 ++ (P3 ++ (P4 ++ P5)))) := by rw [append_str]; simp
  have a5 : str (P1 ++ (P2 ++ (P3 ++ (P4 ++ P5)))) ++ str P6 = str (P1 ++ (P2 ++ (P3 ++ (P4 ++ (P5 ++ P6))))) := by rw [append_str]; simp
  have n1 : ¬ 9223372036854775807 < P1.length + P2.length := by omega
  have n2 : ¬ 9223372036854775807 < P1.length + P2.length + P3.length := by omega
  have n3 : ¬ 9223372036854775807 < P1.length + (P2.length + P3.length) + P4.length := by omega
  have n4 : ¬ 9223372036854775807 < P1.length + (P2.length + (P3.length + P4.length)) + P5.length := by omega
  have n5 : ¬ 9223372036854775807 < P1.length + (P2.length + (P3.length + (P4.length + P5.length))) + P6.length := by omega
  generalize hX : w.alloc (.cells #[.int .u32 (fr : Int), .int .u32 (no : Int), .int .u32 (tt : Int), .string (str se), .string (str re), .string (str bo)] 24) = X at *
  have hzX : w.heap.size < X.heap.size := (Array.getElem?_eq_some_iff.1 q0).1
  have cg : ∀ j v, (#[Value.int .u32 (fr : Int), .int .u32 (no : Int), .int .u32 (tt : Int), .string (str se), .string (str re), .string (str bo)] : Array Value)[j]? = some v → ∀ d os, (Sort.grow (redrawn X d) os).cell? ⟨w.heap.size, j, none⟩ = some v := fun j v hv d os => by
    rw [(below_regrown X d os).cell (p := ⟨w.heap.size, j, none⟩) hzX]; exact (sig_cell q0).1 j v hv
  have c0 : ∀ d os, (Sort.grow (redrawn X d) os).cell? ⟨w.heap.size, 0, none⟩ = some (.int .u32 (fr : Int)) := cg 0 _ rfl
  have c1 : ∀ d os, (Sort.grow (redrawn X d) os).cell? ⟨w.heap.size, 1, none⟩ = some (.int .u32 (no : Int)) := cg 1 _ rfl
  have c2 : ∀ d os, (Sort.grow (redrawn X d) os).cell? ⟨w.heap.size, 2, none⟩ = some (.int .u32 (tt : Int)) := cg 2 _ rfl
  have c3 : ∀ d os, (Sort.grow (redrawn X d) os).cell? ⟨w.heap.size, 3, none⟩ = some (.string (str se)) := cg 3 _ rfl
  have c4 : ∀ d os, (Sort.grow (redrawn X d) os).cell? ⟨w.heap.size, 4, none⟩ = some (.string (str re)) := cg 4 _ rfl
  have c5 : ∀ d os, (Sort.grow (redrawn X d) os).cell? ⟨w.heap.size, 5, none⟩ = some (.string (str bo)) := cg 5 _ rfl
  have k1 := hide fun d os => Calls.regrown_of (w := X) (d := d) (os := os) (w1 _)
  have k2 := hide fun d os => Calls.regrown_of (w := X) (d := d) (os := os) (w2 _)
  have k3 := hide fun d os => Calls.regrown_of (w := X) (d := d) (os := os) (w3 _)
  have k4 := hide fun d os => Calls.regrown_of (w := X) (d := d) (os := os) (w4 _)
  have k5 := hide fun d os => Calls.regrown_of (w := X) (d := d) (os := os) (w5 _)
  have k6 := hide fun d os => Calls.regrown_of (w := X) (d := d) (os := os) (w6 _)
  have HX := hide hX
  clear cg hX w1 w2 w3 w4 w5 w6 L1 L2 L3 L4 L5 L6 h1 h2 h3 q0 ok
  go_enter Try.func10, Try.ntmps10
  go_wp2_with fail
  rw [unhide HX]
  refine wp_region_below mixed (by kernel_rfl) ?_
  quiet_step (fail)
  quiet_step (fail)
  quiet_step (exact unhide k1 _ _)
  quiet_step (fail)
  quiet_step (fail)
  quiet_step (exact unhide k2 _ _)
  quiet_step (fail)
  quiet_step (fail)
  quiet_step (fail)
  quiet_step (exact unhide k3 _ _)
  quiet_step (fail)
  quiet_step (fail)
  quiet_step (fail)
  quiet_step (exact unhide k4 _ _)
  quiet_step (fail)
  quiet_step (fail)
  quiet_step (fail)
  quiet_step (exact unhide k5 _ _)
  quiet_step (fail)
  quiet_step (fail)
  quiet_step (fail)
  quiet_step (exact unhide k6 _ _)
  repeat (quiet_step (fail))
  refine wpQuiet_nil ?_
  intro w3 hb3
  go_wp2
  go_ret
  exact ⟨rfl, hb0.trans (hb3.mono hb0.size)⟩
/-- A letter's bytes, and what is wrong with it. -/
def pLBytes (x : Lt) : List UInt8 × Int := if x.right = true then (x.bytes, 0) else ([], 4)
theorem lbytes_calls (x : Lt) (ok : x.ok) (h1 : x.se.length ≤ 4000000000) (h2 : x.re.length ≤ 4000000000) (h3 : x.bo.length ≤ 4000000000) (w : World) :
    Calls Try.prog 6 #[.agg x.cells] w fun e w' => e = .returned (.tuple #[.string (str (pLBytes x).1), .int .i64 (pLBytes x).2]) ∧ Below w.heap.size w w' := by
  have c1 := hide fun W => lright_calls x (by omega) (by omega) W
  have c2 := hide fun W => lwritten_calls x ok h1 h2 h3 W
  have hi := let_info x
  have hb0 := (Below.refl w.heap.size w).alloc (Nat.le_refl _) (.cells x.cells 24)
  have q0 := al1 w (.cells x.cells 24)
  unfold pLBytes
  generalize x.right = R at *
  generalize x.bytes = B at *
  generalize x.cells = C at *
  clear h1 h2 h3 ok
  go_enter Try.func6, Try.ntmps6
  go_wp2_with (refine wpList_load_row rfl 24 (.tmp 1) rfl w.heap.size rfl 24 C (0, 0) _ q0 Try.underlying24 rfl hi ?_)
  refine (unhide c1 _).mono ?_
  rintro e w1 ⟨rfl, b1⟩
  have q1 := Below.at b1 (by simp) q0
  have hb1 := hb0.trans (b1.mono (by simp))
  cases R with
  | false =>
    go_wp2_with fail
    go_ret2
    exact ⟨rfl, hb1⟩
  | true =>
    go_wp2_with (refine wpList_load_row rfl 24 (.tmp 1) rfl w.heap.size rfl 24 C (0, 0) _ q1 Try.underlying24 rfl hi ?_)
    refine (unhide c2 _).mono ?_
    rintro e w2 ⟨rfl, b2⟩
    have hb2 := hb1.trans (b2.mono hb1.size)
    go_wp2_with fail
    go_ret2
    exact ⟨rfl, hb2⟩
end Go.Proofs.Ytefdlpddhkocbaa
