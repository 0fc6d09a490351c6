/-
  THE LAYER's awake, light AND To.
-/
import Derived.Test.YtlanplknendmaaaPayF
namespace Go.Proofs.Ytlanplknendmaaa
open Go.RowKit
set_option linter.unusedSimpArgs false
set_option linter.unusedVariables false

set_option maxRecDepth 100000 in
theorem pawake_calls (w : World) :
    Calls Try.prog 6 #[] w fun e w' => e = .returned (.bool true) ∧ Below w.heap.size w w' := by
  have c1 := fun W => pread_calls [4] (by decide) W
  have e : pPRead [4] = (.no, 4) := rfl
  rw [e] at c1
  have C1 := hide c1
  have C2 := hide fun W => panics_bad .no rfl W
  clear c1 e
  go_enter Try.func6, Try.ntmps6
  go_wp2_with fail
  refine (unhide C1 _).mono ?_
  rintro e w1 ⟨rfl, b1⟩
  go_wp2_with fail
  refine (unhide C2 _).mono ?_
  rintro e w2 ⟨rfl, b2⟩
  go_wp2
  go_ret
  exact ⟨rfl, b1.trans (b2.mono b1.size)⟩
/-- What the law's rows are made of. -/
structure Ax where
  (k : Int) (o : Nat) (a b : List UInt8) (n : Nat)
def Ax.cells (x : Ax) : Array Value := #[.int .i64 x.k, .int .u32 (x.o : Int), .string (str x.a), .string (str x.b), .int .u64 (x.n : Int)]
structure Ax.ok (x : Ax) : Prop where
  (k1 : -9223372036854775808 ≤ x.k) (k2 : x.k ≤ 9223372036854775807) (o : x.o < 4294967296) (n : x.n < 18446744073709551616) (a : x.a.length ≤ maxLen) (b : x.b.length ≤ maxLen)
def Ax.pl (x : Ax) : Pl :=
  if x.k.tmod 5 = 0 then .tr x.o x.a x.b x.n else
  if x.k.tmod 5 = 1 then .sa x.a x.b else
  if x.k.tmod 5 = -1 then .sa x.a x.b else
  if x.k.tmod 5 = 2 then .de x.o x.a x.n else
  if x.k.tmod 5 = -2 then .de x.o x.a x.n else
  if x.k.tmod 5 = 3 then .no else
  if x.k.tmod 5 = -3 then .no else .num
theorem Ax.pl_ok (x : Ax) (h : x.ok) : x.pl.ok := by
  unfold Ax.pl
  have := h.o
  have := h.n
  repeat' split
  all_goals first | trivial | exact ⟨h.o, h.n⟩
theorem Ax.pl_most (x : Ax) (m : Nat) (ha : x.a.length ≤ m) (hb : x.b.length ≤ m) : x.pl.most m := by
  unfold Ax.pl
  repeat' split
  all_goals first | trivial | exact ⟨ha, hb⟩ | exact ha
theorem ax_info (x : Ax) : (Try.prog.info? 25).map (·.size) = some x.cells.size := (show (Try.prog.info? 25).map (·.size) = some 5 by kernel_rfl)
set_option maxRecDepth 100000 in
theorem plight_calls (x : Ax) (w : World) :
    Calls Try.prog 7 #[.agg x.cells] w fun e w' => e = .returned (.bool (if x.a.length ≤ 2000 then decide (x.b.length ≤ 2000) else false)) ∧ Below w.heap.size w w' := by
  obtain ⟨k, o, a, b, n⟩ := x
  unfold Ax.cells
  simp only
  obtain ⟨R, hR⟩ : ∃ R, (if a.length ≤ 2000 then decide (b.length ≤ 2000) else false) = R := ⟨_, rfl⟩
  rw [hR]
  have HR := hide hR
  clear hR
  by_cases h1 : a.length ≤ 2000
  · by_cases h2 : b.length ≤ 2000
    · go_enter Try.func7, Try.ntmps7
      go_wp2
      go_ret
      exact ⟨by rw [← unhide HR]; simp [h1, h2]; omega, (Below.refl _ _).alloc (Nat.le_refl _) _⟩
    · go_enter Try.func7, Try.ntmps7
      go_wp2
      go_ret
      exact ⟨by rw [← unhide HR]; simp [h1, h2]; omega, (Below.refl _ _).alloc (Nat.le_refl _) _⟩
  · go_enter Try.func7, Try.ntmps7
    go_wp2
    go_ret
    exact ⟨by rw [← unhide HR]; simp [h1], (Below.refl _ _).alloc (Nat.le_refl _) _⟩
set_option maxHeartbeats 2000000 in
set_option maxRecDepth 100000 in
theorem to_calls (x : Ax) (ok : x.ok) (w : World) :
    Calls Try.prog 8 #[.agg x.cells] w fun e w' => e = .returned x.pl.val ∧ Below w.heap.size w w' := by
  have k1 := ok.k1
  have k2 := ok.k2
  obtain ⟨k, o, a, b, n⟩ := x
  simp only at *
  obtain ⟨P, hP⟩ : ∃ P, (⟨k, o, a, b, n⟩ : Ax).pl = P := ⟨_, rfl⟩
  rw [hP]
  unfold Ax.pl at hP
  simp only at hP
  unfold Ax.cells
  simp only
  clear ok
  have hb0 := (Below.refl w.heap.size w).alloc (Nat.le_refl _) (.cells #[.int .i64 k, .int .u32 (o : Int), .string (str a), .string (str b), .int .u64 (n : Int)] 25)
  have HP := hide hP
  clear hP k1 k2
  by_cases h0 : k.tmod 5 = 0
  · have hP := unhide HP
    rw [if_pos h0] at hP
    subst hP
    have e0 : (k.tmod 5 == 0) = true := by simpa using h0
    clear HP h0
    unfold Pl.val trCells
    go_enter Try.func8, Try.ntmps8
    go_wp2
    go_ret
    exact ⟨rfl, hb0⟩
  · by_cases h1 : k.tmod 5 = 1
    · have hP := unhide HP
      rw [if_neg h0, if_pos h1] at hP
      subst hP
      have e0 : (k.tmod 5 == 0) = false := by simpa using h0
      have e1 : (k.tmod 5 == 1) = true := by simpa using h1
      clear HP h0 h1
      unfold Pl.val saCells
      go_enter Try.func8, Try.ntmps8
      go_wp2
      go_ret
      exact ⟨rfl, hb0⟩
    · by_cases h2 : k.tmod 5 = -1
      · have hP := unhide HP
        rw [if_neg h0, if_neg h1, if_pos h2] at hP
        subst hP
        have e0 : (k.tmod 5 == 0) = false := by simpa using h0
        have e1 : (k.tmod 5 == 1) = false := by simpa using h1
        have e2 : (k.tmod 5 == -1) = true := by simpa using h2
        clear HP h0 h1 h2
        unfold Pl.val saCells
        go_enter Try.func8, Try.ntmps8
        go_wp2
        go_ret
        exact ⟨rfl, hb0⟩
      · by_cases h3 : k.tmod 5 = 2
        · have hP := unhide HP
          rw [if_neg h0, if_neg h1, if_neg h2, if_pos h3] at hP
          subst hP
          have e0 : (k.tmod 5 == 0) = false := by simpa using h0
          have e1 : (k.tmod 5 == 1) = false := by simpa using h1
          have e2 : (k.tmod 5 == -1) = false := by simpa using h2
          have e3 : (k.tmod 5 == 2) = true := by simpa using h3
          clear HP h0 h1 h2 h3
          unfold Pl.val deCells
          go_enter Try.func8, Try.ntmps8
          go_wp2
          go_ret
          exact ⟨rfl, hb0⟩
        · by_cases h4 : k.tmod 5 = -2
          · have hP := unhide HP
            rw [if_neg h0, if_neg h1, if_neg h2, if_neg h3, if_pos h4] at hP
            subst hP
            have e0 : (k.tmod 5 == 0) = false := by simpa using h0
            have e1 : (k.tmod 5 == 1) = false := by simpa using h1
            have e2 : (k.tmod 5 == -1) = false := by simpa using h2
            have e3 : (k.tmod 5 == 2) = false := by simpa using h3
            have e4 : (k.tmod 5 == -2) = true := by simpa using h4
            clear HP h0 h1 h2 h3 h4
            unfold Pl.val deCells
            go_enter Try.func8, Try.ntmps8
            go_wp2
            go_ret
            exact ⟨rfl, hb0⟩
          · by_cases h5 : k.tmod 5 = 3
            · have hP := unhide HP
              rw [if_neg h0, if_neg h1, if_neg h2, if_neg h3, if_neg h4, if_pos h5] at hP
              subst hP
              have e0 : (k.tmod 5 == 0) = false := by simpa using h0
              have e1 : (k.tmod 5 == 1) = false := by simpa using h1
              have e2 : (k.tmod 5 == -1) = false := by simpa using h2
              have e3 : (k.tmod 5 == 2) = false := by simpa using h3
              have e4 : (k.tmod 5 == -2) = false := by simpa using h4
              have e5 : (k.tmod 5 == 3) = true := by simpa using h5
              clear HP h0 h1 h2 h3 h4 h5
              unfold Pl.val
              go_enter Try.func8, Try.ntmps8
              go_wp2
              go_ret
              exact ⟨rfl, hb0⟩
            · by_cases h6 : k.tmod 5 = -3
              · have hP := unhide HP
                rw [if_neg h0, if_neg h1, if_neg h2, if_neg h3, if_neg h4, if_neg h5, if_pos h6] at hP
                subst hP
                have e0 : (k.tmod 5 == 0) = false := by simpa using h0
                have e1 : (k.tmod 5 == 1) = false := by simpa using h1
                have e2 : (k.tmod 5 == -1) = false := by simpa using h2
                have e3 : (k.tmod 5 == 2) = false := by simpa using h3
                have e4 : (k.tmod 5 == -2) = false := by simpa using h4
                have e5 : (k.tmod 5 == 3) = false := by simpa using h5
                have e6 : (k.tmod 5 == -3) = true := by simpa using h6
                clear HP h0 h1 h2 h3 h4 h5 h6
                unfold Pl.val
                go_enter Try.func8, Try.ntmps8
                go_wp2
                go_ret
                exact ⟨rfl, hb0⟩
              · have hP := unhide HP
                rw [if_neg h0, if_neg h1, if_neg h2, if_neg h3, if_neg h4, if_neg h5, if_neg h6] at hP
                subst hP
                have e0 : (k.tmod 5 == 0) = false := by simpa using h0
                have e1 : (k.tmod 5 == 1) = false := by simpa using h1
                have e2 : (k.tmod 5 == -1) = false := by simpa using h2
                have e3 : (k.tmod 5 == 2) = false := by simpa using h3
                have e4 : (k.tmod 5 == -2) = false := by simpa using h4
                have e5 : (k.tmod 5 == 3) = false := by simpa using h5
                have e6 : (k.tmod 5 == -3) = false := by simpa using h6
                clear HP h0 h1 h2 h3 h4 h5 h6
                unfold Pl.val
                go_enter Try.func8, Try.ntmps8
                go_wp2
                go_ret
                exact ⟨rfl, hb0⟩
end Go.Proofs.Ytlanplknendmaaa
