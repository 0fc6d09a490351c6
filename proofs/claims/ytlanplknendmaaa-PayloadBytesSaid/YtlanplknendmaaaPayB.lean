/-
  WHAT package payload's Right RETURNS.
-/
import Derived.Test.YtlanplknendmaaaPayA
namespace Go.Proofs.Ytlanplknendmaaa
open Go.RowKit
set_option linter.unusedSimpArgs false
set_option linter.unusedVariables false

theorem wlong_calls (n : Nat) (w : World) :
    Calls Try.prog 45 #[.int .u64 (n : Int)] w fun e w' => e = .returned (.string (str (pBig n 8))) ∧ Below w.heap.size w w' := by
  have hc := number_calls n 8 (by decide) (by decide) w
  generalize pBig n 8 = B at *
  have Hc := hide hc
  clear hc
  go_enter Try.func45, Try.ntmps45
  go_wp2_with fail
  refine (unhide Hc).mono ?_
  rintro e w' ⟨rfl, hb⟩
  go_wp2
  go_ret
  exact ⟨rfl, hb⟩
set_option maxRecDepth 100000 in
theorem mayBe_calls (p : Pl) (hp : p.most 4611686018427387904) (w : World) :
    Calls Try.prog 22 #[p.val] w fun e w' => e = .returned (.bool p.right) ∧ Below w.heap.size w w' := by
  have h1 := as_tr p
  have h2 := as_sa p
  have h3 := as_de p
  generalize hV : p.val = V at *
  have hr0 := Below.refl w.heap.size w
  cases p with
  | no =>
    simp only [Pl.isTr, Pl.isSa, Pl.isDe, Pl.right, Pl.trC, Pl.saC, Pl.deC] at *
    generalize trCells _ _ _ _ = C1 at *
    generalize saCells _ _ = C2 at *
    generalize deCells _ _ _ = C3 at *
    clear hV
    go_enter Try.func22, Try.ntmps22
    go_wp2
    go_ret
    exact ⟨rfl, hr0⟩
  | num =>
    simp only [Pl.isTr, Pl.isSa, Pl.isDe, Pl.right, Pl.trC, Pl.saC, Pl.deC] at *
    generalize trCells _ _ _ _ = C1 at *
    generalize saCells _ _ = C2 at *
    generalize deCells _ _ _ = C3 at *
    clear hV
    go_enter Try.func22, Try.ntmps22
    go_wp2
    go_ret
    exact ⟨rfl, hr0⟩
  | tr o a b n =>
    simp only [Pl.isTr, Pl.isSa, Pl.isDe, Pl.right, Pl.trC, Pl.saC, Pl.deC] at *
    have k1 := hide fun W => right_calls a hp.1 W
    have k2 := hide fun W => right_calls b hp.2 W
    generalize pRight a = x at *
    generalize pRight b = y at *
    have hn : (((n : Int) != 0) = !decide (n = 0)) := by
      by_cases h : n = 0
      · subst h; rfl
      · have : ((n : Int) != 0) = true := by simp; omega
        rw [this]; simp [h]
    generalize saCells _ _ = C2 at *
    generalize deCells _ _ _ = C3 at *
    clear hV hp
    unfold trCells at h1
    have hb0 := (Below.refl w.heap.size w).alloc (Nat.le_refl _) (.cells #[.int .u32 (o : Int), .string (str a), .string (str b), .int .u64 (n : Int)] 44)
    go_enter Try.func22, Try.ntmps22
    go_wp2_with fail
    refine (unhide k1 _).mono ?_
    rintro e w1 ⟨rfl, b1⟩
    obtain ⟨c1, -, z1, -⟩ := alloc_kept b1
    have hb1 := hb0.trans (b1.mono (by simp))
    have d1 := c1 2
    have d2 := c1 3
    simp only [List.getElem?_toArray, List.getElem?_cons_succ, List.getElem?_cons_zero] at d1 d2
    clear c1 b1 hb0 k1
    cases x with
    | false =>
      go_wp2_with fail
      go_ret
      exact ⟨rfl, hb1⟩
    | true =>
      go_wp2_with fail
      refine (unhide k2 _).mono ?_
      rintro e w2 ⟨rfl, b2⟩
      have d3 := ((bcell b2).1 w.heap.size 3 z1).trans d2
      have hb2 := hb1.trans (b2.mono (Nat.le_of_lt z1))
      clear d1 d2
      cases y with
      | false =>
        go_wp2_with fail
        go_ret
        exact ⟨rfl, hb2⟩
      | true =>
        go_wp2_with fail
        go_ret
        exact ⟨rfl, hb2⟩
  | sa a b =>
    simp only [Pl.isTr, Pl.isSa, Pl.isDe, Pl.right, Pl.trC, Pl.saC, Pl.deC] at *
    have k1 := hide fun W => right_calls a hp.1 W
    have k2 := hide fun W => says_calls b hp.2 W
    generalize pRight a = x at *
    generalize pSays b = y at *
    generalize trCells _ _ _ _ = C2 at *
    generalize deCells _ _ _ = C3 at *
    clear hV hp
    unfold saCells at h2
    have hb0 := (Below.refl w.heap.size w).alloc (Nat.le_refl _) (.cells #[.string (str a), .string (str b)] 51)
    go_enter Try.func22, Try.ntmps22
    go_wp2_with fail
    refine (unhide k1 _).mono ?_
    rintro e w1 ⟨rfl, b1⟩
    obtain ⟨c1, -, z1, -⟩ := alloc_kept b1
    have hb1 := hb0.trans (b1.mono (by simp))
    have d1 := c1 1
    simp only [List.getElem?_toArray, List.getElem?_cons_succ, List.getElem?_cons_zero] at d1
    clear c1 b1 hb0 k1
    cases x with
    | false =>
      go_wp2_with fail
      go_ret
      exact ⟨rfl, hb1⟩
    | true =>
      go_wp2_with fail
      refine (unhide k2 _).mono ?_
      rintro e w2 ⟨rfl, b2⟩
      have hb2 := hb1.trans (b2.mono (Nat.le_of_lt z1))
      go_wp2_with fail
      go_ret
      exact ⟨rfl, hb2⟩
  | de o a n =>
    simp only [Pl.isTr, Pl.isSa, Pl.isDe, Pl.right, Pl.trC, Pl.saC, Pl.deC] at *
    have k1 := hide fun W => right_calls a hp W
    generalize pRight a = x at *
    generalize trCells _ _ _ _ = C2 at *
    generalize saCells _ _ = C3 at *
    clear hV hp
    unfold deCells at h3
    have hb0 := (Below.refl w.heap.size w).alloc (Nat.le_refl _) (.cells #[.int .u32 (o : Int), .string (str a), .int .u64 (n : Int)] 53)
    go_enter Try.func22, Try.ntmps22
    go_wp2_with fail
    refine (unhide k1 _).mono ?_
    rintro e w1 ⟨rfl, b1⟩
    have hb1 := hb0.trans (b1.mono (by simp))
    go_wp2_with fail
    go_ret
    exact ⟨rfl, hb1⟩
end Go.Proofs.Ytlanplknendmaaa
