/-
  AmountTexts: the digits of any number, and the number of any digits, as the document says.
-/
import Derived.Test.YtfdnpmanepoblaaDoorAmtY
import Derived.Test.YtfdnpmanepoblaaDoorAmtB
namespace Go.Proofs.YtfdnpmanepoblaaDoor
open Go Go.RowKit
set_option linter.unusedSimpArgs false
set_option linter.unusedVariables false

set_option maxHeartbeats 4000000 in
set_option maxRecDepth 100000 in
theorem amountTexts_walk (n : Nat) (hn : n < 18446744073709551616) (l : List UInt8) (hl : l.length ≤ maxLen) (w : World) (T : Pow10 w) (E : Errs w) :
    Calls Tryd.prog 3 #[.int .u64 (n : Int), .string (str l)] w fun e w' => e = .returned (.bool true) ∧ Below w.heap.size w w' := by
  have A := hide awake_calls
  have HT := hide T
  have HE := hide E
  clear T E
  by_cases h2 : l.length ≤ 200
  · have hg : decide ((200 : Int) < (l.length : Int)) = false := by simp; omega
    have c1 := hide fun W t e => aread_calls l (by omega) W t e
    have c2 := hide fun W => rread8_calls l (by omega) W
    have hdl := pDec_len n hn
    have c3 := hide fun W t => text_calls n hn W t
    have c4 := fun W t e => aread_calls (pDec n) (by omega) W t e
    rw [pRead8_yes (pDec n) n ⟨hn, rfl⟩] at c4
    have C4 := hide c4
    have c5 := hide fun W => rtext8_calls n hn W
    generalize pDec n = D at *
    generalize pRead8 l = R at *
    have e1 : ((str D).toList == (str D).toList) = true := by simp
    have e2 : ((R.1 : Int) == (R.1 : Int)) = true := by simp
    have e3 : (R.2 == R.2) = true := by simp
    have e4 : ((n : Int) == (n : Int)) = true := by simp
    clear c4 hdl h2
    go_enter Tryd.func3, Tryd.ntmps3
    go_wp2_with fail
    refine (unhide A _).mono ?_
    rintro e w1 ⟨rfl, b1⟩
    have t1 := (unhide HT).below b1 (Nat.le_refl _)
    have r1 := (unhide HE).below b1 (Nat.le_refl _)
    go_wp2_with fail
    refine (unhide c1 _ t1 r1).mono ?_
    rintro e w2 ⟨rfl, b2⟩
    have t2 := t1.below b2 (Nat.le_refl _)
    have r2 := r1.below b2 (Nat.le_refl _)
    have bb2 := b1.trans (b2.mono b1.size)
    clear t1 r1
    go_wp2_with fail
    refine (unhide c2 _).mono ?_
    rintro e w3 ⟨rfl, b3⟩
    have t3 := t2.below b3 (Nat.le_refl _)
    have r3 := r2.below b3 (Nat.le_refl _)
    have bb3 := bb2.trans (b3.mono bb2.size)
    clear t2 r2
    go_wp2_with fail
    refine (unhide c3 _ t3).mono ?_
    rintro e w4 ⟨rfl, b4⟩
    have t4 := t3.below b4 (Nat.le_refl _)
    have r4 := r3.below b4 (Nat.le_refl _)
    have bb4 := bb3.trans (b4.mono bb3.size)
    clear t3 r3
    go_wp2_with fail
    refine (unhide C4 _ t4 r4).mono ?_
    rintro e w5 ⟨rfl, b5⟩
    have t5 := t4.below b5 (Nat.le_refl _)
    have bb5 := bb4.trans (b5.mono bb4.size)
    clear t4 r4
    go_wp2_with fail
    refine (unhide A _).mono ?_
    rintro e w6 ⟨rfl, b6⟩
    have t6 := t5.below b6 (Nat.le_refl _)
    have bb6 := bb5.trans (b6.mono bb5.size)
    clear t5
    go_wp2_with fail
    refine (unhide c3 _ t6).mono ?_
    rintro e w7 ⟨rfl, b7⟩
    have bb7 := bb6.trans (b7.mono bb6.size)
    go_wp2_with fail
    refine (unhide c5 _).mono ?_
    rintro e w8 ⟨rfl, b8⟩
    have bb8 := bb7.trans (b8.mono bb7.size)
    go_wp2
    go_ret
    exact ⟨rfl, bb8⟩
  · have hg : decide ((200 : Int) < (l.length : Int)) = true := by simp; omega
    clear h2
    go_enter Tryd.func3, Tryd.ntmps3
    go_wp2_with fail
    refine (unhide A _).mono ?_
    rintro e w1 ⟨rfl, b1⟩
    go_wp2_with fail
    refine (unhide A _).mono ?_
    rintro e w2 ⟨rfl, b2⟩
    go_wp2_with fail
    go_ret
    exact ⟨rfl, b1.trans (b2.mono b1.size)⟩
end Go.Proofs.YtfdnpmanepoblaaDoor
