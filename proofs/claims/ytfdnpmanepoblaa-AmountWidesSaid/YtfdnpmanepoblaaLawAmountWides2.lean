/-
  THE WALK OF THE LAW AmountWides, of all lists and all wide numbers.
-/
import Derived.Test.YtfdnpmanepoblaaLawAmountWides
namespace Go.Proofs.Ytfdnpmanepoblaa
open Go.RowKit
set_option linter.unusedSimpArgs false
set_option linter.unusedVariables false

theorem amountWides_long (xs : List Nat) (hn : 200 < xs.length) (p : Option Addr) (cap : Nat) (a b : Nat) (w : World) :
    Calls Try.prog 3 #[.slice p xs.length cap, .agg (wv a), .agg (wv b)] w fun e w' => e = .returned (.bool true) ∧ Below w.heap.size w w' := by
  have dn : decide ((200 : Int) < (xs.length : Int)) = true := by simp; omega
  have hb0 := bel2 w (.cells (wv a) 25) (.cells (wv b) 25)
  have A := hide awake_calls
  generalize wv a = C at *
  generalize wv b = D at *
  clear hn
  go_enter Try.func3, Try.ntmps3
  go_wp2_with fail
  refine (unhide A _).mono ?_
  rintro e w1 ⟨rfl, b1⟩
  have hb1 := hb0.trans (b1.mono hb0.size)
  go_wp2_with fail
  refine (unhide A _).mono ?_
  rintro e w2 ⟨rfl, b2⟩
  go_wp2_with fail
  go_ret
  exact ⟨rfl, hb1.trans (b2.mono hb1.size)⟩
theorem amountWides_walk (xs : List Nat) (hx : ∀ x ∈ xs, x < 18446744073709551616) (p : Option Addr) (cap : Nat) (a b : Nat) (ha : a < wmax) (hb : b < wmax) (w : World) (hs : USAt w p xs) :
    Calls Try.prog 3 #[.slice p xs.length cap, .agg (wv a), .agg (wv b)] w fun e w' => e = .returned (.bool true) ∧ Below w.heap.size w w' := by
  by_cases hn : xs.length ≤ 200
  · have hW : 0 < wmax := by unfold wmax; omega
    obtain ⟨s, es, tt, oo, hadd, hplus, hsum⟩ : ∃ (s : Nat) (es : Int) (tt oo : Nat), (∀ w, Calls Try.prog 5 #[.agg (wv a), .agg (wv b)] w fun e w' => e = .returned (.tuple #[.agg (wv s), .int .i64 es]) ∧ Below w.heap.size w w') ∧ (∀ w, Calls Try.prog 7 #[.agg (rv a), .agg (rv b)] w fun e w' => e = .returned (.tuple #[.agg (rv tt), .int .u64 (oo : Int)]) ∧ Below w.heap.size w w') ∧ Hid ((es = 0 ∧ oo = 0 ∧ tt = s ∧ s < wmax) ∨ (es = 10 ∧ oo = 1 ∧ s = 0)) := by
      by_cases h1 : wmax ≤ a + b
      · refine ⟨0, 10, (a + b) % wmax, 1, fun W => ?_, fun W => ?_, hide (.inr ⟨rfl, rfl, rfl⟩)⟩
        · have := wadd_calls a b ha hb W
          rw [if_pos h1] at this
          exact this
        · have := rplus_calls a b ha hb W
          rw [show (a + b) / wmax = 1 from Nat.div_eq_of_lt_le (by omega) (by omega)] at this
          exact this
      · refine ⟨a + b, 0, a + b, 0, fun W => ?_, fun W => ?_, hide (.inl ⟨rfl, rfl, rfl, by omega⟩)⟩
        · have := wadd_calls a b ha hb W
          rw [if_neg h1] at this
          exact this
        · have := rplus_calls a b ha hb W
          rw [Nat.mod_eq_of_lt (by omega), Nat.div_eq_of_lt (by omega)] at this
          exact this
    obtain ⟨d, ed, bk, nn, less, hsub, hd, hback, hless, hdif⟩ : ∃ (d : Nat) (ed : Int) (bk nn : Nat) (less : Bool), (∀ w, Calls Try.prog 8 #[.agg (wv a), .agg (wv b)] w fun e w' => e = .returned (.tuple #[.agg (wv d), .int .i64 ed]) ∧ Below w.heap.size w w') ∧ d < wmax ∧ (∀ w, Calls Try.prog 7 #[.agg (rv d), .agg (rv b)] w fun e w' => e = .returned (.tuple #[.agg (rv bk), .int .u64 (nn : Int)]) ∧ Below w.heap.size w w') ∧ less = decide (a < b) ∧ Hid ((less = true ∧ ed = 11 ∧ d = 0) ∨ (less = false ∧ ed = 0 ∧ bk = a ∧ nn = 0)) := by
      by_cases h1 : a < b
      · refine ⟨0, 11, (0 + b) % wmax, (0 + b) / wmax, true, fun W => ?_, hW, fun W => rplus_calls 0 b hW hb W, by simp [h1], hide (.inl ⟨rfl, rfl, rfl⟩)⟩
        have := wsub_calls a b ha hb W
        rw [if_pos h1] at this
        exact this
      · refine ⟨a - b, 0, a, 0, false, fun W => ?_, by omega, fun W => ?_, by simp [h1], hide (.inr ⟨rfl, rfl, rfl, rfl⟩)⟩
        · have := wsub_calls a b ha hb W
          rw [if_neg h1] at this
          exact this
        · have := rplus_calls (a - b) b (by omega) hb W
          rw [show a - b + b = a by omega, Nat.mod_eq_of_lt ha, Nat.div_eq_of_lt ha] at this
          exact this
    exact amountWides_small xs hx hn p cap a b ha hb w hs s es tt oo hadd hplus hsum d ed bk nn less hsub hd hback hless hdif
  · exact amountWides_long xs (by omega) p cap a b w
end Go.Proofs.Ytfdnpmanepoblaa
