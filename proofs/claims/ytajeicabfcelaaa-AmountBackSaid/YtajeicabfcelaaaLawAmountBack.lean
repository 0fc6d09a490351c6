/-
  THE WALK OF THE LAW AmountBack: it returns true, and nothing that was there has turned.
-/
import Derived.Test.YtajeicabfcelaaaAmtS
namespace Go.Proofs.Ytajeicabfcelaaa
open Go.RowKit
set_option linter.unusedSimpArgs false
set_option linter.unusedVariables false

/-- What is known of the two of a Split. -/
theorem split_facts (a part whole : Nat) (ha : a < 18446744073709551616) :
    ∃ P R : Nat, Hid (pSplit a part whole = (P, R)) ∧ IntKind.u64.wrap ((P : Int) + (R : Int)) = (a : Int) ∧ decide (P ≤ a) = true ∧ Hid (whole ≤ part → P = a ∧ R = 0) ∧ Hid (part = 0 → 0 < whole → P = 0 ∧ R = a) := by
  unfold pSplit
  by_cases h : whole ≤ part
  · refine ⟨a, 0, by rw [if_pos h]; exact rfl, by rw [IntKind.wrap_u64]; omega, by simp, fun _ => ⟨rfl, rfl⟩, fun h1 h2 => by omega⟩
  · have hs := share_le a part whole (by omega)
    refine ⟨a * part / whole, a - a * part / whole, by rw [if_neg h]; exact rfl, ?_, by simpa using hs, fun h' => absurd h' h, fun h1 h2 => by rw [h1]; simp⟩
    generalize a * part / whole = S at *
    rw [IntKind.wrap_u64]; omega
set_option maxHeartbeats 1000000 in
set_option maxRecDepth 100000 in
theorem amountBack_walk (a b part whole : Nat) (ha : a < 18446744073709551616) (hb : b < 18446744073709551616) (hp : part < 18446744073709551616) (hw : whole < 18446744073709551616) (w : World) :
    Calls Try.prog 6 #[.int .u64 (a : Int), .int .u64 (b : Int), .int .u64 (part : Int), .int .u64 (whole : Int)] w fun e w' => e = .returned (.bool true) ∧ Below w.heap.size w w' := by
  have HA := hide (fun w => amtAdd_calls a b ha hb w)
  have HS := hide (fun w => split_calls a part whole ha hp hw w)
  obtain ⟨P, R, hPR, f1, f2, f3, f4⟩ := split_facts a part whole ha
  rw [unhide hPR] at HS
  simp only [] at HS
  have HB := hide (fun (h : a + b < 18446744073709551616) w => amtSub_calls (a + b) b h hb w)
  go_enter Try.func6, Try.ntmps6
  go_wp2_with fail
  refine (awake_calls _).mono ?_
  rintro e w1 ⟨rfl, hb1⟩
  go_wp2_with fail
  refine (unhide HA _).mono ?_
  rintro e w2 ⟨rfl, hw2⟩
  subst hw2
  by_cases hov : 18446744073709551616 ≤ a + b
  case' pos =>
    rw [show pAdd a b = (0, 10) by unfold pAdd; rw [if_pos hov]]
    simp only []
    have Hov := hide hov
    clear hov
    go_wp2_with fail
  case' neg =>
    rw [show pAdd a b = (a + b, 0) by unfold pAdd; rw [if_neg hov]]
    simp only []
    have hS := unhide HB (by omega)
    rw [show pSub (a + b) b = (a, 0) by unfold pSub; rw [if_neg (by omega)]; congr 1; omega] at hS
    simp only [] at hS
    generalize a + b = s at *
    have HSS := hide hS
    clear hov hS HB
    go_wp2_with fail
    refine (unhide HSS _).mono ?_
    rintro e w2 ⟨rfl, hw2⟩
    subst hw2
    go_wp2_with fail
  all_goals
    refine (unhide HS _).mono ?_
    rintro e w3 ⟨rfl, hb3⟩
    go_wp2_with fail
    refine (awake_calls _).mono ?_
    rintro e w4 ⟨rfl, hb4⟩
    have bel := hb1.trans ((hb3.trans (hb4.mono hb3.size)).mono hb1.size)
    have BEL := hide bel
    clear bel hb1 hb3 hb4 hPR
    by_cases hlt : part < whole
    · have d1 : decide (part < whole) = true := by simpa using hlt
      by_cases h0 : part = 0
      · obtain ⟨rfl, rfl⟩ := unhide f4 h0 (by omega)
        subst h0
        have d2 : ((whole : Int) == 0) = false := by simp; omega
        clear f3 f4 hlt
        go_wp2
        go_ret
        exact ⟨rfl, unhide BEL⟩
      · have d2 : ((part : Int) == 0) = false := by simp; omega
        have d3 : ((part : Int) != 0) = true := by simp; omega
        clear f3 f4 hlt h0
        go_wp2
        go_ret
        exact ⟨rfl, unhide BEL⟩
    · have d1 : decide (part < whole) = false := by simpa using hlt
      obtain ⟨rfl, rfl⟩ := unhide f3 (by omega)
      by_cases h0 : part = 0
      · subst h0
        obtain rfl : whole = 0 := by omega
        clear f3 f4 hlt
        go_wp2
        go_ret
        exact ⟨rfl, unhide BEL⟩
      · have d2 : ((part : Int) == 0) = false := by simp; omega
        have d3 : ((part : Int) != 0) = true := by simp; omega
        clear f3 f4 hlt h0
        go_wp2
        go_ret
        exact ⟨rfl, unhide BEL⟩
end Go.Proofs.Ytajeicabfcelaaa
