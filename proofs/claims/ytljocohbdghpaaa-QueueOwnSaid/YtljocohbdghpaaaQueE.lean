/-
  PACKAGE queue: Ahead, Trim; the document's At, Push, Through, Ahead, Trim, Same.
-/
import Derived.Test.YtljocohbdghpaaaQueC
namespace Go.Proofs.Ytljocohbdghpaaa
open Go Go.RowKit
set_option linter.unusedSimpArgs false
set_option linter.unusedVariables false

set_option maxHeartbeats 1000000 in
set_option maxRecDepth 100000 in
theorem ahead_calls (xs : List Int) (hn : xs.length ≤ 1000000) (x y : Int) (p : Option Addr) (c : Nat) (w : World) (hB : VL w p (xs.map enI)) :
    Calls Try.prog 16 #[.slice p xs.length c, .int .i64 x, .int .i64 y] w fun e w' => e = .returned (.bool (decide (0 ≤ pAt x xs) && decide (pAt x xs < pAt y xs))) ∧ Below w.heap.size w w' := by
  have k := hide (placeI_calls xs hn x p c w hB)
  have k2 := hide (fun W (h : VL W p (xs.map enI)) => placeI_calls xs hn y p c W h)
  have HB := hide hB
  generalize xs.length = n at *
  generalize pAt x xs = R at *
  generalize pAt y xs = Q at *
  simp only [enI] at k k2
  clear hB hn
  by_cases hR : 0 ≤ R
  · have hd : decide (0 ≤ R) = true := decide_eq_true hR
    rw [hd]
    clear hR
    go_enter Try.func16, Try.ntmps16
    go_wp2_with fail
    refine (unhide k).mono ?_
    rintro e w1 ⟨rfl, b1⟩
    clear k
    have V1 := hide ((unhide HB).below b1 (Nat.le_refl _))
    go_wp2_with fail
    refine (unhide k2 _ (unhide V1)).mono ?_
    rintro e w2 ⟨rfl, b2⟩
    have b3 := b1.trans (b2.mono b1.size)
    clear b1 b2 V1 k2
    go_wp2
    go_ret
    exact ⟨rfl, b3⟩
  · have hd : decide (0 ≤ R) = false := decide_eq_false hR
    rw [hd]
    clear hR
    go_enter Try.func16, Try.ntmps16
    go_wp2_with fail
    refine (unhide k).mono ?_
    rintro e w1 ⟨rfl, b1⟩
    clear k k2
    go_wp2
    go_ret
    exact ⟨rfl, b1⟩
set_option maxHeartbeats 1000000 in
set_option maxRecDepth 100000 in
theorem trim_calls (xs : List Int) (hn : xs.length ≤ 1000000) (m : Int) (hm : -9223372036854775808 ≤ m) (hm2 : m ≤ 9223372036854775807) (p : Option Addr) (c : Nat) (w : World) (hc : xs.length ≤ c) (hp : p = none → c = 0) (hB : VL w p (xs.map enI)) :
    Calls Try.prog 18 #[.slice p xs.length c, .int .i64 m] w fun e w' => (∃ v, e = .returned v ∧ w'.ownsRow w.heap.size 3 1 v (pTrim xs m).length ((pTrim xs m).map enI)) ∧ Below w.heap.size w w' := by
  have CL := hide (fun (p' : Option Addr) (c' : Nat) W (h : VL W p' ((pTrim xs m).map enI)) => cloneI_calls (pTrim xs m) (by unfold pTrim; rw [List.length_drop]; omega) p' c' W h)
  have HB := hide hB
  obtain ⟨k, hk⟩ : ∃ k, xs.length - m.toNat = k := ⟨_, rfl⟩
  obtain ⟨r, hr⟩ : ∃ r, xs.length = k + r := ⟨xs.length - k, by omega⟩
  have HL := hide (show (pTrim xs m).length = r by unfold pTrim; rw [List.length_drop, hk]; omega)
  have HD := hide (show pTrim xs m = xs.drop k by unfold pTrim; rw [hk])
  have HN := hide hr
  generalize pTrim xs m = T at *
  obtain ⟨mm, hmm⟩ : ∃ mm : Nat, m.toNat = mm := ⟨_, rfl⟩
  have hmx : (if m < 0 then (0 : Int) else m) = (mm : Int) := by split <;> omega
  have hmn : (if (mm : Int) < (k : Int) + (r : Int) then (mm : Int) else (k : Int) + (r : Int)) = (r : Int) := by split <;> omega
  rw [unhide HL] at CL ⊢
  rw [hr] at hn hc ⊢
  clear hB hk hr hmm
  have V1 := hide (show c = k → VL w p (T.map enI) from fun h hx => absurd (by have h3 := unhide HL; have : T = [] := List.length_eq_zero_iff.1 (by omega); rw [this]; rfl) hx)
  have V2 := hide (show VL w (p.map (fun x => x.add k)) (T.map enI) from by have h := (unhide HB).mapAdd k; rwa [← List.map_drop, ← unhide HD] at h)
  go_enter Try.func18, Try.ntmps18
  go_wp2_with fail
  case inl h =>
    refine (unhide CL _ _ _ (unhide V1 h)).mono ?_
    rintro e w2 ⟨⟨v, rfl, ho⟩, b2⟩
    clear V1 V2 CL
    go_wp2
    go_ret
    exact ⟨⟨v, rfl, ho⟩, b2⟩
  case inr h =>
    refine (unhide CL _ _ _ (unhide V2)).mono ?_
    rintro e w2 ⟨⟨v, rfl, ho⟩, b2⟩
    clear V1 V2 CL
    go_wp2
    go_ret
    exact ⟨⟨v, rfl, ho⟩, b2⟩
end Go.Proofs.Ytljocohbdghpaaa
