/-
  THE WALK OF THE LAW NameFolds: whatever the two texts, it returns true, and nothing that was there has turned.
-/
import Derived.Test.YtngmcipmmeabmaaDoorNameRef4
import Derived.Test.YtngmcipmmeabmaaDoorNameRef5
namespace Go.Proofs.YtngmcipmmeabmaaDoor
open Go.RowKit
set_option linter.unusedSimpArgs false
set_option linter.unusedVariables false

set_option maxHeartbeats 4000000 in
set_option maxRecDepth 100000 in
theorem nameFolds_walk (a b : List UInt8) (ha : a.length ≤ maxLen) (hb : b.length ≤ maxLen) (w : World) (tab : Tab16 w) (ut : UTabs w) :
    Calls Tryd.prog 4 #[.string (str a), .string (str b)] w fun e w' => e = .returned (.bool true) ∧ Below w.heap.size w w' := by
  unfold maxLen at ha hb
  have HT := hide tab
  have HU := hide ut
  clear tab ut
  by_cases hok : a.length ≤ 5000 ∧ b.length ≤ 5000
  · have d1 : decide ((5000 : Int) < (a.length : Int)) = false := by simp; omega
    have d2 : decide ((5000 : Int) < (b.length : Int)) = false := by simp; omega
    have cf := fun w => fold_calls a (by omega) w
    have cr := fun w => rfold_calls a (by omega) w
    have co := fun w hT => order_calls a b (by omega) (by omega) w hT
    have cq := fun w => rorder_calls a b (by omega) (by omega) w
    generalize pFold a = F at *
    generalize ordN (nums a) (nums b) = o at *
    have Cf := hide cf
    have Cr := hide cr
    have Co := hide co
    have Cq := hide cq
    clear cf cr co cq hok
    go_enter Tryd.func4, Tryd.ntmps4
    go_wp2_with fail
    refine (nawake_calls _ (unhide HT)).mono ?_
    rintro en w1 ⟨rfl, b1⟩
    go_wp2_with fail
    refine (nawake_calls _ ((unhide HT).below' b1)).mono ?_
    rintro en w2 ⟨rfl, hb2⟩
    have b2 := b1.trans (hb2.mono b1.size)
    clear hb2 b1
    go_wp2_with fail
    refine (unhide Cf _).mono ?_
    rintro en w3 ⟨rfl, hb3⟩
    have b3 := b2.trans (hb3.mono b2.size)
    clear hb3 b2
    go_wp2_with fail
    refine (unhide Cr _).mono ?_
    rintro en w4 ⟨rfl, hb4⟩
    have b4 := b3.trans (hb4.mono b3.size)
    clear hb4 b3
    go_wp2_with fail
    refine (unhide Co _ ((unhide HU).below' b4)).mono ?_
    rintro en w5 ⟨rfl, hb5⟩
    have b5 := b4.trans (hb5.mono b4.size)
    clear hb5 b4
    go_wp2_with fail
    refine (unhide Cq _).mono ?_
    rintro en w6 ⟨rfl, hb6⟩
    go_wp2
    go_ret
    exact ⟨rfl, b5.trans (hb6.mono b5.size)⟩
  · have hds : Hid ((decide ((5000 : Int) < (a.length : Int)) || decide ((5000 : Int) < (b.length : Int))) = true) := by
      show _ = true
      simp only [Bool.or_eq_true, decide_eq_true_eq]
      omega
    clear hok
    go_enter Tryd.func4, Tryd.ntmps4
    go_wp2_with fail
    refine (nawake_calls _ (unhide HT)).mono ?_
    rintro en w1 ⟨rfl, b1⟩
    cases d1 : decide ((5000 : Int) < (a.length : Int)) with
    | true =>
      go_wp2_with fail
      refine (nawake_calls _ ((unhide HT).below' b1)).mono ?_
      rintro en w2 ⟨rfl, hb2⟩
      go_wp2
      go_ret
      exact ⟨rfl, b1.trans (hb2.mono b1.size)⟩
    | false =>
    have d2 : decide ((5000 : Int) < (b.length : Int)) = true := by
      have := unhide hds
      rw [d1] at this
      simpa using this
    go_wp2_with fail
    refine (nawake_calls _ ((unhide HT).below' b1)).mono ?_
    rintro en w2 ⟨rfl, hb2⟩
    go_wp2
    go_ret
    exact ⟨rfl, b1.trans (hb2.mono b1.size)⟩
end Go.Proofs.YtngmcipmmeabmaaDoor
