/-
  THE WALK OF THE LAW NameQuotes: whatever the two texts, it returns true, and nothing that was there has turned.
-/
import Derived.Test.YtdkcgiifldhdeaaDoorUnqA
import Derived.Test.YtdkcgiifldhdeaaDoorUnqR
import Derived.Test.YtdkcgiifldhdeaaDoorLawNameKeeps
namespace Go.Proofs.YtdkcgiifldhdeaaDoor
open Go.RowKit
set_option linter.unusedSimpArgs false
set_option linter.unusedVariables false

theorem Errs.below' {w w' : World} (h : Errs w) (hb : Below w.heap.size w w') : Errs w' := h.below hb (Nat.le_refl _)
set_option maxHeartbeats 4000000 in
set_option maxRecDepth 100000 in
theorem nameQuotes_walk (a b : List UInt8) (ha : a.length ≤ maxLen) (hb : b.length ≤ maxLen) (w : World) (tab : Tab16 w) (er : Errs w) :
    Calls Tryd.prog 5 #[.string (str a), .string (str b)] w fun e w' => e = .returned (.bool true) ∧ Below w.heap.size w w' := by
  unfold maxLen at ha hb
  have HT := hide tab
  have HE := hide er
  clear tab er
  by_cases hok : a.length ≤ 2000 ∧ b.length ≤ 2000
  · have d1 : decide ((2000 : Int) < (a.length : Int)) = false := by simp; omega
    have d2 : decide ((2000 : Int) < (b.length : Int)) = false := by simp; omega
    have cu := fun w hE hT => unquote_calls b (by omega) w hE hT
    have cr := fun w => runquote_calls b (by omega) w
    have cq := fun w hT => quote_calls a (by omega) w hT
    have cs := fun w => rquote_calls a (by omega) w
    generalize pQuote a = F at *
    have Cu := hide cu
    have Cr := hide cr
    have Cq := hide cq
    have Cs := hide cs
    clear cu cr cq cs hok
    go_enter Tryd.func5, Tryd.ntmps5
    go_wp2_with fail
    refine (nawake_calls _ (unhide HT)).mono ?_
    rintro en w1 ⟨rfl, b1⟩
    go_wp2_with fail
    refine (unhide Cu _ ((unhide HE).below' b1) ((unhide HT).below' b1)).mono ?_
    rintro en w2 ⟨r, ok, rfl, u1, hb2⟩
    have b2 := b1.trans (hb2.mono b1.size)
    have U1 := hide u1
    clear hb2 b1 u1
    go_wp2_with fail
    refine (unhide Cr _).mono ?_
    rintro en w3 ⟨r', ok', rfl, u2, hb3⟩
    have b3 := b2.trans (hb3.mono b2.size)
    obtain ⟨e1, e2⟩ := unq_one (unhide U1) u2
    subst e1 e2
    clear hb3 b2 u2 U1
    go_wp2_with fail
    refine (nawake_calls _ ((unhide HT).below' b3)).mono ?_
    rintro en w4 ⟨rfl, hb4⟩
    have b4 := b3.trans (hb4.mono b3.size)
    clear hb4 b3
    go_wp2_with fail
    refine (unhide Cq _ ((unhide HT).below' b4)).mono ?_
    rintro en w5 ⟨rfl, hb5⟩
    have b5 := b4.trans (hb5.mono b4.size)
    clear hb5 b4
    go_wp2_with fail
    refine (unhide Cs _).mono ?_
    rintro en w6 ⟨rfl, hb6⟩
    go_wp2
    go_ret
    exact ⟨by simp, b5.trans (hb6.mono b5.size)⟩
  · have hds : Hid ((decide ((2000 : Int) < (a.length : Int)) || decide ((2000 : Int) < (b.length : Int))) = true) := by
      show _ = true
      simp only [Bool.or_eq_true, decide_eq_true_eq]
      omega
    clear hok
    go_enter Tryd.func5, Tryd.ntmps5
    go_wp2_with fail
    refine (nawake_calls _ (unhide HT)).mono ?_
    rintro en w1 ⟨rfl, b1⟩
    cases d1 : decide ((2000 : Int) < (a.length : Int)) with
    | true =>
      go_wp2_with fail
      refine (nawake_calls _ ((unhide HT).below' b1)).mono ?_
      rintro en w2 ⟨rfl, hb2⟩
      go_wp2
      go_ret
      exact ⟨rfl, b1.trans (hb2.mono b1.size)⟩
    | false =>
    have d2 : decide ((2000 : Int) < (b.length : Int)) = true := by
      have := unhide hds
      rw [d1] at this
      simpa using this
    go_wp2_with fail
    refine (nawake_calls _ ((unhide HT).below' b1)).mono ?_
    rintro en w2 ⟨rfl, hb2⟩
    go_wp2
    go_ret
    exact ⟨rfl, b1.trans (hb2.mono b1.size)⟩
end Go.Proofs.YtdkcgiifldhdeaaDoor
