/-
  WHAT THE LAWS OF LAYER 2 LEAN ON: the chapter's example.
-/
import Derived.Test.YtdkcgiifldhdeaaDoorNameQuote
import Derived.Test.YtdkcgiifldhdeaaDoorNameRight
import Derived.Test.YtdkcgiifldhdeaaDoorQuietTail
namespace Go.Proofs.YtdkcgiifldhdeaaDoor
open Go.RowKit
set_option linter.unusedSimpArgs false
set_option linter.unusedVariables false

theorem nq : pQuote [97, 206, 177, 10] = [34, 97, 92, 117, 51, 98, 49, 59, 92, 117, 97, 59, 34] := by decide +kernel
theorem nr1 : pRight [206, 177, 49] = true := by decide +kernel
theorem nr2 : pRight [49, 97] = false := by decide +kernel
set_option maxHeartbeats 1000000 in
set_option maxRecDepth 100000 in
theorem nawake_calls (w : World) (tab : Tab16 w) :
    Calls Tryd.prog 9 #[] w fun e w' => e = .returned (.bool true) ∧ Below w.heap.size w w' := by
  have h1 : ∀ w, Tab16 w → Calls Tryd.prog 22 #[.string ⟨#[97, 206, 177, 10]⟩] w fun e w' => e = .returned (.string ⟨#[34, 97, 92, 117, 51, 98, 49, 59, 92, 117, 97, 59, 34]⟩) ∧ Below w.heap.size w w' := fun w ht => by
    have := quote_calls [97, 206, 177, 10] (by decide) w ht
    rw [nq] at this; exact this
  have h2 : ∀ w, Calls Tryd.prog 12 #[.string ⟨#[206, 177, 49]⟩] w fun e w' => e = .returned (.bool true) ∧ Below w.heap.size w w' := fun w => by
    have := right_calls [206, 177, 49] (by decide) w
    rw [nr1] at this; exact this
  have h3 : ∀ w, Calls Tryd.prog 12 #[.string ⟨#[49, 97]⟩] w fun e w' => e = .returned (.bool false) ∧ Below w.heap.size w w' := fun w => by
    have := right_calls [49, 97] (by decide) w
    rw [nr2] at this; exact this
  have H1 := hide h1
  have H2 := hide h2
  have H3 := hide h3
  have HT := hide tab
  clear h1 h2 h3 tab
  go_enter Tryd.func9, Tryd.ntmps9
  go_wp2_with fail
  refine (unhide H1 _ (unhide HT)).mono ?_
  rintro e w1 ⟨rfl, hb1⟩
  go_wp2_with fail
  refine (unhide H2 _).mono ?_
  rintro e w2 ⟨rfl, hb2⟩
  go_wp2_with fail
  refine (unhide H3 _).mono ?_
  rintro e w3 ⟨rfl, hb3⟩
  go_wp2
  go_ret
  exact ⟨rfl, (hb1.trans (hb2.mono hb1.size)).trans (hb3.mono (Nat.le_trans hb1.size hb2.size))⟩
end Go.Proofs.YtdkcgiifldhdeaaDoor
