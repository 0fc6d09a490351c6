/-
  THE WALK OF THE LAW NameTells: whatever the text, it returns true, and nothing that was there has turned.
-/
import Derived.Test.YtngmcipmmeabmaaDoorNameRef3
namespace Go.Proofs.YtngmcipmmeabmaaDoor
open Go.RowKit
set_option linter.unusedSimpArgs false
set_option linter.unusedVariables false

set_option maxHeartbeats 4000000 in
set_option maxRecDepth 100000 in
theorem nameTells_walk (l : List UInt8) (hl : l.length ≤ maxLen) (w : World) (tab : Tab16 w) :
    Calls Tryd.prog 3 #[.string (str l)] w fun e w' => e = .returned (.bool true) ∧ Below w.heap.size w w' := by
  unfold maxLen at hl
  have HT := hide tab
  clear tab
  by_cases hbig : 5000 < l.length
  · have hd : decide ((5000 : Int) < (l.length : Int)) = true := by simp; omega
    go_enter Tryd.func3, Tryd.ntmps3
    go_wp2_with fail
    refine (nawake_calls _ (unhide HT)).mono ?_
    rintro en w1 ⟨rfl, hb1⟩
    go_wp2_with fail
    refine (nawake_calls _ ((unhide HT).below' hb1)).mono ?_
    rintro en w2 ⟨rfl, hb2⟩
    go_wp2
    go_ret
    exact ⟨rfl, hb1.trans (hb2.mono hb1.size)⟩
  · have hd : decide ((5000 : Int) < (l.length : Int)) = false := by simp; omega
    have cN := fun w => runes_calls l (by omega) w
    have cC := fun w => count_calls l (by omega) w
    have cR := fun w => right_calls l (by omega) w
    have cRR := fun w => rright_calls l (by omega) w
    have cS := fun w => says_calls l (by omega) w
    have cSS := fun w => rsays_calls l (by omega) w
    generalize pRunes l = ru at *
    generalize pStrays l = st at *
    generalize pRight l = ri at *
    generalize pSays l = sa at *
    have CN := hide cN
    have CC := hide cC
    have CR := hide cR
    have CRR := hide cRR
    have CS := hide cS
    have CSS := hide cSS
    clear cN cC cR cRR cS cSS
    go_enter Tryd.func3, Tryd.ntmps3
    go_wp2_with fail
    refine (nawake_calls _ (unhide HT)).mono ?_
    rintro en w1 ⟨rfl, b1⟩
    go_wp2_with fail
    refine (unhide CN _).mono ?_
    rintro en w2 ⟨rfl, hb2⟩
    have b2 := b1.trans (hb2.mono b1.size)
    clear hb2 b1
    go_wp2_with fail
    refine (unhide CC _).mono ?_
    rintro en w3 ⟨rfl, hb3⟩
    have b3 := b2.trans (hb3.mono b2.size)
    clear hb3 b2
    go_wp2_with fail
    refine (nawake_calls _ ((unhide HT).below' b3)).mono ?_
    rintro en w4 ⟨rfl, hb4⟩
    have b4 := b3.trans (hb4.mono b3.size)
    clear hb4 b3
    go_wp2_with fail
    refine (unhide CR _).mono ?_
    rintro en w5 ⟨rfl, hb5⟩
    have b5 := b4.trans (hb5.mono b4.size)
    clear hb5 b4
    go_wp2_with fail
    refine (unhide CRR _).mono ?_
    rintro en w6 ⟨rfl, hb6⟩
    have b6 := b5.trans (hb6.mono b5.size)
    clear hb6 b5
    go_wp2_with fail
    refine (unhide CS _).mono ?_
    rintro en w7 ⟨rfl, hb7⟩
    have b7 := b6.trans (hb7.mono b6.size)
    clear hb7 b6
    go_wp2_with fail
    refine (unhide CSS _).mono ?_
    rintro en w8 ⟨rfl, hb8⟩
    have b8 := b7.trans (hb8.mono b7.size)
    clear hb8 b7
    go_wp2
    go_ret
    exact ⟨rfl, b8⟩
end Go.Proofs.YtngmcipmmeabmaaDoor
