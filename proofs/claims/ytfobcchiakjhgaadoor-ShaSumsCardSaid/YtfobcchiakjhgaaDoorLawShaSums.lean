/-
  THE WALK OF THE LAW ShaSums: whatever the text, it returns true, and nothing that was there has turned.
-/
import Derived.Test.YtfobcchiakjhgaaDoorShaLaw
import Derived.Test.YtfobcchiakjhgaaDoorRefSum
import Derived.Test.YtfobcchiakjhgaaDoorRefText
import Derived.Test.YtfobcchiakjhgaaDoorQuietRow
namespace Go.Proofs.YtfobcchiakjhgaaDoor
open Go.RowKit
set_option linter.unusedSimpArgs false
set_option linter.unusedVariables false

set_option maxHeartbeats 4000000 in
set_option maxRecDepth 100000 in
theorem shaSums_walk (l : List UInt8) (hl : l.length ≤ maxLen) (w : World) (tabs : Tabs w) :
    Calls Tryd.prog 4 #[.string (str l)] w fun e w' => e = .returned (.bool true) ∧ Below w.heap.size w w' := by
  unfold maxLen at hl
  by_cases hbig : 20000 < l.length
  · have hd : decide ((20000 : Int) < (l.length : Int)) = true := by simp; omega
    go_enter Tryd.func4, Tryd.ntmps4
    go_wp2_with fail
    refine (awake_calls _ tabs).mono ?_
    rintro en w1 ⟨rfl, hb1⟩
    go_wp2_with fail
    refine (awake_calls _ (tabs.below' hb1)).mono ?_
    rintro en w2 ⟨rfl, hb2⟩
    go_wp2
    go_ret
    exact ⟨rfl, hb1.trans (hb2.mono hb1.size)⟩
  · have hd : decide ((20000 : Int) < (l.length : Int)) = false := by simp; omega
    have hlen := pSum_length [l]
    go_enter Tryd.func4, Tryd.ntmps4
    go_wp2_with fail
    refine (awake_calls _ tabs).mono ?_
    rintro en w1 ⟨rfl, hb1⟩
    have t1 := tabs.below' hb1
    have q1 := al1 w1 (.cells #[.string (str l)] 9)
    have hb1a := (Below.refl w1.heap.size w1).alloc (Nat.le_refl _) (.cells #[.string (str l)] 9)
    go_wp2_with fail
    refine (sum_one l (by omega) w1.heap.size 1 _ _ _ q1 (t1.below' hb1a)).mono ?_
    rintro en w2 ⟨rfl, hb2⟩
    have hbw2 : Below w.heap.size w w2 := hb1.trans ((hb1a.trans (hb2.mono hb1a.size)).mono hb1.size)
    have Href : Hid (∀ w, Calls Tryd.prog 18 #[.string (str l)] w fun e w' => e = .returned (.agg (bc (pSum [l]))) ∧ Below w.heap.size w w') := rsum_calls l (by omega)
    generalize hX : pSum [l] = X at *
    have hil : (Tryd.prog.info? 30).map (·.size) = some (bc X).size := by rw [bc_size, hlen]; kernel_rfl
    have ho1 := bc_oneCell X
    have hsz : (bc (List.replicate 32 (0 : UInt8))).size = (bc X).size := by rw [bc_size, bc_size, hlen]; rfl
    have qz : (w2.alloc (.cells (bc (List.replicate 32 0)) 30)).heap[w2.heap.size]? = some (.cells (bc (List.replicate 32 0)) 30 (0, 0)) := al1 _ _
    have Hlen := hide hlen
    clear hX hlen hb1 hb1a hb2 q1 t1
    go_wp2_with (refine wpList_store_row rfl 30 (.tmp 3) (.tmp 12) rfl w2.heap.size _ rfl rfl 30 _ qz hil hsz ho1 ?_)
    have qs := setRow_heap (w2.alloc (.cells (bc (List.replicate 32 0)) 30)) w2.heap.size _ (bc X) _ _ qz
    have hb : Below w.heap.size w ((w2.alloc (.cells (bc (List.replicate 32 0)) 30)).setRow w2.heap.size (bc X)) := below_setRow (hbw2.alloc hbw2.size _) hbw2.size _
    have hz : w2.heap.size < ((w2.alloc (.cells (bc (List.replicate 32 0)) 30)).setRow w2.heap.size (bc X)).heap.size := by rw [setRow_size]; simp
    change Code.wp _ _ _ _ ((w2.alloc (.cells (bc (List.replicate 32 0)) 30)).setRow w2.heap.size (bc X))
    generalize hwr : (w2.alloc (.cells (bc (List.replicate 32 0)) 30)).setRow w2.heap.size (bc X) = wr at *
    generalize hg : w2.heap.size = gd at *
    have tb := tabs.below' hb
    clear hwr hg qz hbw2 hil ho1 hsz
    have hawk : ∀ d os, Calls Tryd.prog 14 #[] (Sort.grow (redrawn wr d) os) fun e w'' => e = .returned (.bool true) ∧ ∃ p : Regrown, w'' = Sort.grow (redrawn wr p.d) p.os := fun d os => Calls.regrown_of (awake_calls _ (tb.below' (below_regrown wr d os)))
    have hsum : ∀ d os, Calls Tryd.prog 18 #[.string (str l)] (Sort.grow (redrawn wr d) os) fun e w'' => e = .returned (.agg (bc X)) ∧ ∃ p : Regrown, w'' = Sort.grow (redrawn wr p.d) p.os := fun d os => Calls.regrown_of (unhide Href _)
    have htx : ∀ d os, Calls Tryd.prog 19 #[.agg (bc X)] (Sort.grow (redrawn wr d) os) fun e w'' => e = .returned (.string (str (pText X))) ∧ ∃ p : Regrown, w'' = Sort.grow (redrawn wr p.d) p.os := fun d os => Calls.regrown_of (text_calls X (unhide Hlen) _)
    have hrt : ∀ d os, Calls Tryd.prog 20 #[.agg (bc X)] (Sort.grow (redrawn wr d) os) fun e w'' => e = .returned (.string (str (pText X))) ∧ ∃ p : Regrown, w'' = Sort.grow (redrawn wr p.d) p.os := fun d os => Calls.regrown_of (rtext_calls X (unhide Hlen) _)
    have eq1 := digest_eql X (unhide Hlen)
    have hi30 : (Tryd.prog.info? 30).map (·.size) = some (bc X).size := by rw [bc_size, unhide Hlen]; kernel_rfl
    have hrow : ∀ w', (∃ p : Regrown, w' = Sort.grow (redrawn wr p.d) p.os) → w'.heap[gd]? = some (.cells (bc X) 30 (0, 0)) := fun w' ⟨p, hp⟩ => by
      rw [hp]; exact Below.at (below_regrown wr p.d p.os) hz qs
    have Hawk := hide hawk
    have Hsum := hide hsum
    have Htx := hide htx
    have Hrt := hide hrt
    have Hrow := hide hrow
    clear qs tb hawk hsum htx hrt hrow
    go_wp2_with fail
    refine wp_region_below mixed (by kernel_rfl) ?_
    quiet_step (exact unhide Hawk _ _)
    quiet_step (fail)
    refine wpQuiet_load_row rfl 30 (.tmp 3) rfl gd rfl 30 _ (0, 0) _ (unhide Hrow) Tryd.underlying30 rfl hi30 ?_
    quiet_step (fail)
    quiet_step (exact unhide Hsum _ _)
    quiet_step (fail)
    quiet_step (fail)
    quiet_step (fail)
    refine wpQuiet_load_row rfl 30 (.tmp 3) rfl gd rfl 30 _ (0, 0) _ (unhide Hrow) Tryd.underlying30 rfl hi30 ?_
    quiet_step (exact unhide Htx _ _)
    refine wpQuiet_load_row rfl 30 (.tmp 3) rfl gd rfl 30 _ (0, 0) _ (unhide Hrow) Tryd.underlying30 rfl hi30 ?_
    quiet_step (exact unhide Hrt _ _)
    repeat (quiet_step (fail))
    refine wpQuiet_nil ?_
    intro w3 hb3
    go_wp2
    go_ret
    exact ⟨rfl, hb.trans (hb3.mono hb.size)⟩
end Go.Proofs.YtfobcchiakjhgaaDoor
