/-
  WHAT merkle's Proves RETURNS.
-/
import Derived.Test.YtcmfahibdkflaaaDoorMerkB
import Derived.Test.YtcmfahibdkflaaaDoorDigEq
namespace Go.Proofs.YtcmfahibdkflaaaDoor
open Go Go.RowKit
set_option linter.unusedSimpArgs false
set_option linter.unusedVariables false

def pProves (root leaf : List UInt8) (x : Nat) (ds : List (List UInt8)) : Bool := decide (ds.length = 32) && decide (pClimb leaf x ds 32 = root)
set_option maxHeartbeats 1000000 in
set_option maxRecDepth 100000 in
theorem proves_calls (root leaf : List UInt8) (hr : root.length = 32) (hl : leaf.length = 32) (x : Nat) (hx : x < 4294967296) (ds : List (List UInt8)) (p : Option Addr) (cap : Nat) (hlen : ds.length ≤ 1000000000) (w : World) (hD : DL w p ds) (tabs : Tabs w) :
    Calls Tryd.prog 25 #[.pointer none, .agg (bc root), .agg (bc leaf), .int .u32 (x : Int), .slice p ds.length cap] w fun e w' => e = .returned (.bool (pProves root leaf x ds)) ∧ Below w.heap.size w w' := by
  have A2 := al2 w (.cells (bc root) 24) (.cells (bc leaf) 24)
  have B2 := hide (bel2 w (.cells (bc root) 24) (.cells (bc leaf) 24))
  have S2 : Hid (((w.alloc (.cells (bc root) 24)).alloc (.cells (bc leaf) 24)).heap.size = w.heap.size + 1 + 1) := hide (by simp)
  have hir := digInfo root hr
  have hil := digInfo leaf hl
  obtain ⟨X, hX⟩ : ∃ X, (w.alloc (.cells (bc root) 24)).alloc (.cells (bc leaf) 24) = X := ⟨_, rfl⟩
  rw [hX] at A2 B2 S2
  have dX := hD.below (unhide B2) (Nat.le_refl _)
  have tX := tabs.below (unhide B2) (Nat.le_refl _)
  have s2 := unhide S2
  have R0 : Hid (∀ w', (∃ p : Regrown, w' = Sort.grow (redrawn X p.d) p.os) → w'.heap[w.heap.size]? = some (.cells (bc root) 24 (0, 0))) := fun w' ⟨p, hp⟩ => by
    rw [hp]; exact Below.at (below_regrown X p.d p.os) (by omega) A2.1
  have R1 : Hid (∀ w', (∃ p : Regrown, w' = Sort.grow (redrawn X p.d) p.os) → w'.heap[w.heap.size + 1]? = some (.cells (bc leaf) 24 (0, 0))) := fun w' ⟨p, hp⟩ => by
    rw [hp]; exact Below.at (below_regrown X p.d p.os) (by omega) A2.2
  have kC : Hid (∀ dd os, Calls Tryd.prog 23 #[.pointer none, .agg (bc leaf), .int .u32 (x : Int), .slice p ds.length cap] (Sort.grow (redrawn X dd) os) fun e w'' => e = .returned (.agg (bc (pClimb leaf x ds (min ds.length 32)))) ∧ ∃ p : Regrown, w'' = Sort.grow (redrawn X p.d) p.os) := fun dd os =>
    Calls.regrown_of (climb_calls leaf hl x hx ds p cap hlen _ (dX.below (below_regrown X dd os) (Nat.le_refl _)) (tX.below (below_regrown X dd os) (Nat.le_refl _)))
  have HX := hide hX
  unfold pProves
  go_enter Tryd.func25, Tryd.ntmps25
  by_cases h32 : ds.length = 32
  · have he := hide (dig_eq (pClimb leaf x ds 32) root (pClimb_length leaf x ds hl 32) hr)
    rw [show min ds.length 32 = 32 by omega] at kC
    rw [decide_eq_true h32, Bool.true_and]
    have m1 : ((ds.length : Int) == 32) = true := by simp; omega
    generalize decide (pClimb leaf x ds 32 = root) = E at *
    generalize pClimb leaf x ds 32 = T at *
    clear A2 s2 dX tX hX hD tabs h32
    go_wp2_with fail
    rw [unhide HX]
    refine wp_region_below mixed (by kernel_rfl) ?_
    quiet_step (fail)
    quiet_step (fail)
    quiet_step (fail)
    quiet_step (fail)
    quiet_step (fail)
    refine wpQuiet_load_row rfl 24 (.tmp 7) rfl (w.heap.size + 1) rfl 24 _ (0, 0) _ (unhide R1) Tryd.underlying24 rfl hil ?_
    quiet_step (fail)
    quiet_step (fail)
    quiet_step (exact unhide kC _ _)
    refine wpQuiet_load_row rfl 24 (.tmp 6) rfl w.heap.size rfl 24 _ (0, 0) _ (unhide R0) Tryd.underlying24 rfl hir ?_
    refine wpQuiet_eql rfl 24 24 (.tmp 19) (.tmp 20) rfl _ _ rfl rfl (by kernel_rfl) _ (unhide he) ?_
    repeat (quiet_step (fail))
    refine wpQuiet_nil ?_
    intro w3 hb3
    go_wp2
    go_ret
    exact ⟨rfl, (unhide B2).trans (hb3.mono (by have := unhide S2; omega))⟩
  · rw [decide_eq_false h32, Bool.false_and]
    have m1 : ((ds.length : Int) == 32) = false := by simp; omega
    clear A2 s2 dX tX hX hD tabs h32
    go_wp2_with fail
    rw [unhide HX]
    refine wp_region_below mixed (by kernel_rfl) ?_
    quiet_step (fail)
    quiet_step (fail)
    quiet_step (fail)
    quiet_step (fail)
    repeat (go_big_quiet_step (fail))
    refine wpQuiet_nil ?_
    intro w3 hb3
    go_wp2
    go_ret
    exact ⟨rfl, (unhide B2).trans (hb3.mono (by have := unhide S2; omega))⟩
end Go.Proofs.YtcmfahibdkflaaaDoor
