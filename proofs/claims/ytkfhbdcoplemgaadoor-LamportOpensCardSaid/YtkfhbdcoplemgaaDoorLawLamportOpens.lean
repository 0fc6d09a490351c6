/-
  THE WALK OF THE LAW LamportOpens: whatever the seed, the digest and the index, it returns true, and nothing that was there has turned.
-/
import Derived.Test.YtkfhbdcoplemgaaDoorLamLaw
namespace Go.Proofs.YtkfhbdcoplemgaaDoor
open Go Go.RowKit
set_option linter.unusedSimpArgs false
set_option linter.unusedVariables false

set_option maxHeartbeats 1000000 in
set_option maxRecDepth 100000 in
theorem lamportOpens_walk (s d : List UInt8) (hs : s.length = 32) (hd : d.length = 32) (x : Int) (w : World) (tabs : Tabs w) :
    Calls Tryd.prog 8 #[.agg (bc s), .agg (bc d), .int .i64 x] w fun e w' => e = .returned (.bool true) ∧ Below w.heap.size w w' := by
  obtain ⟨index, hx⟩ : ∃ index : Nat, x % 4294967296 = (index : Int) := ⟨(x % 4294967296).toNat, by omega⟩
  have hi0 := digInfo s hs
  have hi2 := digInfo d hd
  have cS := fun w tabs => sign_calls s hs d hd x index hx w tabs
  have cO := fun g w q1 q2 tabs => opens_calls s d hd index g w q1 q2 tabs
  have cW := fun w tabs => word_calls s hs x index hx w tabs
  have hW : (pWord s index).length = 32 := pOf_length _ _
  have hi1 := digInfo (pWord s index) hW
  have hz1 := zeroSize (pWord s index) hW
  have eqW := digest_eql (pWord s index) hW
  generalize pWord s index = WD at *
  have CS := hide cS
  have CO := hide cO
  have CW := hide cW
  have HT := hide tabs
  have hA := al2 w (.cells (bc s) 24) (.cells (bc d) 24)
  have hbA := bel2 w (.cells (bc s) 24) (.cells (bc d) 24)
  have hsX : ((w.alloc (.cells (bc s) 24)).alloc (.cells (bc d) 24)).heap.size = w.heap.size + 1 + 1 := by simp
  have HA := hide hA
  have HbA := hide hbA
  clear cS cO cW tabs hx hA hbA
  go_enter Tryd.func8, Tryd.ntmps8
  go_wp2_with fail
  refine (lawake_calls _ ((unhide HT).below (unhide HbA) (Nat.le_refl _))).mono ?_
  rintro e w1 ⟨rfl, b1⟩
  have p0 := Below.at b1 (by omega) (unhide HA).1
  have p1 := Below.at b1 (by omega) (unhide HA).2
  have hb1 := (unhide HbA).trans (b1.mono (by omega))
  have z1 : w.heap.size + 1 + 1 ≤ w1.heap.size := by have := b1.size; omega
  have tb1 := (unhide HT).below hb1 (Nat.le_refl _)
  clear b1 hsX HA HbA
  go_wp2_with (first
    | (refine wpList_load_row rfl 24 (.tmp 3) rfl w.heap.size rfl 24 _ (0, 0) _ p0 Tryd.underlying24 rfl hi0 ?_)
    | (refine wpList_load_row rfl 24 (.tmp 4) rfl (w.heap.size + 1) rfl 24 _ (0, 0) _ p1 Tryd.underlying24 rfl hi2 ?_))
  refine (unhide CS _ tb1).mono ?_
  rintro e w2 ⟨g, hg, rfl, b2, q1, q2⟩
  have p0' := Below.at b2 (by omega) p0
  have p1' := Below.at b2 (by omega) p1
  have hb2 := hb1.trans (b2.mono (by omega))
  have hg1 : g + 1 < w2.heap.size := (Array.getElem?_eq_some_iff.1 q2).1
  have tb2 := (unhide HT).below hb2 (Nat.le_refl _)
  clear b2 p0 p1 hb1 tb1
  go_wp2_with (refine wpList_load_row rfl 24 (.tmp 4) rfl (w.heap.size + 1) rfl 24 _ (0, 0) _ p1' Tryd.underlying24 rfl hi2 ?_)
  refine (unhide CO g _ q1 q2 tb2).mono ?_
  rintro e w3 ⟨rfl, b3⟩
  have q3 := Below.at b3 (by omega) p0'
  have hb3 := hb2.trans (b3.mono (by omega))
  have z3 : w.heap.size < w3.heap.size := by have := b3.size; omega
  clear p0' p1' q1 q2 hb2 tb2 b3
  go_wp2_with (refine wpList_store_new rfl 24 (.tmp 9) (.tmp 25) rfl w3 _ _ WD rfl rfl hi1 hz1 ?_; intro w4 q4 hb4 z4)
  have r4 := Below.at hb4 z3 q3
  have hb5 := hb3.trans (hb4.mono (by omega))
  have tb5 := (unhide HT).below hb5 (Nat.le_refl _)
  have kA : Hid (∀ dd os, Calls Tryd.prog 23 #[] (Sort.grow (redrawn w4 dd) os) fun e w'' => e = .returned (.bool true) ∧ ∃ p : Regrown, w'' = Sort.grow (redrawn w4 p.d) p.os) := fun dd os => Calls.regrown_of (lawake_calls _ (tb5.below (below_regrown w4 dd os) (Nat.le_refl _)))
  have kW : Hid (∀ dd os, Calls Tryd.prog 30 #[.pointer none, .agg (bc s), .int .i64 x] (Sort.grow (redrawn w4 dd) os) fun e w'' => e = .returned (.agg (bc WD)) ∧ ∃ p : Regrown, w'' = Sort.grow (redrawn w4 p.d) p.os) := fun dd os => Calls.regrown_of (unhide CW _ (tb5.below (below_regrown w4 dd os) (Nat.le_refl _)))
  have rowA : Hid (∀ w', (∃ p : Regrown, w' = Sort.grow (redrawn w4 p.d) p.os) → w'.heap[w.heap.size]? = some (.cells (bc s) 24 (0, 0))) := fun w' ⟨p, hp⟩ => by
    rw [hp]; exact Below.at (below_regrown w4 p.d p.os) (by omega) r4
  have rowW : Hid (∀ w', (∃ p : Regrown, w' = Sort.grow (redrawn w4 p.d) p.os) → w'.heap[w3.heap.size]? = some (.cells (bc WD) 24 (0, 0))) := fun w' ⟨p, hp⟩ => by
    rw [hp]; exact Below.at (below_regrown w4 p.d p.os) (by omega) q4
  have HB5 := hide hb5
  clear r4 q4 q3 hb3 hb4 hb5 tb5
  refine wp_region_below mixed (by kernel_rfl) ?_
  quiet_step (exact unhide kA _ _)
  quiet_step (fail)
  quiet_step (fail)
  quiet_step (fail)
  quiet_step (fail)
  refine wpQuiet_load_row rfl 24 (.tmp 9) rfl w3.heap.size rfl 24 _ (0, 0) _ (unhide rowW) Tryd.underlying24 rfl hi1 ?_
  refine wpQuiet_load_row rfl 24 (.tmp 3) rfl w.heap.size rfl 24 _ (0, 0) _ (unhide rowA) Tryd.underlying24 rfl hi0 ?_
  quiet_step (fail)
  quiet_step (exact unhide kW _ _)
  refine wpQuiet_eql rfl 24 _ (.tmp 32) (.tmp 35) rfl _ _ rfl rfl Tryd.eqGuardType24 true eqW ?_
  quiet_step (fail)
  quiet_step (fail)
  refine wpQuiet_nil ?_
  intro w6 hb6
  have hb7 := (unhide HB5).trans (hb6.mono (unhide HB5).size)
  go_wp2
  go_ret
  exact ⟨rfl, hb7⟩
end Go.Proofs.YtkfhbdcoplemgaaDoor
