/-
  THE DOCUMENT's OWN Claim AND Halt (layer 10), where there is no log.
-/
/-
  UpdateDigests: the claim, and the halt, of anything, as the document says.
-/
/-
  WHAT THE ROWS OF LAYER 1 LIST GIVES THE WALKS: the two tables of package sha, read as the program's text lays them.
-/
/-
  ARRAYS OF NUMBERS AS ARGUMENTS: what a row hands the walks. Over whatever program.
-/
/-
  A DIGEST AS THE ARGUMENT OF A ROW.
-/
import Derived.Test.YtmannigflodcfaaDoorJ2
import Derived.Test.YtmannigflodcfaaDoorJ6
import Derived.Test.YtmannigflodcfaaDoorJ0
import Derived.Test.YtmannigflodcfaaDoorCards
import Derived.Test.YtmannigflodcfaaDoorTie
import Derived.ProofKit
import Derived.OpenShut
import Derived.Deep.DeepHandedRow
import Derived.Lib.LaidTab
import Derived.WideKeyArr2
import Derived.ChangeMaps5
import Derived.Deep.Slices
import Derived.Lib.SmallJoins
namespace Go.Proofs.YtmannigflodcfaaDoor
open Go Go.RowKit
set_option linter.unusedSimpArgs false
set_option linter.unusedVariables false

theorem pBig_low (n : Nat) : pBig n 4 = pBig (n % 4294967296) 4 := by
  unfold pBig
  apply List.map_congr_left
  intro i hi
  have hi4 : i < 4 := List.mem_range.1 hi
  have h : i = 0 ∨ i = 1 ∨ i = 2 ∨ i = 3 := by omega
  apply UInt8.toNat_inj.1
  rw [UInt8.toNat_ofNat', UInt8.toNat_ofNat']
  rcases h with rfl | rfl | rfl | rfl <;> omega
theorem wrap_low (x : Int) : ∃ n : Nat, n < 18446744073709551616 ∧ IntKind.u64.wrap x = (n : Int) ∧ pBig n 4 = pBig (x % 4294967296).toNat 4 := by
  refine ⟨(x % 18446744073709551616).toNat, by omega, by rw [IntKind.wrap_u64]; omega, ?_⟩
  rw [pBig_low]
  congr 1
  omega
set_option maxHeartbeats 2000000 in
set_option maxRecDepth 100000 in
theorem rclaim_calls (home : Nat) (hh : home < 4294967296) (a b : List UInt8) (ha : a.length = 32) (hb : b.length = 32) (w : World) :
    Calls Tryd.prog 9 #[.pointer none, .int .u32 (home : Int), .agg (bc a), .agg (bc b)] w fun e w' => e = .returned (.agg (bc (pClaim home a b))) ∧ Below w.heap.size w w' := by
  have co := fun g w hs => rofNil_calls 7 (by decide) [pBig home 4, a, b] (by simp [pBig_length]; omega) (by simp) (some ⟨g, 0, none⟩) 3 w hs
  have hia := digInfo a ha
  have hib := digInfo b hb
  have hi1 := digInfo (pClaim home a b) (pOf_length 7 [pBig home 4, a, b])
  have hz1 := zeroSize (pClaim home a b) (pOf_length 7 [pBig home 4, a, b])
  have ho1 := bc_oneCell (pClaim home a b)
  have cw := fun w => rbig_calls home 4 (by omega) (by decide) (by decide) w
  rw [show ((4 : Nat) : Int) = 4 from rfl] at cw
  have hwr : IntKind.u64.wrap (home : Int) = (home : Int) := by rw [IntKind.wrap_u64]; omega
  have ca := fun w => rbytes_calls a ha w
  have cb := fun w => rbytes_calls b hb w
  have e2 : pOf 7 [pBig home 4, a, b] = pClaim home a b := rfl
  rw [e2] at co
  generalize pClaim home a b = D at *
  generalize pBig home 4 = PH at *
  clear e2
  have A3 := hide (al3 w (.cells (bc a) 24) (.cells (bc b) 24) (.cells (bc (List.replicate 32 0)) 24))
  have B3 := hide (bel3 w (.cells (bc a) 24) (.cells (bc b) 24) (.cells (bc (List.replicate 32 0)) 24))
  have S3 : Hid ((((w.alloc (.cells (bc a) 24)).alloc (.cells (bc b) 24)).alloc (.cells (bc (List.replicate 32 0)) 24)).heap.size = w.heap.size + 1 + 1 + 1) := hide (by simp)
  generalize hX : ((w.alloc (.cells (bc a) 24)).alloc (.cells (bc b) 24)).alloc (.cells (bc (List.replicate 32 0)) 24) = X at *
  have HX := hide hX
  have CO := hide co
  have kW : Hid (∀ dd os, Calls Tryd.prog 36 #[.int .u64 (home : Int), .int .i64 4] (Sort.grow (redrawn X.drew dd) os) fun e w'' => e = .returned (.string (str PH)) ∧ ∃ p : Regrown, w'' = Sort.grow (redrawn X.drew p.d) p.os) := fun dd os => Calls.regrown_of (cw _)
  have kA : Hid (∀ dd os, Calls Tryd.prog 37 #[.agg (bc a)] (Sort.grow (redrawn X.drew dd) os) fun e w'' => e = .returned (.string (str a)) ∧ ∃ p : Regrown, w'' = Sort.grow (redrawn X.drew p.d) p.os) := fun dd os => Calls.regrown_of (ca _)
  have kB : Hid (∀ dd os, Calls Tryd.prog 37 #[.agg (bc b)] (Sort.grow (redrawn X.drew dd) os) fun e w'' => e = .returned (.string (str b)) ∧ ∃ p : Regrown, w'' = Sort.grow (redrawn X.drew p.d) p.os) := fun dd os => Calls.regrown_of (cb _)
  have dX : Below X.heap.size X X.drew := ⟨rfl, rfl, rfl, Nat.le_refl _, fun _ _ => rfl⟩
  have s3 := unhide S3
  have R0 : Hid (∀ w', (∃ p : Regrown, w' = Sort.grow (redrawn X.drew p.d) p.os) → w'.heap[w.heap.size]? = some (.cells (bc a) 24 (0, 0))) := fun w' ⟨p, hp⟩ => by
    rw [hp]; exact Below.at (below_regrown X.drew p.d p.os) (by show _ < X.heap.size; omega) (unhide A3).1
  have R1 : Hid (∀ w', (∃ p : Regrown, w' = Sort.grow (redrawn X.drew p.d) p.os) → w'.heap[w.heap.size + 1]? = some (.cells (bc b) 24 (0, 0))) := fun w' ⟨p, hp⟩ => by
    rw [hp]; exact Below.at (below_regrown X.drew p.d p.os) (by show _ < X.heap.size; omega) (unhide A3).2.1
  clear co ca cb cw s3 dX hX
  go_enter Tryd.func9, Tryd.ntmps9
  go_wp2_with fail
  change Code.wp _ _ _ _ (((w.alloc (.cells (bc a) 24)).alloc (.cells (bc b) 24)).alloc (.cells (bc (List.replicate 32 0)) 24))
  rw [unhide HX]
  refine wp_region_any mixed ?_
  change wpAny _ _ _ _ _ _ _ X.drew
  refine wpAny_take (i := 0) rfl (by kernel_rfl) (by kernel_rfl) (by kernel_rfl) (fun _ _ _ h => h) (.inl ⟨rfl, fun _ => rfl⟩) ?_
  refine wpAny_take (i := 1) rfl (by kernel_rfl) (by kernel_rfl) (by kernel_rfl) (fun _ _ _ h => h) (.inl ⟨rfl, fun _ => rfl⟩) ?_
  refine wpAny_below_head 2 8 (by kernel_rfl) ?_
  simp only [List.take_succ_cons, List.take_zero, List.drop_succ_cons, List.drop_zero]
  quiet_step (fail)
  quiet_step (exact unhide kW _ _)
  refine wpQuiet_load_row rfl 24 (.tmp 6) rfl w.heap.size rfl 24 _ (0, 0) _ (unhide R0) Tryd.underlying24 rfl hia ?_
  quiet_step (exact unhide kA _ _)
  refine wpQuiet_load_row rfl 24 (.tmp 7) rfl (w.heap.size + 1) rfl 24 _ (0, 0) _ (unhide R1) Tryd.underlying24 rfl hib ?_
  quiet_step (exact unhide kB _ _)
  refine wpQuiet_nil ?_
  intro w2 hb2
  have hb2' : Below X.heap.size X w2 := ⟨hb2.os, hb2.tape, hb2.output, hb2.size, hb2.block⟩
  have s3 := unhide S3
  have q2 := Below.at hb2' (by omega) (unhide A3).2.2
  have hbw : Below w.heap.size w w2 := (unhide B3).trans (hb2'.mono (by omega))
  have z2 : w.heap.size + 1 + 1 < w2.heap.size := by have := hb2'.size; omega
  have HB := hide hbw
  have Q2 := hide q2
  have Z2 := hide z2
  clear hb2 hb2' s3 q2 hbw z2
  refine wpAny_rest 8 (by kernel_rfl) ?_
  simp only [List.drop_succ_cons, List.drop_zero]
  go_wp2_with fail
  refine (unhide CO _ _ (strsAt_three w2 PH a b _)).mono ?_
  rintro e w3 ⟨rfl, b3⟩
  have q3 := Below.at b3 (by have := unhide Z2; simp; omega) ((Below.heap_alloc w2 (.cells #[.string (str PH), .string (str a), .string (str b)] 9) _ (unhide Z2)).trans (unhide Q2))
  have hb3 : Below w.heap.size w w3 := ((unhide HB).alloc (by have := unhide Z2; omega) _).trans (b3.mono (by have := unhide Z2; simp; omega))
  have Q3 := hide q3
  have HB3 := hide hb3
  clear b3 q3 hb3
  go_wp2_with (refine wpList_store_row rfl 24 (.tmp 8) (.tmp 18) rfl (w.heap.size + 1 + 1) _ rfl rfl 24 _ (unhide Q3) hi1 hz1 ho1 ?_)
  exact bodyPost_ret (results_cell_row rfl _ _ (w.heap.size + 1 + 1) _ _ _ _ rfl (setRow_heap _ _ _ _ _ _ (unhide Q3)) Tryd.underlying24 rfl hi1) rfl ⟨rfl, below_setRow (unhide HB3) (by omega) _⟩
set_option maxHeartbeats 2000000 in
set_option maxRecDepth 100000 in
theorem rhalt_calls (home : Nat) (hh : home < 4294967296) (a : List UInt8) (ha : a.length = 32) (x : Int) (w : World) :
    Calls Tryd.prog 11 #[.pointer none, .int .u32 (home : Int), .agg (bc a), .int .i64 x] w fun e w' => e = .returned (.agg (bc (pHalt home a x))) ∧ Below w.heap.size w w' := by
  have co := fun g w hs => rofNil_calls 9 (by decide) [pBig home 4, a, pBig (x % 4294967296).toNat 4] (by simp [pBig_length]; omega) (by simp) (some ⟨g, 0, none⟩) 3 w hs
  have hia := digInfo a ha
  have hi1 := digInfo (pHalt home a x) (pOf_length 9 [pBig home 4, a, pBig (x % 4294967296).toNat 4])
  have hz1 := zeroSize (pHalt home a x) (pOf_length 9 [pBig home 4, a, pBig (x % 4294967296).toNat 4])
  have ho1 := bc_oneCell (pHalt home a x)
  have ca := fun w => rbytes_calls a ha w
  have cw := fun w => rbig_calls home 4 (by omega) (by decide) (by decide) w
  rw [show ((4 : Nat) : Int) = 4 from rfl] at cw
  have hwr : IntKind.u64.wrap (home : Int) = (home : Int) := by rw [IntKind.wrap_u64]; omega
  obtain ⟨n, hn, hwx, hpx⟩ := wrap_low x
  have cb := fun w => rbig_calls n 4 hn (by decide) (by decide) w
  rw [show ((4 : Nat) : Int) = 4 from rfl, hpx] at cb
  have e2 : pOf 9 [pBig home 4, a, pBig (x % 4294967296).toNat 4] = pHalt home a x := rfl
  rw [e2] at co
  generalize pHalt home a x = D at *
  generalize pBig home 4 = PH at *
  generalize pBig (x % 4294967296).toNat 4 = PX at *
  clear e2 hpx
  have A3 := hide (al2 w (.cells (bc a) 24) (.cells (bc (List.replicate 32 0)) 24))
  have B3 := hide (bel2 w (.cells (bc a) 24) (.cells (bc (List.replicate 32 0)) 24))
  have S3 : Hid (((w.alloc (.cells (bc a) 24)).alloc (.cells (bc (List.replicate 32 0)) 24)).heap.size = w.heap.size + 1 + 1) := hide (by simp)
  generalize hX : (w.alloc (.cells (bc a) 24)).alloc (.cells (bc (List.replicate 32 0)) 24) = X at *
  have HX := hide hX
  have CO := hide co
  have kA : Hid (∀ dd os, Calls Tryd.prog 37 #[.agg (bc a)] (Sort.grow (redrawn X.drew dd) os) fun e w'' => e = .returned (.string (str a)) ∧ ∃ p : Regrown, w'' = Sort.grow (redrawn X.drew p.d) p.os) := fun dd os => Calls.regrown_of (ca _)
  have kB : Hid (∀ dd os, Calls Tryd.prog 36 #[.int .u64 (n : Int), .int .i64 4] (Sort.grow (redrawn X.drew dd) os) fun e w'' => e = .returned (.string (str PX)) ∧ ∃ p : Regrown, w'' = Sort.grow (redrawn X.drew p.d) p.os) := fun dd os => Calls.regrown_of (cb _)
  have kW : Hid (∀ dd os, Calls Tryd.prog 36 #[.int .u64 (home : Int), .int .i64 4] (Sort.grow (redrawn X.drew dd) os) fun e w'' => e = .returned (.string (str PH)) ∧ ∃ p : Regrown, w'' = Sort.grow (redrawn X.drew p.d) p.os) := fun dd os => Calls.regrown_of (cw _)
  have dX : Below X.heap.size X X.drew := ⟨rfl, rfl, rfl, Nat.le_refl _, fun _ _ => rfl⟩
  have s3 := unhide S3
  have R0 : Hid (∀ w', (∃ p : Regrown, w' = Sort.grow (redrawn X.drew p.d) p.os) → w'.heap[w.heap.size]? = some (.cells (bc a) 24 (0, 0))) := fun w' ⟨p, hp⟩ => by
    rw [hp]; exact Below.at (below_regrown X.drew p.d p.os) (by show _ < X.heap.size; omega) (unhide A3).1
  clear co ca cb cw s3 dX hX
  go_enter Tryd.func11, Tryd.ntmps11
  go_wp2_with fail
  change Code.wp _ _ _ _ ((w.alloc (.cells (bc a) 24)).alloc (.cells (bc (List.replicate 32 0)) 24))
  rw [unhide HX]
  refine wp_region_any mixed ?_
  change wpAny _ _ _ _ _ _ _ X.drew
  refine wpAny_take (i := 0) rfl (by kernel_rfl) (by kernel_rfl) (by kernel_rfl) (fun _ _ _ h => h) (.inl ⟨rfl, fun _ => rfl⟩) ?_
  refine wpAny_take (i := 1) rfl (by kernel_rfl) (by kernel_rfl) (by kernel_rfl) (fun _ _ _ h => h) (.inl ⟨rfl, fun _ => rfl⟩) ?_
  refine wpAny_below_head 2 9 (by kernel_rfl) ?_
  simp only [List.take_succ_cons, List.take_zero, List.drop_succ_cons, List.drop_zero]
  quiet_step (fail)
  quiet_step (exact unhide kW _ _)
  refine wpQuiet_load_row rfl 24 (.tmp 6) rfl w.heap.size rfl 24 _ (0, 0) _ (unhide R0) Tryd.underlying24 rfl hia ?_
  quiet_step (exact unhide kA _ _)
  quiet_step (fail)
  quiet_step (fail)
  quiet_step (exact unhide kB _ _)
  refine wpQuiet_nil ?_
  intro w2 hb2
  have hb2' : Below X.heap.size X w2 := ⟨hb2.os, hb2.tape, hb2.output, hb2.size, hb2.block⟩
  have s3 := unhide S3
  have q2 := Below.at hb2' (by omega) (unhide A3).2
  have hbw : Below w.heap.size w w2 := (unhide B3).trans (hb2'.mono (by omega))
  have z2 : w.heap.size + 1 < w2.heap.size := by have := hb2'.size; omega
  have HB := hide hbw
  have Q2 := hide q2
  have Z2 := hide z2
  clear hb2 hb2' s3 q2 hbw z2
  refine wpAny_rest 9 (by kernel_rfl) ?_
  simp only [List.drop_succ_cons, List.drop_zero]
  go_wp2_with fail
  refine (unhide CO _ _ (strsAt_three w2 PH a PX _)).mono ?_
  rintro e w3 ⟨rfl, b3⟩
  have q3 := Below.at b3 (by have := unhide Z2; simp; omega) ((Below.heap_alloc w2 (.cells #[.string (str PH), .string (str a), .string (str PX)] 9) _ (unhide Z2)).trans (unhide Q2))
  have hb3 : Below w.heap.size w w3 := ((unhide HB).alloc (by have := unhide Z2; omega) _).trans (b3.mono (by have := unhide Z2; simp; omega))
  have Q3 := hide q3
  have HB3 := hide hb3
  clear b3 q3 hb3
  go_wp2_with (refine wpList_store_row rfl 24 (.tmp 8) (.tmp 19) rfl (w.heap.size + 1) _ rfl rfl 24 _ (unhide Q3) hi1 hz1 ho1 ?_)
  exact bodyPost_ret (results_cell_row rfl _ _ (w.heap.size + 1) _ _ _ _ rfl (setRow_heap _ _ _ _ _ _ (unhide Q3)) Tryd.underlying24 rfl hi1) rfl ⟨rfl, below_setRow (unhide HB3) (by omega) _⟩
end Go.Proofs.YtmannigflodcfaaDoor

namespace Go.Proofs.YtmannigflodcfaaDoor
open Go Go.RowKit
set_option linter.unusedSimpArgs false
set_option linter.unusedVariables false

set_option maxHeartbeats 4000000 in
set_option maxRecDepth 100000 in
theorem updateDigests_walk (home : Nat) (hh : home < 4294967296) (a b : List UInt8) (ha : a.length = 32) (hb : b.length = 32) (x : Int) (w : World) (tabs : Tabs w) :
    Calls Tryd.prog 3 #[.int .u32 (home : Int), .agg (bc a), .agg (bc b), .int .i64 x] w fun e w' => e = .returned (.bool true) ∧ Below w.heap.size w w' := by
  have hia := digInfo a ha
  have hib := digInfo b hb
  have hc : (pClaim home a b).length = 32 := pOf_length _ _
  have hl : (pHalt home a x).length = 32 := pOf_length _ _
  obtain ⟨q0, q1⟩ := al2 w (.cells (bc a) 24) (.cells (bc b) 24)
  have hbX := bel2 w (.cells (bc a) 24) (.cells (bc b) 24)
  obtain ⟨X, hX⟩ : ∃ X, (w.alloc (.cells (bc a) 24)).alloc (.cells (bc b) 24) = X := ⟨_, rfl⟩
  rw [hX] at q0 q1 hbX
  have HX := hide hX
  have tX := tabs.below hbX (Nat.le_refl _)
  have RA : Hid (∀ w', (∃ p : Regrown, w' = Sort.grow (redrawn X p.d) p.os) → w'.heap[w.heap.size]? = some (.cells (bc a) 24 (0, 0))) := fun w' ⟨p, hp⟩ => by rw [hp]; exact Below.at (below_regrown X p.d p.os) (Array.getElem?_eq_some_iff.1 q0).1 q0
  have RB : Hid (∀ w', (∃ p : Regrown, w' = Sort.grow (redrawn X p.d) p.os) → w'.heap[w.heap.size + 1]? = some (.cells (bc b) 24 (0, 0))) := fun w' ⟨p, hp⟩ => by rw [hp]; exact Below.at (below_regrown X p.d p.os) (Array.getElem?_eq_some_iff.1 q1).1 q1
  have kA := hide fun d os => Calls.regrown_of (w := X) (d := d) (os := os) (uawake_calls _ (tX.below (below_regrown X d os) (Nat.le_refl _)))
  have kC := hide fun d os => Calls.regrown_of (w := X) (d := d) (os := os) (claim_calls home hh a b ha hb _ (tX.below (below_regrown X d os) (Nat.le_refl _)))
  have kD := hide fun d os => Calls.regrown_of (w := X) (d := d) (os := os) (rclaim_calls home hh a b ha hb _)
  have kH := hide fun d os => Calls.regrown_of (w := X) (d := d) (os := os) (halt_calls home hh a ha x _ (tX.below (below_regrown X d os) (Nat.le_refl _)))
  have kI := hide fun d os => Calls.regrown_of (w := X) (d := d) (os := os) (rhalt_calls home hh a ha x _)
  have e1 := hide fun W => dig_self (pClaim home a b) hc W
  have e2 := hide fun W => dig_self (pHalt home a x) hl W
  generalize pClaim home a b = CL at *
  generalize pHalt home a x = HL at *
  clear hX tX tabs q0 q1 hc hl ha hb hh
  go_enter Tryd.func3, Tryd.ntmps3
  go_wp2_with (rw [unhide HX])
  refine wp_region_below mixed (by kernel_rfl) ?_
  quiet_step (exact unhide kA _ _)
  quiet_step (fail)
  quiet_step (fail)
  refine wpQuiet_load_row rfl 24 (.tmp 5) rfl w.heap.size rfl 24 _ (0, 0) _ (unhide RA) Tryd.underlying24 rfl hia ?_
  refine wpQuiet_load_row rfl 24 (.tmp 6) rfl (w.heap.size + 1) rfl 24 _ (0, 0) _ (unhide RB) Tryd.underlying24 rfl hib ?_
  quiet_step (exact unhide kC _ _)
  quiet_step (fail)
  refine wpQuiet_load_row rfl 24 (.tmp 5) rfl w.heap.size rfl 24 _ (0, 0) _ (unhide RA) Tryd.underlying24 rfl hia ?_
  refine wpQuiet_load_row rfl 24 (.tmp 6) rfl (w.heap.size + 1) rfl 24 _ (0, 0) _ (unhide RB) Tryd.underlying24 rfl hib ?_
  quiet_step (exact unhide kD _ _)
  refine wpQuiet_eql rfl 24 24 (.tmp 14) (.tmp 18) rfl _ _ rfl rfl (by kernel_rfl) true (unhide e1) ?_
  quiet_step (fail)
  quiet_step (fail)
  quiet_step (fail)
  refine wpQuiet_load_row rfl 24 (.tmp 5) rfl w.heap.size rfl 24 _ (0, 0) _ (unhide RA) Tryd.underlying24 rfl hia ?_
  quiet_step (fail)
  quiet_step (exact unhide kH _ _)
  quiet_step (fail)
  refine wpQuiet_load_row rfl 24 (.tmp 5) rfl w.heap.size rfl 24 _ (0, 0) _ (unhide RA) Tryd.underlying24 rfl hia ?_
  quiet_step (fail)
  quiet_step (exact unhide kI _ _)
  refine wpQuiet_eql rfl 24 24 (.tmp 25) (.tmp 29) rfl _ _ rfl rfl (by kernel_rfl) true (unhide e2) ?_
  quiet_step (fail)
  repeat (quiet_step (fail))
  refine wpQuiet_nil ?_
  intro w2 b2
  go_wp2
  go_ret
  exact ⟨rfl, hbX.trans (b2.mono hbX.size)⟩
end Go.Proofs.YtmannigflodcfaaDoor

namespace Go.Proofs.YtmannigflodcfaaDoor
open Go.ChangeShapes Go.WideShapes Go.ChangeAt Go.RowKit

theorem shaOwn : ownKnob Tryd.prog.godebug = none := by kernel_rfl
theorem shaLaidOut : laidOutB Tryd.prog = true := by kernel_rfl
theorem gFirst : Tryd.prog.globalNamed "pontoon/sha.firstWords" = some 0 := by kernel_rfl
theorem gFirstType : (Tryd.prog.globals[0]?).map (·.type) = some 138 := by kernel_rfl
theorem gRound : Tryd.prog.globalNamed "pontoon/sha.roundWords" = some 1 := by kernel_rfl
theorem gRoundType : (Tryd.prog.globals[1]?).map (·.type) = some 175 := by kernel_rfl
theorem cells64 : Tryd.prog.cellsOf 175 = 64 := by kernel_rfl
theorem cells8 : Tryd.prog.cellsOf 138 = 8 := by kernel_rfl
theorem cellsW : Tryd.prog.cellsOf 22 = 1 := by kernel_rfl

/-- What a row lists of package sha. -/
def shaListed : List (String × DataW Unit) := [("pontoon/sha.firstWords", Rows.laid_pontoon_sha_firstWords), ("pontoon/sha.roundWords", Rows.laid_pontoon_sha_roundWords)]
def kInts : List Int := [1116352408, 1899447441, 3049323471, 3921009573, 961987163, 1508970993, 2453635748, 2870763221, 3624381080, 310598401, 607225278, 1426881987, 1925078388, 2162078206, 2614888103, 3248222580, 3835390401, 4022224774, 264347078, 604807628, 770255983, 1249150122, 1555081692, 1996064986, 2554220882, 2821834349, 2952996808, 3210313671, 3336571891, 3584528711, 113926993, 338241895, 666307205, 773529912, 1294757372, 1396182291, 1695183700, 1986661051, 2177026350, 2456956037, 2730485921, 2820302411, 3259730800, 3345764771, 3516065817, 3600352804, 4094571909, 275423344, 430227734, 506948616, 659060556, 883997877, 958139571, 1322822218, 1537002063, 1747873779, 1955562222, 2024104815, 2227730452, 2361852424, 2428436474, 2756734187, 3204031479, 3329325298]
def hInts : List Int := [1779033703, 3144134277, 1013904242, 2773480762, 1359893119, 2600822924, 528734635, 1541459225]
theorem kInts_at : ∀ j, j < 64 → kInts.getD j 0 = ((kWords.getD j 0).toNat : Int) := by decide +kernel
theorem hInts_at : ∀ j, j < 8 → hInts.getD j 0 = ((hWords.getD j 0).toNat : Int) := by decide +kernel

theorem tabs_of {W : World} (h : laidMetH Tryd.prog shaListed W) : Tabs W := by
  have h1 : Lib.TabIs Tryd.prog W "pontoon/sha.firstWords" .u32 hInts :=
    Lib.tabIs_of_head (rest := [("pontoon/sha.roundWords", Rows.laid_pontoon_sha_roundWords)]) gFirst gFirstType Tryd.underlying138 Tryd.underlying22 cellsW cells8 h
  have e : shaListed.filter (fun x => x.1 == "pontoon/sha.roundWords") = [("pontoon/sha.roundWords", Rows.laid_pontoon_sha_roundWords)] := by kernel_rfl
  have hf := h.filter (fun x => x.1 == "pontoon/sha.roundWords")
  rw [e] at hf
  have h2 : Lib.TabIs Tryd.prog W "pontoon/sha.roundWords" .u32 kInts :=
    Lib.tabIs_of_head (rest := []) gRound gRoundType Tryd.underlying175 Tryd.underlying22 cellsW cells64 hf
  have k : ∀ j, j < 64 → W.cell? ⟨1, j, none⟩ = some (.int .u32 ((kWords.getD j 0).toNat : Int)) := fun j hj => by
    rw [← kInts_at j hj]; exact h2.cell gRound j (by simpa [kInts] using hj)
  have hh : ∀ j, j < 8 → W.cell? ⟨0, j, none⟩ = some (.int .u32 ((hWords.getD j 0).toNat : Int)) := fun j hj => by
    rw [← hInts_at j hj]; exact h1.cell gFirst j (by simpa [hInts] using hj)
  exact ⟨⟨block_lt_of_cell (hh 0 (by decide)), block_lt_of_cell (k 0 (by decide))⟩, k, hh⟩

/-- A variable's cells turned. -/
def layCells (cs : Array Value) : Obj → Obj
  | .cells _ t frozen => .cells cs t frozen
  | o => o
def hCells : Array Value := #[.int .u32 1779033703, .int .u32 3144134277, .int .u32 1013904242, .int .u32 2773480762, .int .u32 1359893119, .int .u32 2600822924, .int .u32 528734635, .int .u32 1541459225]
def kCells : Array Value := #[.int .u32 1116352408, .int .u32 1899447441, .int .u32 3049323471, .int .u32 3921009573, .int .u32 961987163, .int .u32 1508970993, .int .u32 2453635748, .int .u32 2870763221, .int .u32 3624381080, .int .u32 310598401, .int .u32 607225278, .int .u32 1426881987, .int .u32 1925078388, .int .u32 2162078206, .int .u32 2614888103, .int .u32 3248222580, .int .u32 3835390401, .int .u32 4022224774, .int .u32 264347078, .int .u32 604807628, .int .u32 770255983, .int .u32 1249150122, .int .u32 1555081692, .int .u32 1996064986, .int .u32 2554220882, .int .u32 2821834349, .int .u32 2952996808, .int .u32 3210313671, .int .u32 3336571891, .int .u32 3584528711, .int .u32 113926993, .int .u32 338241895, .int .u32 666307205, .int .u32 773529912, .int .u32 1294757372, .int .u32 1396182291, .int .u32 1695183700, .int .u32 1986661051, .int .u32 2177026350, .int .u32 2456956037, .int .u32 2730485921, .int .u32 2820302411, .int .u32 3259730800, .int .u32 3345764771, .int .u32 3516065817, .int .u32 3600352804, .int .u32 4094571909, .int .u32 275423344, .int .u32 430227734, .int .u32 506948616, .int .u32 659060556, .int .u32 883997877, .int .u32 958139571, .int .u32 1322822218, .int .u32 1537002063, .int .u32 1747873779, .int .u32 1955562222, .int .u32 2024104815, .int .u32 2227730452, .int .u32 2361852424, .int .u32 2428436474, .int .u32 2756734187, .int .u32 3204031479, .int .u32 3329325298]
/-- A world for the witness: the settled one, the two tables holding what their initialisers lay. -/
noncomputable def shaWorld (os : Os) : World :=
  { World.holding Tryd.prog os ⟨#[], #[], []⟩ with heap := ((World.holding Tryd.prog os ⟨#[], #[], []⟩).heap.modify 0 (layCells hCells)).modify 1 (layCells kCells) }
theorem addr_add (b o j : Nat) : (⟨b, o, none⟩ : Addr).add j = ⟨b, o + j, none⟩ := by unfold Addr.add; split <;> simp_all

end Go.Proofs.YtmannigflodcfaaDoor

namespace Go.Proofs.YtmannigflodcfaaDoor
open Go.ChangeShapes Go.WideShapes Go.ChangeAt Go.RowKit

theorem mapM_ints {H : Type} {enc : TypeId × Value → H} {P : Program} {W : World} {base : Nat} {sp : Nat → Bool} {held : Bool} {e : TypeId} {q : IntKind} (he : P.underlying e = some (.int q)) {m : Nat} {cs : List Value} {c : Nat} :
    ∀ (L : List Nat) (xs : List (DataW H × List MemPlace)), L.mapM (fun i => DataW.trod enc P W base sp held m e ((cs.drop (i * c)).take c)) = some xs → ∀ i ∈ L, ∃ a, (cs.drop (i * c)).take c = [.int q a] ∧ (Lit.int q a).wf = true
  | [], xs, h => by intro i hi; cases hi
  | i :: L, xs, h => by
    rw [List.mapM_cons] at h
    simp only [bind, Option.bind_eq_some_iff, pure, Option.some.injEq] at h
    obtain ⟨y, hy, ys, hys, rfl⟩ := h
    intro j hj
    rcases List.mem_cons.1 hj with rfl | hj
    · obtain ⟨a, ea, _, wa⟩ := DataW.trod_int he hy
      exact ⟨a, ea, wa⟩
    · exact mapM_ints he L ys hys j hj
/-- The numbers of an array that came in. -/
theorem open_numbers {H : Type} {enc : TypeId × Value → H} {P : Program} {W : World} {base : Nat} {sp : Nat → Bool} {held : Bool} {k e : TypeId} {n : Nat} {q : IntKind} (A : WideMaps.ArrKey P k e n) (he : P.underlying e = some (.int q))
    {xs : Array Value} (hn : xs.size = n) {d : DataW H} {ps : List MemPlace} (hd : DataW.Trod enc P W base sp held k (.agg xs) d ps) :
    ∃ zs : List Int, zs.length = n ∧ xs = (zs.map (Value.int q)).toArray ∧ ∀ z ∈ zs, (Lit.int q z).wf = true := by
  obtain ⟨fuel, hf⟩ := hd
  cases fuel with
  | zero => simp [DataW.trod] at hf
  | succ m =>
    rw [DataW.trod_step] at hf
    unfold DataW.trodStep at hf
    simp only [A.hu, Value.cells] at hf
    rw [if_pos (by rw [A.size]; simpa using hn)] at hf
    simp only [Option.map_eq_some_iff] at hf
    obtain ⟨ys, hy, e1⟩ := hf
    have hc := mapM_ints he _ ys hy
    rw [A.one] at hc
    have hc' : ∀ i, i < n → ∃ a, xs.toList[i]? = some (.int q a) ∧ (Lit.int q a).wf = true := fun i hi => by
      obtain ⟨a, ha, hw⟩ := hc i (List.mem_range.2 hi)
      refine ⟨a, ?_, hw⟩
      rw [Nat.mul_one] at ha
      have h0 : ((xs.toList.drop i).take 1)[0]? = some (.int q a) := by rw [ha]; rfl
      simpa using h0
    refine ⟨xs.toList.map intOf, by simpa using hn, ?_, ?_⟩
    · apply Array.ext'
      simp only [List.map_map]
      apply List.ext_getElem?
      intro i
      by_cases hi : i < n
      · obtain ⟨a, ha, _⟩ := hc' i hi
        rw [ha]; simp [ha, intOf]
      · rw [List.getElem?_eq_none (by simpa [hn] using Nat.le_of_not_lt hi), List.getElem?_eq_none (by simpa [hn] using Nat.le_of_not_lt hi)]
    · intro z hz
      obtain ⟨v, hv, rfl⟩ := List.mem_map.1 hz
      obtain ⟨i, hi, rfl⟩ := List.getElem_of_mem hv
      obtain ⟨a, ha, hw⟩ := hc' i (by simpa [hn] using hi)
      rw [List.getElem?_eq_getElem hi] at ha
      rw [Option.some.inj ha]; exact hw
end Go.Proofs.YtmannigflodcfaaDoor

namespace Go.Proofs.YtmannigflodcfaaDoor
open Go.ChangeShapes Go.WideShapes Go.ChangeAt Go.RowKit
set_option linter.unusedVariables false

theorem arrD : WideMaps.ArrKey Tryd.prog 24 5 32 := ⟨Tryd.underlying24, by kernel_rfl, by kernel_rfl, by kernel_rfl⟩
theorem open_digest {H : Type} {enc : TypeId × Value → H} {W : World} {base : Nat} {sp : Nat → Bool} {held : Bool} {xs : Array Value} (hn : xs.size = 32) {d : DataW H} {ps : List MemPlace} (hd : DataW.Trod enc Tryd.prog W base sp held 24 (.agg xs) d ps) :
    ∃ l : List UInt8, xs = bc l ∧ l.length = 32 := by
  obtain ⟨zs, hl, rfl, hw⟩ := open_numbers arrD Tryd.underlying5 hn hd
  have e : ∀ z ∈ zs, ((UInt8.ofNat z.toNat).toNat : Int) = z := fun z hz => by
    have := hw z hz
    simp [Lit.wf, IntKind.min, IntKind.max, IntKind.signed, IntKind.bits] at this
    rw [UInt8.toNat_ofNat']; omega
  refine ⟨zs.map fun z => UInt8.ofNat z.toNat, ?_, by simpa using hl⟩
  unfold bc Lib.byteCells
  rw [List.map_map]
  congr 1
  apply List.map_congr_left
  intro z hz
  simp only [Function.comp_apply]
  rw [e z hz]
end Go.Proofs.YtmannigflodcfaaDoor
