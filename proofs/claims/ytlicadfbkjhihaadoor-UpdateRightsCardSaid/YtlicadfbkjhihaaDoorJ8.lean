/-
  A STOP AS A ROW; WHAT update's Halts RETURNS, where there is no log.
-/
/-
  THE DOCUMENT's OWN Claim AND Halt (layer 10), where there is no log.
-/
/-
  THE DOCUMENT'S OWN Right AND Halts (layer 10), where there is no log.
-/
/-
  A WHOLE ROW LOADED WHERE A GUARD LETS IT. Over whatever program.
-/
/-
  WHAT update's Double AND THE DOCUMENT'S RETURN OF ANY TWO UPDATES, where there is no log.
-/
/-
  WHAT THE DOCUMENT'S OWN Double RETURNS OF ANY TWO UPDATES, where there is no log.
-/
/-
  THE LAYER's awake, OF UPDATES: what a signer signs is right under its root; an empty update is not.
-/
/-
  THE LAYER's awake, OF UPDATES.
-/
import Derived.Test.YtlicadfbkjhihaaDoorJ7
import Derived.Test.YtlicadfbkjhihaaDoorJ6
import Derived.Test.YtlicadfbkjhihaaDoorJ2
import Derived.Test.YtlicadfbkjhihaaDoorJ5
import Derived.Test.YtlicadfbkjhihaaDoorJ0
import Derived.Test.YtlicadfbkjhihaaDoorJ3
namespace Go.Proofs.YtlicadfbkjhihaaDoor
open Go Go.RowKit
set_option linter.unusedSimpArgs false
set_option linter.unusedVariables false

def stopZ : Array Value := stopc 0 (List.replicate 32 0) 0 sigZ
theorem built_stop (home : Nat) (a : List UInt8) (ha : a.length = 32) (y x : Int) (p1 p2 p3 : Option Addr) (n1 n2 n3 c1 c2 c3 : Nat) : Tryd.prog.built 40 [(0, .int .u32 (home : Int)), (1, .agg (bc a)), (2, .int .i64 y), (3, .agg #[.int .i64 x, .slice p1 n1 c1, .slice p2 n2 c2, .slice p3 n3 c3])] = some (stopc home a y #[.int .i64 x, .slice p1 n1 c1, .slice p2 n2 c2, .slice p3 n3 c3]) := by
  obtain ⟨a0, a1, a2, a3, a4, a5, a6, a7, a8, a9, a10, a11, a12, a13, a14, a15, a16, a17, a18, a19, a20, a21, a22, a23, a24, a25, a26, a27, a28, a29, a30, a31, rfl⟩ := list32 a ha
  kernel_rfl
set_option maxHeartbeats 4000000 in
set_option maxRecDepth 100000 in
theorem uhalts_of (root : List UInt8) (hr : root.length = 32) (home : Nat) (hh : home < 4294967296) (a : List UInt8) (ha : a.length = 32) (x : Int) (cs : Array Value) (hc : cs.size = 4) (res : Bool) (w : World) (tabs : Tabs w)
    (hv : ∀ W, Below w.heap.size w W → Calls Tryd.prog 29 #[.pointer none, .agg (bc root), .agg (bc (pHalt home a x)), .agg cs] W fun e w' => e = .returned (.bool res) ∧ Below W.heap.size W w') :
    Calls Tryd.prog 16 #[.pointer none, .agg (bc root), .agg (stopc home a x cs)] w fun e w' => e = .returned (.bool res) ∧ Below w.heap.size w w' := by
  have hir := digInfo root hr
  obtain ⟨q0, q1⟩ := al2 w (.cells (bc root) 23) (.cells (stopc home a x cs) 40)
  have hbW := bel2 w (.cells (bc root) 23) (.cells (stopc home a x cs) 40)
  have cl := hide fun W t => halt_calls home hh a ha x W t
  have HV := hide hv
  obtain ⟨X, hX⟩ : ∃ X, (w.alloc (.cells (bc root) 23)).alloc (.cells (stopc home a x cs) 40) = X := ⟨_, rfl⟩
  rw [hX] at q0 q1 hbW
  have HX := hide hX
  have tX := tabs.below hbW (Nat.le_refl _)
  have zX := (Array.getElem?_eq_some_iff.1 q1).1
  have R0 : Hid (∀ w', (∃ p : Regrown, w' = Sort.grow (redrawn X p.d) p.os) → w'.heap[w.heap.size]? = some (.cells (bc root) 23 (0, 0))) := fun w' ⟨p, hp⟩ => by rw [hp]; exact Below.at (below_regrown X p.d p.os) (Array.getElem?_eq_some_iff.1 q0).1 q0
  have R1 : ∀ w' : World, (∃ p : Regrown, w' = Sort.grow (redrawn X p.d) p.os) → w'.heap[w.heap.size + 1]? = some (.cells (stopc home a x cs) 40 (0, 0)) := fun w' ⟨p, hp⟩ => by rw [hp]; exact Below.at (below_regrown X p.d p.os) zX q1
  have RA : Hid (∀ w', (∃ p : Regrown, w' = Sort.grow (redrawn X p.d) p.os) → w'.rangeAt (w.heap.size + 1) 1 (Lib.byteCells a)) := hide fun w' hp => stopc_key home a ha x cs w' _ _ (R1 w' hp)
  have RS : Hid (∀ w', (∃ p : Regrown, w' = Sort.grow (redrawn X p.d) p.os) → w'.rangeAt (w.heap.size + 1) 34 cs.toList) := hide fun w' hp => stopc_sig home a ha x cs hc w' _ _ (R1 w' hp)
  have c0 : ∀ d os, (Sort.grow (redrawn X d) os).cell? ⟨w.heap.size + 1, 0, none⟩ = some (.int .u32 (home : Int)) := fun d os => by
    rw [cell_of_row _ _ _ _ _ _ (R1 _ ⟨⟨d, os⟩, rfl⟩)]; exact stopc_home home a x cs
  have c33 : ∀ d os, (Sort.grow (redrawn X d) os).cell? ⟨w.heap.size + 1, 33, none⟩ = some (.int .i64 x) := fun d os => by
    rw [cell_of_row _ _ _ _ _ _ (R1 _ ⟨⟨d, os⟩, rfl⟩)]; exact stopc_who home a ha x cs
  have kC := hide fun d os => Calls.regrown_of (w := X) (d := d) (os := os) (unhide cl _ (tX.below (below_regrown X d os) (Nat.le_refl _)))
  have kV := hide fun d os => Calls.regrown_of (w := X) (d := d) (os := os) (unhide HV _ (hbW.trans ((below_regrown X d os).mono hbW.size)))
  have Ha := hide ha
  have Hc := hide hc
  generalize pHalt home a x = D at *
  generalize stopc home a x cs = UC at *
  clear tX tabs hv R1 q0 q1 zX hX ha hc
  go_enter Tryd.func16, Tryd.ntmps16
  go_wp2_with (rw [unhide HX])
  refine wp_region_below mixed (by kernel_rfl) ?_
  quiet_step (fail)
  refine wpQuiet_load_row rfl 23 (.tmp 4) rfl w.heap.size rfl 23 _ (0, 0) _ (unhide R0) Tryd.underlying23 rfl hir ?_
  quiet_step (fail)
  quiet_step (fail)
  quiet_step (fail)
  quiet_step (fail)
  refine wpQuiet_load_mid rfl 23 (.tmp 12) rfl (w.heap.size + 1) 1 rfl (Lib.byteCells a) _ (unhide RA) Tryd.underlying23 rfl (by rw [Lib.byteCells_length, unhide Ha]; kernel_rfl) ?_
  quiet_step (fail)
  quiet_step (fail)
  quiet_step (exact unhide kC _ _)
  quiet_step (fail)
  refine wpQuiet_load_mid rfl 30 (.tmp 17) rfl (w.heap.size + 1) 34 rfl cs.toList _ (unhide RS) Tryd.underlying30 rfl (by rw [Array.length_toList, unhide Hc]; kernel_rfl) ?_
  quiet_step (exact unhide kV _ _)
  repeat (quiet_step (fail))
  refine wpQuiet_nil ?_
  intro w2 b2
  go_wp2
  go_ret
  exact ⟨rfl, hbW.trans (b2.mono hbW.size)⟩
end Go.Proofs.YtlicadfbkjhihaaDoor

namespace Go.Proofs.YtlicadfbkjhihaaDoor
open Go Go.RowKit
set_option linter.unusedSimpArgs false
set_option linter.unusedVariables false

theorem pBig_low (n : Nat) : pBig n 4 = pBig (n % 4294967296) 4 := by
  unfold pBig
  apply List.map_congr_left
  intro i hi
  have hi4 : i < 4 := List.mem_range.1 hi
  have h : i = 0 ∨ i = 1 ∨ i = 2 ∨ i = 3 := by omega
  apply UInt8.toNat_inj.1
  rw [UInt8.toNat_ofNat', UInt8.toNat_ofNat']
  rcases h with rfl | rfl | rfl | rfl <;> omega
theorem wrap_low (x : Int) : ∃ n : Nat, n < 18446744073709551616 ∧ IntKind.u64.wrap x = (n : Int) ∧ pBig n 4 = pBig (x % 4294967296).toNat 4 := by
  refine ⟨(x % 18446744073709551616).toNat, by omega, by rw [IntKind.wrap_u64]; omega, ?_⟩
  rw [pBig_low]
  congr 1
  omega
set_option maxHeartbeats 2000000 in
set_option maxRecDepth 100000 in
theorem rclaim_calls (home : Nat) (hh : home < 4294967296) (a b : List UInt8) (ha : a.length = 32) (hb : b.length = 32) (w : World) :
    Calls Tryd.prog 25 #[.pointer none, .int .u32 (home : Int), .agg (bc a), .agg (bc b)] w fun e w' => e = .returned (.agg (bc (pClaim home a b))) ∧ Below w.heap.size w w' := by
  have co := fun g w hs => rofNil_calls 7 (by decide) [pBig home 4, a, b] (by simp [pBig_length]; omega) (by simp) (some ⟨g, 0, none⟩) 3 w hs
  have hia := digInfo a ha
  have hib := digInfo b hb
  have hi1 := digInfo (pClaim home a b) (pOf_length 7 [pBig home 4, a, b])
  have hz1 := zeroSize (pClaim home a b) (pOf_length 7 [pBig home 4, a, b])
  have ho1 := bc_oneCell (pClaim home a b)
  have cw := fun w => rbig_calls home 4 (by omega) (by decide) (by decide) w
  rw [show ((4 : Nat) : Int) = 4 from rfl] at cw
  have hwr : IntKind.u64.wrap (home : Int) = (home : Int) := by rw [IntKind.wrap_u64]; omega
  have ca := fun w => rbytes_calls a ha w
  have cb := fun w => rbytes_calls b hb w
  have e2 : pOf 7 [pBig home 4, a, b] = pClaim home a b := rfl
  rw [e2] at co
  generalize pClaim home a b = D at *
  generalize pBig home 4 = PH at *
  clear e2
  have A3 := hide (al3 w (.cells (bc a) 23) (.cells (bc b) 23) (.cells (bc (List.replicate 32 0)) 23))
  have B3 := hide (bel3 w (.cells (bc a) 23) (.cells (bc b) 23) (.cells (bc (List.replicate 32 0)) 23))
  have S3 : Hid ((((w.alloc (.cells (bc a) 23)).alloc (.cells (bc b) 23)).alloc (.cells (bc (List.replicate 32 0)) 23)).heap.size = w.heap.size + 1 + 1 + 1) := hide (by simp)
  generalize hX : ((w.alloc (.cells (bc a) 23)).alloc (.cells (bc b) 23)).alloc (.cells (bc (List.replicate 32 0)) 23) = X at *
  have HX := hide hX
  have CO := hide co
  have kW : Hid (∀ dd os, Calls Tryd.prog 42 #[.int .u64 (home : Int), .int .i64 4] (Sort.grow (redrawn X.drew dd) os) fun e w'' => e = .returned (.string (str PH)) ∧ ∃ p : Regrown, w'' = Sort.grow (redrawn X.drew p.d) p.os) := fun dd os => Calls.regrown_of (cw _)
  have kA : Hid (∀ dd os, Calls Tryd.prog 43 #[.agg (bc a)] (Sort.grow (redrawn X.drew dd) os) fun e w'' => e = .returned (.string (str a)) ∧ ∃ p : Regrown, w'' = Sort.grow (redrawn X.drew p.d) p.os) := fun dd os => Calls.regrown_of (ca _)
  have kB : Hid (∀ dd os, Calls Tryd.prog 43 #[.agg (bc b)] (Sort.grow (redrawn X.drew dd) os) fun e w'' => e = .returned (.string (str b)) ∧ ∃ p : Regrown, w'' = Sort.grow (redrawn X.drew p.d) p.os) := fun dd os => Calls.regrown_of (cb _)
  have dX : Below X.heap.size X X.drew := ⟨rfl, rfl, rfl, Nat.le_refl _, fun _ _ => rfl⟩
  have s3 := unhide S3
  have R0 : Hid (∀ w', (∃ p : Regrown, w' = Sort.grow (redrawn X.drew p.d) p.os) → w'.heap[w.heap.size]? = some (.cells (bc a) 23 (0, 0))) := fun w' ⟨p, hp⟩ => by
    rw [hp]; exact Below.at (below_regrown X.drew p.d p.os) (by show _ < X.heap.size; omega) (unhide A3).1
  have R1 : Hid (∀ w', (∃ p : Regrown, w' = Sort.grow (redrawn X.drew p.d) p.os) → w'.heap[w.heap.size + 1]? = some (.cells (bc b) 23 (0, 0))) := fun w' ⟨p, hp⟩ => by
    rw [hp]; exact Below.at (below_regrown X.drew p.d p.os) (by show _ < X.heap.size; omega) (unhide A3).2.1
  clear co ca cb cw s3 dX hX
  go_enter Tryd.func25, Tryd.ntmps25
  go_wp2_with fail
  change Code.wp _ _ _ _ (((w.alloc (.cells (bc a) 23)).alloc (.cells (bc b) 23)).alloc (.cells (bc (List.replicate 32 0)) 23))
  rw [unhide HX]
  refine wp_region_any mixed ?_
  change wpAny _ _ _ _ _ _ _ X.drew
  refine wpAny_take (i := 0) rfl (by kernel_rfl) (by kernel_rfl) (by kernel_rfl) (fun _ _ _ h => h) (.inl ⟨rfl, fun _ => rfl⟩) ?_
  refine wpAny_take (i := 1) rfl (by kernel_rfl) (by kernel_rfl) (by kernel_rfl) (fun _ _ _ h => h) (.inl ⟨rfl, fun _ => rfl⟩) ?_
  refine wpAny_below_head 2 8 (by kernel_rfl) ?_
  simp only [List.take_succ_cons, List.take_zero, List.drop_succ_cons, List.drop_zero]
  quiet_step (fail)
  quiet_step (exact unhide kW _ _)
  refine wpQuiet_load_row rfl 23 (.tmp 6) rfl w.heap.size rfl 23 _ (0, 0) _ (unhide R0) Tryd.underlying23 rfl hia ?_
  quiet_step (exact unhide kA _ _)
  refine wpQuiet_load_row rfl 23 (.tmp 7) rfl (w.heap.size + 1) rfl 23 _ (0, 0) _ (unhide R1) Tryd.underlying23 rfl hib ?_
  quiet_step (exact unhide kB _ _)
  refine wpQuiet_nil ?_
  intro w2 hb2
  have hb2' : Below X.heap.size X w2 := ⟨hb2.os, hb2.tape, hb2.output, hb2.size, hb2.block⟩
  have s3 := unhide S3
  have q2 := Below.at hb2' (by omega) (unhide A3).2.2
  have hbw : Below w.heap.size w w2 := (unhide B3).trans (hb2'.mono (by omega))
  have z2 : w.heap.size + 1 + 1 < w2.heap.size := by have := hb2'.size; omega
  have HB := hide hbw
  have Q2 := hide q2
  have Z2 := hide z2
  clear hb2 hb2' s3 q2 hbw z2
  refine wpAny_rest 8 (by kernel_rfl) ?_
  simp only [List.drop_succ_cons, List.drop_zero]
  go_wp2_with fail
  refine (unhide CO _ _ (strsAt_three w2 PH a b _)).mono ?_
  rintro e w3 ⟨rfl, b3⟩
  have q3 := Below.at b3 (by have := unhide Z2; simp; omega) ((Below.heap_alloc w2 (.cells #[.string (str PH), .string (str a), .string (str b)] 9) _ (unhide Z2)).trans (unhide Q2))
  have hb3 : Below w.heap.size w w3 := ((unhide HB).alloc (by have := unhide Z2; omega) _).trans (b3.mono (by have := unhide Z2; simp; omega))
  have Q3 := hide q3
  have HB3 := hide hb3
  clear b3 q3 hb3
  go_wp2_with (refine wpList_store_row rfl 23 (.tmp 8) (.tmp 18) rfl (w.heap.size + 1 + 1) _ rfl rfl 23 _ (unhide Q3) hi1 hz1 ho1 ?_)
  exact bodyPost_ret (results_cell_row rfl _ _ (w.heap.size + 1 + 1) _ _ _ _ rfl (setRow_heap _ _ _ _ _ _ (unhide Q3)) Tryd.underlying23 rfl hi1) rfl ⟨rfl, below_setRow (unhide HB3) (by omega) _⟩
set_option maxHeartbeats 2000000 in
set_option maxRecDepth 100000 in
theorem rhalt_calls (home : Nat) (hh : home < 4294967296) (a : List UInt8) (ha : a.length = 32) (x : Int) (w : World) :
    Calls Tryd.prog 27 #[.pointer none, .int .u32 (home : Int), .agg (bc a), .int .i64 x] w fun e w' => e = .returned (.agg (bc (pHalt home a x))) ∧ Below w.heap.size w w' := by
  have co := fun g w hs => rofNil_calls 9 (by decide) [pBig home 4, a, pBig (x % 4294967296).toNat 4] (by simp [pBig_length]; omega) (by simp) (some ⟨g, 0, none⟩) 3 w hs
  have hia := digInfo a ha
  have hi1 := digInfo (pHalt home a x) (pOf_length 9 [pBig home 4, a, pBig (x % 4294967296).toNat 4])
  have hz1 := zeroSize (pHalt home a x) (pOf_length 9 [pBig home 4, a, pBig (x % 4294967296).toNat 4])
  have ho1 := bc_oneCell (pHalt home a x)
  have ca := fun w => rbytes_calls a ha w
  have cw := fun w => rbig_calls home 4 (by omega) (by decide) (by decide) w
  rw [show ((4 : Nat) : Int) = 4 from rfl] at cw
  have hwr : IntKind.u64.wrap (home : Int) = (home : Int) := by rw [IntKind.wrap_u64]; omega
  obtain ⟨n, hn, hwx, hpx⟩ := wrap_low x
  have cb := fun w => rbig_calls n 4 hn (by decide) (by decide) w
  rw [show ((4 : Nat) : Int) = 4 from rfl, hpx] at cb
  have e2 : pOf 9 [pBig home 4, a, pBig (x % 4294967296).toNat 4] = pHalt home a x := rfl
  rw [e2] at co
  generalize pHalt home a x = D at *
  generalize pBig home 4 = PH at *
  generalize pBig (x % 4294967296).toNat 4 = PX at *
  clear e2 hpx
  have A3 := hide (al2 w (.cells (bc a) 23) (.cells (bc (List.replicate 32 0)) 23))
  have B3 := hide (bel2 w (.cells (bc a) 23) (.cells (bc (List.replicate 32 0)) 23))
  have S3 : Hid (((w.alloc (.cells (bc a) 23)).alloc (.cells (bc (List.replicate 32 0)) 23)).heap.size = w.heap.size + 1 + 1) := hide (by simp)
  generalize hX : (w.alloc (.cells (bc a) 23)).alloc (.cells (bc (List.replicate 32 0)) 23) = X at *
  have HX := hide hX
  have CO := hide co
  have kA : Hid (∀ dd os, Calls Tryd.prog 43 #[.agg (bc a)] (Sort.grow (redrawn X.drew dd) os) fun e w'' => e = .returned (.string (str a)) ∧ ∃ p : Regrown, w'' = Sort.grow (redrawn X.drew p.d) p.os) := fun dd os => Calls.regrown_of (ca _)
  have kB : Hid (∀ dd os, Calls Tryd.prog 42 #[.int .u64 (n : Int), .int .i64 4] (Sort.grow (redrawn X.drew dd) os) fun e w'' => e = .returned (.string (str PX)) ∧ ∃ p : Regrown, w'' = Sort.grow (redrawn X.drew p.d) p.os) := fun dd os => Calls.regrown_of (cb _)
  have kW : Hid (∀ dd os, Calls Tryd.prog 42 #[.int .u64 (home : Int), .int .i64 4] (Sort.grow (redrawn X.drew dd) os) fun e w'' => e = .returned (.string (str PH)) ∧ ∃ p : Regrown, w'' = Sort.grow (redrawn X.drew p.d) p.os) := fun dd os => Calls.regrown_of (cw _)
  have dX : Below X.heap.size X X.drew := ⟨rfl, rfl, rfl, Nat.le_refl _, fun _ _ => rfl⟩
  have s3 := unhide S3
  have R0 : Hid (∀ w', (∃ p : Regrown, w' = Sort.grow (redrawn X.drew p.d) p.os) → w'.heap[w.heap.size]? = some (.cells (bc a) 23 (0, 0))) := fun w' ⟨p, hp⟩ => by
    rw [hp]; exact Below.at (below_regrown X.drew p.d p.os) (by show _ < X.heap.size; omega) (unhide A3).1
  clear co ca cb cw s3 dX hX
  go_enter Tryd.func27, Tryd.ntmps27
  go_wp2_with fail
  change Code.wp _ _ _ _ ((w.alloc (.cells (bc a) 23)).alloc (.cells (bc (List.replicate 32 0)) 23))
  rw [unhide HX]
  refine wp_region_any mixed ?_
  change wpAny _ _ _ _ _ _ _ X.drew
  refine wpAny_take (i := 0) rfl (by kernel_rfl) (by kernel_rfl) (by kernel_rfl) (fun _ _ _ h => h) (.inl ⟨rfl, fun _ => rfl⟩) ?_
  refine wpAny_take (i := 1) rfl (by kernel_rfl) (by kernel_rfl) (by kernel_rfl) (fun _ _ _ h => h) (.inl ⟨rfl, fun _ => rfl⟩) ?_
  refine wpAny_below_head 2 9 (by kernel_rfl) ?_
  simp only [List.take_succ_cons, List.take_zero, List.drop_succ_cons, List.drop_zero]
  quiet_step (fail)
  quiet_step (exact unhide kW _ _)
  refine wpQuiet_load_row rfl 23 (.tmp 6) rfl w.heap.size rfl 23 _ (0, 0) _ (unhide R0) Tryd.underlying23 rfl hia ?_
  quiet_step (exact unhide kA _ _)
  quiet_step (fail)
  quiet_step (fail)
  quiet_step (exact unhide kB _ _)
  refine wpQuiet_nil ?_
  intro w2 hb2
  have hb2' : Below X.heap.size X w2 := ⟨hb2.os, hb2.tape, hb2.output, hb2.size, hb2.block⟩
  have s3 := unhide S3
  have q2 := Below.at hb2' (by omega) (unhide A3).2
  have hbw : Below w.heap.size w w2 := (unhide B3).trans (hb2'.mono (by omega))
  have z2 : w.heap.size + 1 < w2.heap.size := by have := hb2'.size; omega
  have HB := hide hbw
  have Q2 := hide q2
  have Z2 := hide z2
  clear hb2 hb2' s3 q2 hbw z2
  refine wpAny_rest 9 (by kernel_rfl) ?_
  simp only [List.drop_succ_cons, List.drop_zero]
  go_wp2_with fail
  refine (unhide CO _ _ (strsAt_three w2 PH a PX _)).mono ?_
  rintro e w3 ⟨rfl, b3⟩
  have q3 := Below.at b3 (by have := unhide Z2; simp; omega) ((Below.heap_alloc w2 (.cells #[.string (str PH), .string (str a), .string (str PX)] 9) _ (unhide Z2)).trans (unhide Q2))
  have hb3 : Below w.heap.size w w3 := ((unhide HB).alloc (by have := unhide Z2; omega) _).trans (b3.mono (by have := unhide Z2; simp; omega))
  have Q3 := hide q3
  have HB3 := hide hb3
  clear b3 q3 hb3
  go_wp2_with (refine wpList_store_row rfl 23 (.tmp 8) (.tmp 19) rfl (w.heap.size + 1) _ rfl rfl 23 _ (unhide Q3) hi1 hz1 ho1 ?_)
  exact bodyPost_ret (results_cell_row rfl _ _ (w.heap.size + 1) _ _ _ _ rfl (setRow_heap _ _ _ _ _ _ (unhide Q3)) Tryd.underlying23 rfl hi1) rfl ⟨rfl, below_setRow (unhide HB3) (by omega) _⟩
end Go.Proofs.YtlicadfbkjhihaaDoor

namespace Go.Proofs.YtlicadfbkjhihaaDoor
open Go Go.RowKit
set_option linter.unusedSimpArgs false
set_option linter.unusedVariables false

set_option maxHeartbeats 4000000 in
set_option maxRecDepth 100000 in
theorem rright_of (root : List UInt8) (hr : root.length = 32) (home : Nat) (hh : home < 4294967296) (a b : List UInt8) (ha : a.length = 32) (hb : b.length = 32) (cs : Array Value) (hc : cs.size = 4) (res : Bool) (w : World)
    (hv : ∀ W, Below w.heap.size w W → Calls Tryd.prog 30 #[.pointer none, .agg (bc root), .agg (bc (pClaim home a b)), .agg cs] W fun e w' => e = .returned (.bool res) ∧ Below W.heap.size W w') :
    Calls Tryd.prog 15 #[.pointer none, .agg (bc root), .agg (updc home a b cs)] w fun e w' => e = .returned (.bool res) ∧ Below w.heap.size w w' := by
  have hir := digInfo root hr
  obtain ⟨q0, q1⟩ := al2 w (.cells (bc root) 23) (.cells (updc home a b cs) 32)
  have hbW := bel2 w (.cells (bc root) 23) (.cells (updc home a b cs) 32)
  have cl := hide fun W => rclaim_calls home hh a b ha hb W
  have HV := hide hv
  obtain ⟨X, hX⟩ : ∃ X, (w.alloc (.cells (bc root) 23)).alloc (.cells (updc home a b cs) 32) = X := ⟨_, rfl⟩
  rw [hX] at q0 q1 hbW
  have HX := hide hX
  have zX := (Array.getElem?_eq_some_iff.1 q1).1
  have R0 : Hid (∀ w', (∃ p : Regrown, w' = Sort.grow (redrawn X p.d) p.os) → w'.heap[w.heap.size]? = some (.cells (bc root) 23 (0, 0))) := fun w' ⟨p, hp⟩ => by rw [hp]; exact Below.at (below_regrown X p.d p.os) (Array.getElem?_eq_some_iff.1 q0).1 q0
  have R1 : ∀ w' : World, (∃ p : Regrown, w' = Sort.grow (redrawn X p.d) p.os) → w'.heap[w.heap.size + 1]? = some (.cells (updc home a b cs) 32 (0, 0)) := fun w' ⟨p, hp⟩ => by rw [hp]; exact Below.at (below_regrown X p.d p.os) zX q1
  have RA : Hid (∀ w', (∃ p : Regrown, w' = Sort.grow (redrawn X p.d) p.os) → w'.rangeAt (w.heap.size + 1) 1 (Lib.byteCells a)) := hide fun w' hp => updc_old home a b ha hb cs w' _ _ (R1 w' hp)
  have RB : Hid (∀ w', (∃ p : Regrown, w' = Sort.grow (redrawn X p.d) p.os) → w'.rangeAt (w.heap.size + 1) 33 (Lib.byteCells b)) := hide fun w' hp => updc_new home a b ha hb cs w' _ _ (R1 w' hp)
  have RS : Hid (∀ w', (∃ p : Regrown, w' = Sort.grow (redrawn X p.d) p.os) → w'.rangeAt (w.heap.size + 1) 65 cs.toList) := hide fun w' hp => updc_sig home a b ha hb cs hc w' _ _ (R1 w' hp)
  have c0 : ∀ d os, (Sort.grow (redrawn X d) os).cell? ⟨w.heap.size + 1, 0, none⟩ = some (.int .u32 (home : Int)) := fun d os => by
    rw [cell_of_row _ _ _ _ _ _ (R1 _ ⟨⟨d, os⟩, rfl⟩)]; exact updc_home home a b cs
  have kC := hide fun d os => Calls.regrown_of (w := X) (d := d) (os := os) (unhide cl _)
  have kV := hide fun d os => Calls.regrown_of (w := X) (d := d) (os := os) (unhide HV _ (hbW.trans ((below_regrown X d os).mono hbW.size)))
  have Ha := hide ha
  have Hb := hide hb
  have Hc := hide hc
  generalize pClaim home a b = D at *
  generalize updc home a b cs = UC at *
  clear hv R1 q0 q1 zX hX ha hb hc
  go_enter Tryd.func15, Tryd.ntmps15
  go_wp2_with (rw [unhide HX])
  refine wp_region_below mixed (by kernel_rfl) ?_
  quiet_step (fail)
  refine wpQuiet_load_row rfl 23 (.tmp 4) rfl w.heap.size rfl 23 _ (0, 0) _ (unhide R0) Tryd.underlying23 rfl hir ?_
  quiet_step (fail)
  quiet_step (fail)
  quiet_step (fail)
  quiet_step (fail)
  refine wpQuiet_load_mid rfl 23 (.tmp 12) rfl (w.heap.size + 1) 1 rfl (Lib.byteCells a) _ (unhide RA) Tryd.underlying23 rfl (by rw [Lib.byteCells_length, unhide Ha]; kernel_rfl) ?_
  quiet_step (fail)
  refine wpQuiet_load_mid rfl 23 (.tmp 14) rfl (w.heap.size + 1) 33 rfl (Lib.byteCells b) _ (unhide RB) Tryd.underlying23 rfl (by rw [Lib.byteCells_length, unhide Hb]; kernel_rfl) ?_
  quiet_step (exact unhide kC _ _)
  quiet_step (fail)
  refine wpQuiet_load_mid rfl 30 (.tmp 17) rfl (w.heap.size + 1) 65 rfl cs.toList _ (unhide RS) Tryd.underlying30 rfl (by rw [Array.length_toList, unhide Hc]; kernel_rfl) ?_
  quiet_step (exact unhide kV _ _)
  repeat (quiet_step (fail))
  refine wpQuiet_nil ?_
  intro w2 b2
  go_wp2
  go_ret
  exact ⟨rfl, hbW.trans (b2.mono hbW.size)⟩
set_option maxHeartbeats 4000000 in
set_option maxRecDepth 100000 in
theorem rhalts_of (root : List UInt8) (hr : root.length = 32) (home : Nat) (hh : home < 4294967296) (a : List UInt8) (ha : a.length = 32) (x : Int) (cs : Array Value) (hc : cs.size = 4) (res : Bool) (w : World)
    (hv : ∀ W, Below w.heap.size w W → Calls Tryd.prog 30 #[.pointer none, .agg (bc root), .agg (bc (pHalt home a x)), .agg cs] W fun e w' => e = .returned (.bool res) ∧ Below W.heap.size W w') :
    Calls Tryd.prog 17 #[.pointer none, .agg (bc root), .agg (stopc home a x cs)] w fun e w' => e = .returned (.bool res) ∧ Below w.heap.size w w' := by
  have hir := digInfo root hr
  obtain ⟨q0, q1⟩ := al2 w (.cells (bc root) 23) (.cells (stopc home a x cs) 40)
  have hbW := bel2 w (.cells (bc root) 23) (.cells (stopc home a x cs) 40)
  have cl := hide fun W => rhalt_calls home hh a ha x W
  have HV := hide hv
  obtain ⟨X, hX⟩ : ∃ X, (w.alloc (.cells (bc root) 23)).alloc (.cells (stopc home a x cs) 40) = X := ⟨_, rfl⟩
  rw [hX] at q0 q1 hbW
  have HX := hide hX
  have zX := (Array.getElem?_eq_some_iff.1 q1).1
  have R0 : Hid (∀ w', (∃ p : Regrown, w' = Sort.grow (redrawn X p.d) p.os) → w'.heap[w.heap.size]? = some (.cells (bc root) 23 (0, 0))) := fun w' ⟨p, hp⟩ => by rw [hp]; exact Below.at (below_regrown X p.d p.os) (Array.getElem?_eq_some_iff.1 q0).1 q0
  have R1 : ∀ w' : World, (∃ p : Regrown, w' = Sort.grow (redrawn X p.d) p.os) → w'.heap[w.heap.size + 1]? = some (.cells (stopc home a x cs) 40 (0, 0)) := fun w' ⟨p, hp⟩ => by rw [hp]; exact Below.at (below_regrown X p.d p.os) zX q1
  have RA : Hid (∀ w', (∃ p : Regrown, w' = Sort.grow (redrawn X p.d) p.os) → w'.rangeAt (w.heap.size + 1) 1 (Lib.byteCells a)) := hide fun w' hp => stopc_key home a ha x cs w' _ _ (R1 w' hp)
  have RS : Hid (∀ w', (∃ p : Regrown, w' = Sort.grow (redrawn X p.d) p.os) → w'.rangeAt (w.heap.size + 1) 34 cs.toList) := hide fun w' hp => stopc_sig home a ha x cs hc w' _ _ (R1 w' hp)
  have c0 : ∀ d os, (Sort.grow (redrawn X d) os).cell? ⟨w.heap.size + 1, 0, none⟩ = some (.int .u32 (home : Int)) := fun d os => by
    rw [cell_of_row _ _ _ _ _ _ (R1 _ ⟨⟨d, os⟩, rfl⟩)]; exact stopc_home home a x cs
  have c33 : ∀ d os, (Sort.grow (redrawn X d) os).cell? ⟨w.heap.size + 1, 33, none⟩ = some (.int .i64 x) := fun d os => by
    rw [cell_of_row _ _ _ _ _ _ (R1 _ ⟨⟨d, os⟩, rfl⟩)]; exact stopc_who home a ha x cs
  have kC := hide fun d os => Calls.regrown_of (w := X) (d := d) (os := os) (unhide cl _)
  have kV := hide fun d os => Calls.regrown_of (w := X) (d := d) (os := os) (unhide HV _ (hbW.trans ((below_regrown X d os).mono hbW.size)))
  have Ha := hide ha
  have Hc := hide hc
  generalize pHalt home a x = D at *
  generalize stopc home a x cs = UC at *
  clear hv R1 q0 q1 zX hX ha hc
  go_enter Tryd.func17, Tryd.ntmps17
  go_wp2_with (rw [unhide HX])
  refine wp_region_below mixed (by kernel_rfl) ?_
  quiet_step (fail)
  refine wpQuiet_load_row rfl 23 (.tmp 4) rfl w.heap.size rfl 23 _ (0, 0) _ (unhide R0) Tryd.underlying23 rfl hir ?_
  quiet_step (fail)
  quiet_step (fail)
  quiet_step (fail)
  quiet_step (fail)
  refine wpQuiet_load_mid rfl 23 (.tmp 12) rfl (w.heap.size + 1) 1 rfl (Lib.byteCells a) _ (unhide RA) Tryd.underlying23 rfl (by rw [Lib.byteCells_length, unhide Ha]; kernel_rfl) ?_
  quiet_step (fail)
  quiet_step (fail)
  quiet_step (exact unhide kC _ _)
  quiet_step (fail)
  refine wpQuiet_load_mid rfl 30 (.tmp 17) rfl (w.heap.size + 1) 34 rfl cs.toList _ (unhide RS) Tryd.underlying30 rfl (by rw [Array.length_toList, unhide Hc]; kernel_rfl) ?_
  quiet_step (exact unhide kV _ _)
  repeat (quiet_step (fail))
  refine wpQuiet_nil ?_
  intro w2 b2
  go_wp2
  go_ret
  exact ⟨rfl, hbW.trans (b2.mono hbW.size)⟩
/-- Whether an update, a stop, is right under a root. -/
def pRight (root : List UInt8) (home : Nat) (a b : List UInt8) (x : Int) (n1 n2 n3 : Nat) (P O Q : List UInt8) : Bool := pVer root (pClaim home a b) x n1 n2 n3 P O Q
def pHalts (root : List UInt8) (home : Nat) (a : List UInt8) (y : Int) (x : Int) (n1 n2 n3 : Nat) (P O Q : List UInt8) : Bool := pVer root (pHalt home a y) x n1 n2 n3 P O Q
section
variable (root : List UInt8) (hR : root.length = 32) (home : Nat) (hh : home < 4294967296) (a b : List UInt8) (ha : a.length = 32) (hb : b.length = 32) (y x : Int) (p1 p2 p3 : Option Addr) (n1 n2 n3 c1 c2 c3 : Nat) (P O Q : List UInt8) (w : World)
include hR hh ha
theorem rightX_calls (hb : b.length = 32) (D1 : Digs w (.slice p1 n1 c1) P) (D2 : Digs w (.slice p2 n2 c2) O) (D3 : Digs w (.slice p3 n3 c3) Q) (tabs : Tabs w) :
    Calls Tryd.prog 14 #[.pointer none, .agg (bc root), .agg (updc home a b #[.int .i64 x, .slice p1 n1 c1, .slice p2 n2 c2, .slice p3 n3 c3])] w fun e w' => e = .returned (.bool (pRight root home a b x n1 n2 n3 P O Q)) ∧ Below w.heap.size w w' :=
  uright_of root hR home hh a b ha hb _ rfl _ w tabs fun W hW => verifyX_calls root _ hR (pOf_length _ _) x p1 p2 p3 n1 n2 n3 c1 c2 c3 P O Q W (D1.below hW) (D2.below hW) (D3.below hW) (tabs.below hW (Nat.le_refl _))
theorem rrightX_calls (hb : b.length = 32) (D1 : Digs w (.slice p1 n1 c1) P) (D2 : Digs w (.slice p2 n2 c2) O) (D3 : Digs w (.slice p3 n3 c3) Q) :
    Calls Tryd.prog 15 #[.pointer none, .agg (bc root), .agg (updc home a b #[.int .i64 x, .slice p1 n1 c1, .slice p2 n2 c2, .slice p3 n3 c3])] w fun e w' => e = .returned (.bool (pRight root home a b x n1 n2 n3 P O Q)) ∧ Below w.heap.size w w' :=
  rright_of root hR home hh a b ha hb _ rfl _ w fun W hW => rverifyX_calls root _ hR (pOf_length _ _) x p1 p2 p3 n1 n2 n3 c1 c2 c3 P O Q W (D1.below hW) (D2.below hW) (D3.below hW)
theorem haltsX_calls (D1 : Digs w (.slice p1 n1 c1) P) (D2 : Digs w (.slice p2 n2 c2) O) (D3 : Digs w (.slice p3 n3 c3) Q) (tabs : Tabs w) :
    Calls Tryd.prog 16 #[.pointer none, .agg (bc root), .agg (stopc home a y #[.int .i64 x, .slice p1 n1 c1, .slice p2 n2 c2, .slice p3 n3 c3])] w fun e w' => e = .returned (.bool (pHalts root home a y x n1 n2 n3 P O Q)) ∧ Below w.heap.size w w' :=
  uhalts_of root hR home hh a ha y _ rfl _ w tabs fun W hW => verifyX_calls root _ hR (pOf_length _ _) x p1 p2 p3 n1 n2 n3 c1 c2 c3 P O Q W (D1.below hW) (D2.below hW) (D3.below hW) (tabs.below hW (Nat.le_refl _))
theorem rhaltsX_calls (D1 : Digs w (.slice p1 n1 c1) P) (D2 : Digs w (.slice p2 n2 c2) O) (D3 : Digs w (.slice p3 n3 c3) Q) :
    Calls Tryd.prog 17 #[.pointer none, .agg (bc root), .agg (stopc home a y #[.int .i64 x, .slice p1 n1 c1, .slice p2 n2 c2, .slice p3 n3 c3])] w fun e w' => e = .returned (.bool (pHalts root home a y x n1 n2 n3 P O Q)) ∧ Below w.heap.size w w' :=
  rhalts_of root hR home hh a ha y _ rfl _ w fun W hW => rverifyX_calls root _ hR (pOf_length _ _) x p1 p2 p3 n1 n2 n3 c1 c2 c3 P O Q W (D1.below hW) (D2.below hW) (D3.below hW)
end
end Go.Proofs.YtlicadfbkjhihaaDoor

namespace Go.Proofs.YtlicadfbkjhihaaDoor
open Go Go.RowKit

theorem wpList_load_row_gd {P : Program} {ops : Array Oper} {rest : List Oper} {o : Oper} {a : Act} {w : World} {Q : Exit → Act → World → Prop} (hw : Region.wanted o (yielded ops a.tmps) = true) (ty : TypeId) (x : Operand) (ho : o.op = .load ty x)
    (g : Nat) (hx : a.eval x = .pointer (some ⟨g, 0, none⟩)) (t : TypeId) (cs : Array Value) (fr : Nat × Nat) (d : TypeDesc) (hg : w.heap[g]? = some (.cells cs t fr))
    (hu : P.underlying ty = some d) (hd : (match d with | .struct _ | .array _ _ => true | _ => false) = true) (hi : (P.info? ty).map (·.size) = some cs.size)
    (h : wpList P ops Q rest (a.put o.dst (.agg cs)) w) : wpList P ops Q (o :: rest) a w :=
  wpList_step fun K hK => by
    rw [if_pos hw]
    exact wp_load_row ty x ho g hx t cs fr d hg hu hd hi (hK _ _ h)
end Go.Proofs.YtlicadfbkjhihaaDoor

namespace Go.Proofs.YtlicadfbkjhihaaDoor
open Go Go.RowKit
set_option linter.unusedSimpArgs false
set_option linter.unusedVariables false

theorem wpList_eql_gv {P : Program} {ops : Array Oper} {rest : List Oper} {o : Oper} {a : Act} {w : World} {Q : Exit → Act → World → Prop} (hw : Region.wanted o (yielded ops a.tmps) = true) (t t' : TypeId) (x y : Operand) (ho : o.op = .binOp .eql t x y t')
    (u v : Array Value) (hx : a.eval x = .agg u) (hy : a.eval y = .agg v) (hgt : P.eqGuardType P.depth t = false) (b : Bool) (he : ∀ w, (binOp .eql t (.agg u) (.agg v)).run P w = .ok (.bool b) w)
    (h : wpList P ops Q rest (a.put o.dst (.bool b)) w) : wpList P ops Q (o :: rest) a w :=
  wpList_step fun K hK => by
    rw [if_pos hw]
    have hg : (eqGuard .eql t x y (.agg u) (.agg v)).run P w = .ok () w := run_eqGuard_agg w .eql t x y u v hgt
    unfold Oper.wp execOp
    simp only [ho, hx, hy, Sem.run_bind, hg, Result.andThen_ok, he]
    exact hK _ _ h
theorem wpList_neq_gv {P : Program} {ops : Array Oper} {rest : List Oper} {o : Oper} {a : Act} {w : World} {Q : Exit → Act → World → Prop} (hw : Region.wanted o (yielded ops a.tmps) = true) (t t' : TypeId) (x y : Operand) (ho : o.op = .binOp .neq t x y t')
    (u v : Array Value) (hx : a.eval x = .agg u) (hy : a.eval y = .agg v) (hgt : P.eqGuardType P.depth t = false) (b : Bool) (he : ∀ w, (binOp .neq t (.agg u) (.agg v)).run P w = .ok (.bool b) w)
    (h : wpList P ops Q rest (a.put o.dst (.bool b)) w) : wpList P ops Q (o :: rest) a w :=
  wpList_step fun K hK => by
    rw [if_pos hw]
    have hg : (eqGuard .neq t x y (.agg u) (.agg v)).run P w = .ok () w := run_eqGuard_agg w .neq t x y u v hgt
    unfold Oper.wp execOp
    simp only [ho, hx, hy, Sem.run_bind, hg, Result.andThen_ok, he]
    exact hK _ _ h
theorem dig_neqV (a b : List UInt8) (ha : a.length = 32) (hb : b.length = 32) (w : World) : (binOp .neq 23 (.agg (bc a)) (.agg (bc b))).run Tryd.prog w = .ok (.bool (!decide (a = b))) w := by
  have h := dig_eq a b ha hb w
  simp only [binOp, Op.equal] at h ⊢
  revert h
  simp only [Sem.run_bind]
  cases hh : (Op.equalIn Op.maxDepth 23 (.agg (bc a)) (.agg (bc b))).run Tryd.prog w with
  | ok v w1 =>
    intro h
    simp only [Result.andThen_ok, Sem.run_pure, Result.ok.injEq, Value.bool.injEq] at h ⊢
    obtain ⟨h1, h2⟩ := h
    exact ⟨by rw [h1], h2⟩
  | _ => intro h; simp [Result.andThen] at h
theorem dinfoV (d : List UInt8) (h : d.length = 32) : (Tryd.prog.info? 23).map (·.size) = some (Lib.byteCells d).length := by rw [Lib.byteCells_length, h]; kernel_rfl
/-- Whether two updates are double. -/
def pDbl (h1 h2 : Nat) (a1 a2 b1 b2 : List UInt8) (r1 r2 : Bool) : Bool := decide (h1 = h2) && decide (a1 = a2) && !decide (b1 = b2) && r1 && r2
set_option maxHeartbeats 2000000 in
set_option maxRecDepth 100000 in
theorem double_0 (root : List UInt8) (hR : root.length = 32) (h1 h2 : Nat) (a1 b1 a2 b2 : List UInt8) (la1 : a1.length = 32) (lb1 : b1.length = 32) (la2 : a2.length = 32) (lb2 : b2.length = 32) (cs ds : Array Value) (hc : cs.size = 4) (hd : ds.size = 4) (r1 r2 : Bool) (hh : h1 ≠ h2) (w : World)
    (kr1 : ∀ W, Below w.heap.size w W → Calls Tryd.prog 14 #[.pointer none, .agg (bc root), .agg (updc h1 a1 b1 cs)] W fun e w' => e = .returned (.bool r1) ∧ Below W.heap.size W w')
    (kr2 : ∀ W, Below w.heap.size w W → Calls Tryd.prog 14 #[.pointer none, .agg (bc root), .agg (updc h2 a2 b2 ds)] W fun e w' => e = .returned (.bool r2) ∧ Below W.heap.size W w') :
    Calls Tryd.prog 18 #[.pointer none, .agg (bc root), .agg (updc h1 a1 b1 cs), .agg (updc h2 a2 b2 ds)] w fun e w' => e = .returned (.bool false) ∧ Below w.heap.size w w' := by
  obtain ⟨q0, q1, q2⟩ := al3 w (.cells (bc root) 23) (.cells (updc h1 a1 b1 cs) 32) (.cells (updc h2 a2 b2 ds) 32)
  have b0 := bel3 w (.cells (bc root) 23) (.cells (updc h1 a1 b1 cs) 32) (.cells (updc h2 a2 b2 ds) 32)
  obtain ⟨X, hX⟩ : ∃ X, ((w.alloc (.cells (bc root) 23)).alloc (.cells (updc h1 a1 b1 cs) 32)).alloc (.cells (updc h2 a2 b2 ds) 32) = X := ⟨_, rfl⟩
  rw [hX] at q0 q1 q2 b0
  have HX := hide hX
  have m1 : X.cell? ⟨w.heap.size + 1, 0, none⟩ = some (.int .u32 (h1 : Int)) := by rw [cell_of_row _ _ _ _ _ _ q1]; exact updc_home h1 a1 b1 cs
  have m2 : X.cell? ⟨w.heap.size + 1 + 1, 0, none⟩ = some (.int .u32 (h2 : Int)) := by rw [cell_of_row _ _ _ _ _ _ q2]; exact updc_home h2 a2 b2 ds
  have e0 : (((h1 : Nat) : Int) == ((h2 : Nat) : Int)) = false := by simp; omega
  generalize updc h1 a1 b1 cs = U1 at *
  generalize updc h2 a2 b2 ds = U2 at *
  clear hX q0 q1 q2 hc hd kr1 kr2 la1 lb1 la2 lb2 hR hh
  go_enter Tryd.func18, Tryd.ntmps18
  go_wp2_with (first
    | go_skip
    | (rw [unhide HX]))
  go_ret
  exact ⟨rfl, b0⟩
set_option maxHeartbeats 2000000 in
set_option maxRecDepth 100000 in
theorem double_1 (root : List UInt8) (hR : root.length = 32) (h1 h2 : Nat) (a1 b1 a2 b2 : List UInt8) (la1 : a1.length = 32) (lb1 : b1.length = 32) (la2 : a2.length = 32) (lb2 : b2.length = 32) (cs ds : Array Value) (hc : cs.size = 4) (hd : ds.size = 4) (r1 r2 : Bool) (hh : h1 = h2) (ha : a1 ≠ a2) (w : World)
    (kr1 : ∀ W, Below w.heap.size w W → Calls Tryd.prog 14 #[.pointer none, .agg (bc root), .agg (updc h1 a1 b1 cs)] W fun e w' => e = .returned (.bool r1) ∧ Below W.heap.size W w')
    (kr2 : ∀ W, Below w.heap.size w W → Calls Tryd.prog 14 #[.pointer none, .agg (bc root), .agg (updc h2 a2 b2 ds)] W fun e w' => e = .returned (.bool r2) ∧ Below W.heap.size W w') :
    Calls Tryd.prog 18 #[.pointer none, .agg (bc root), .agg (updc h1 a1 b1 cs), .agg (updc h2 a2 b2 ds)] w fun e w' => e = .returned (.bool false) ∧ Below w.heap.size w w' := by
  obtain ⟨q0, q1, q2⟩ := al3 w (.cells (bc root) 23) (.cells (updc h1 a1 b1 cs) 32) (.cells (updc h2 a2 b2 ds) 32)
  have b0 := bel3 w (.cells (bc root) 23) (.cells (updc h1 a1 b1 cs) 32) (.cells (updc h2 a2 b2 ds) 32)
  obtain ⟨X, hX⟩ : ∃ X, ((w.alloc (.cells (bc root) 23)).alloc (.cells (updc h1 a1 b1 cs) 32)).alloc (.cells (updc h2 a2 b2 ds) 32) = X := ⟨_, rfl⟩
  rw [hX] at q0 q1 q2 b0
  have HX := hide hX
  have m1 : X.cell? ⟨w.heap.size + 1, 0, none⟩ = some (.int .u32 (h1 : Int)) := by rw [cell_of_row _ _ _ _ _ _ q1]; exact updc_home h1 a1 b1 cs
  have m2 : X.cell? ⟨w.heap.size + 1 + 1, 0, none⟩ = some (.int .u32 (h2 : Int)) := by rw [cell_of_row _ _ _ _ _ _ q2]; exact updc_home h2 a2 b2 ds
  have ra1 := hide (updc_old h1 a1 b1 la1 lb1 cs X _ _ q1)
  have ra2 := hide (updc_old h2 a2 b2 la2 lb2 ds X _ _ q2)
  have eqa := hide (fun W => dig_eq a1 a2 la1 la2 W)
  have nqa := hide (fun W => dig_neqV a1 a2 la1 la2 W)
  have ia1 := dinfoV a1 la1
  have ia2 := dinfoV a2 la2
  have e0 : (((h1 : Nat) : Int) == ((h2 : Nat) : Int)) = true := by simp; omega
  rw [decide_eq_false ha] at eqa nqa
  simp only [Bool.not_true, Bool.not_false] at nqa
  generalize updc h1 a1 b1 cs = U1 at *
  generalize updc h2 a2 b2 ds = U2 at *
  clear hX q0 q1 q2 hc hd kr1 kr2 la1 lb1 la2 lb2 hR hh ha
  go_enter Tryd.func18, Tryd.ntmps18
  go_wp2_with (first
    | go_skip
    | (rw [unhide HX])
    | (refine wpList_load_mid_gv rfl 23 (.tmp 15) rfl (w.heap.size + 1) 1 rfl (Lib.byteCells a1) _ (unhide ra1) Tryd.underlying23 rfl ia1 ?_)
    | (refine wpList_load_mid_gv rfl 23 (.tmp 17) rfl (w.heap.size + 1 + 1) 1 rfl (Lib.byteCells a2) _ (unhide ra2) Tryd.underlying23 rfl ia2 ?_)
    | (refine wpList_eql_gv rfl 23 23 (.tmp 16) (.tmp 18) rfl _ _ rfl rfl (by kernel_rfl) false (unhide eqa) ?_))
  go_ret
  exact ⟨rfl, b0⟩
set_option maxHeartbeats 2000000 in
set_option maxRecDepth 100000 in
theorem double_2 (root : List UInt8) (hR : root.length = 32) (h1 h2 : Nat) (a1 b1 a2 b2 : List UInt8) (la1 : a1.length = 32) (lb1 : b1.length = 32) (la2 : a2.length = 32) (lb2 : b2.length = 32) (cs ds : Array Value) (hc : cs.size = 4) (hd : ds.size = 4) (r1 r2 : Bool) (hh : h1 = h2) (ha : a1 = a2) (hb : b1 = b2) (w : World)
    (kr1 : ∀ W, Below w.heap.size w W → Calls Tryd.prog 14 #[.pointer none, .agg (bc root), .agg (updc h1 a1 b1 cs)] W fun e w' => e = .returned (.bool r1) ∧ Below W.heap.size W w')
    (kr2 : ∀ W, Below w.heap.size w W → Calls Tryd.prog 14 #[.pointer none, .agg (bc root), .agg (updc h2 a2 b2 ds)] W fun e w' => e = .returned (.bool r2) ∧ Below W.heap.size W w') :
    Calls Tryd.prog 18 #[.pointer none, .agg (bc root), .agg (updc h1 a1 b1 cs), .agg (updc h2 a2 b2 ds)] w fun e w' => e = .returned (.bool false) ∧ Below w.heap.size w w' := by
  obtain ⟨q0, q1, q2⟩ := al3 w (.cells (bc root) 23) (.cells (updc h1 a1 b1 cs) 32) (.cells (updc h2 a2 b2 ds) 32)
  have b0 := bel3 w (.cells (bc root) 23) (.cells (updc h1 a1 b1 cs) 32) (.cells (updc h2 a2 b2 ds) 32)
  obtain ⟨X, hX⟩ : ∃ X, ((w.alloc (.cells (bc root) 23)).alloc (.cells (updc h1 a1 b1 cs) 32)).alloc (.cells (updc h2 a2 b2 ds) 32) = X := ⟨_, rfl⟩
  rw [hX] at q0 q1 q2 b0
  have HX := hide hX
  have m1 : X.cell? ⟨w.heap.size + 1, 0, none⟩ = some (.int .u32 (h1 : Int)) := by rw [cell_of_row _ _ _ _ _ _ q1]; exact updc_home h1 a1 b1 cs
  have m2 : X.cell? ⟨w.heap.size + 1 + 1, 0, none⟩ = some (.int .u32 (h2 : Int)) := by rw [cell_of_row _ _ _ _ _ _ q2]; exact updc_home h2 a2 b2 ds
  have ra1 := hide (updc_old h1 a1 b1 la1 lb1 cs X _ _ q1)
  have ra2 := hide (updc_old h2 a2 b2 la2 lb2 ds X _ _ q2)
  have eqa := hide (fun W => dig_eq a1 a2 la1 la2 W)
  have nqa := hide (fun W => dig_neqV a1 a2 la1 la2 W)
  have ia1 := dinfoV a1 la1
  have ia2 := dinfoV a2 la2
  have rb1 := hide (updc_new h1 a1 b1 la1 lb1 cs X _ _ q1)
  have rb2 := hide (updc_new h2 a2 b2 la2 lb2 ds X _ _ q2)
  have eqb := hide (fun W => dig_eq b1 b2 lb1 lb2 W)
  have nqb := hide (fun W => dig_neqV b1 b2 lb1 lb2 W)
  have ib1 := dinfoV b1 lb1
  have ib2 := dinfoV b2 lb2
  have e0 : (((h1 : Nat) : Int) == ((h2 : Nat) : Int)) = true := by simp; omega
  rw [decide_eq_true ha] at eqa nqa
  simp only [Bool.not_true, Bool.not_false] at nqa
  rw [decide_eq_true hb] at eqb nqb
  simp only [Bool.not_true, Bool.not_false] at nqb
  generalize updc h1 a1 b1 cs = U1 at *
  generalize updc h2 a2 b2 ds = U2 at *
  clear hX q0 q1 q2 hc hd kr1 kr2 la1 lb1 la2 lb2 hR hh ha hb
  go_enter Tryd.func18, Tryd.ntmps18
  go_wp2_with (first
    | go_skip
    | (rw [unhide HX])
    | (refine wpList_load_mid_gv rfl 23 (.tmp 15) rfl (w.heap.size + 1) 1 rfl (Lib.byteCells a1) _ (unhide ra1) Tryd.underlying23 rfl ia1 ?_)
    | (refine wpList_load_mid_gv rfl 23 (.tmp 17) rfl (w.heap.size + 1 + 1) 1 rfl (Lib.byteCells a2) _ (unhide ra2) Tryd.underlying23 rfl ia2 ?_)
    | (refine wpList_eql_gv rfl 23 23 (.tmp 16) (.tmp 18) rfl _ _ rfl rfl (by kernel_rfl) true (unhide eqa) ?_)
    | (refine wpList_load_mid_gv rfl 23 (.tmp 22) rfl (w.heap.size + 1) 33 rfl (Lib.byteCells b1) _ (unhide rb1) Tryd.underlying23 rfl ib1 ?_)
    | (refine wpList_load_mid_gv rfl 23 (.tmp 24) rfl (w.heap.size + 1 + 1) 33 rfl (Lib.byteCells b2) _ (unhide rb2) Tryd.underlying23 rfl ib2 ?_)
    | (refine wpList_neq_gv rfl 23 23 (.tmp 23) (.tmp 25) rfl _ _ rfl rfl (by kernel_rfl) false (unhide nqb) ?_))
  go_ret
  exact ⟨rfl, b0⟩
set_option maxHeartbeats 2000000 in
set_option maxRecDepth 100000 in
theorem double_3 (root : List UInt8) (hR : root.length = 32) (h1 h2 : Nat) (a1 b1 a2 b2 : List UInt8) (la1 : a1.length = 32) (lb1 : b1.length = 32) (la2 : a2.length = 32) (lb2 : b2.length = 32) (cs ds : Array Value) (hc : cs.size = 4) (hd : ds.size = 4) (r1 r2 : Bool) (hh : h1 = h2) (ha : a1 = a2) (hb : b1 ≠ b2) (hr : r1 = false) (w : World)
    (kr1 : ∀ W, Below w.heap.size w W → Calls Tryd.prog 14 #[.pointer none, .agg (bc root), .agg (updc h1 a1 b1 cs)] W fun e w' => e = .returned (.bool r1) ∧ Below W.heap.size W w')
    (kr2 : ∀ W, Below w.heap.size w W → Calls Tryd.prog 14 #[.pointer none, .agg (bc root), .agg (updc h2 a2 b2 ds)] W fun e w' => e = .returned (.bool r2) ∧ Below W.heap.size W w') :
    Calls Tryd.prog 18 #[.pointer none, .agg (bc root), .agg (updc h1 a1 b1 cs), .agg (updc h2 a2 b2 ds)] w fun e w' => e = .returned (.bool false) ∧ Below w.heap.size w w' := by
  obtain ⟨q0, q1, q2⟩ := al3 w (.cells (bc root) 23) (.cells (updc h1 a1 b1 cs) 32) (.cells (updc h2 a2 b2 ds) 32)
  have b0 := bel3 w (.cells (bc root) 23) (.cells (updc h1 a1 b1 cs) 32) (.cells (updc h2 a2 b2 ds) 32)
  obtain ⟨X, hX⟩ : ∃ X, ((w.alloc (.cells (bc root) 23)).alloc (.cells (updc h1 a1 b1 cs) 32)).alloc (.cells (updc h2 a2 b2 ds) 32) = X := ⟨_, rfl⟩
  rw [hX] at q0 q1 q2 b0
  have HX := hide hX
  have m1 : X.cell? ⟨w.heap.size + 1, 0, none⟩ = some (.int .u32 (h1 : Int)) := by rw [cell_of_row _ _ _ _ _ _ q1]; exact updc_home h1 a1 b1 cs
  have m2 : X.cell? ⟨w.heap.size + 1 + 1, 0, none⟩ = some (.int .u32 (h2 : Int)) := by rw [cell_of_row _ _ _ _ _ _ q2]; exact updc_home h2 a2 b2 ds
  have ra1 := hide (updc_old h1 a1 b1 la1 lb1 cs X _ _ q1)
  have ra2 := hide (updc_old h2 a2 b2 la2 lb2 ds X _ _ q2)
  have eqa := hide (fun W => dig_eq a1 a2 la1 la2 W)
  have nqa := hide (fun W => dig_neqV a1 a2 la1 la2 W)
  have ia1 := dinfoV a1 la1
  have ia2 := dinfoV a2 la2
  have rb1 := hide (updc_new h1 a1 b1 la1 lb1 cs X _ _ q1)
  have rb2 := hide (updc_new h2 a2 b2 la2 lb2 ds X _ _ q2)
  have eqb := hide (fun W => dig_eq b1 b2 lb1 lb2 W)
  have nqb := hide (fun W => dig_neqV b1 b2 lb1 lb2 W)
  have ib1 := dinfoV b1 lb1
  have ib2 := dinfoV b2 lb2
  have K1 := hide (kr1 X b0)
  have K2 := hide kr2
  have iR := digInfo root hR
  have iu1 := upd_info _ (updc_size h1 a1 b1 la1 lb1 cs hc)
  have iu2 := upd_info _ (updc_size h2 a2 b2 la2 lb2 ds hd)
  have Q0 := hide q0
  have Q1 := hide q1
  have Q2 := hide q2
  have e0 : (((h1 : Nat) : Int) == ((h2 : Nat) : Int)) = true := by simp; omega
  rw [decide_eq_true ha] at eqa nqa
  simp only [Bool.not_true, Bool.not_false] at nqa
  rw [decide_eq_false hb] at eqb nqb
  simp only [Bool.not_true, Bool.not_false] at nqb
  generalize updc h1 a1 b1 cs = U1 at *
  generalize updc h2 a2 b2 ds = U2 at *
  subst hr
  clear hX q0 q1 q2 hc hd kr1 kr2 la1 lb1 la2 lb2 hR hh ha hb
  go_enter Tryd.func18, Tryd.ntmps18
  go_wp2_with (first
    | go_skip
    | (rw [unhide HX])
    | (refine wpList_load_mid_gv rfl 23 (.tmp 15) rfl (w.heap.size + 1) 1 rfl (Lib.byteCells a1) _ (unhide ra1) Tryd.underlying23 rfl ia1 ?_)
    | (refine wpList_load_mid_gv rfl 23 (.tmp 17) rfl (w.heap.size + 1 + 1) 1 rfl (Lib.byteCells a2) _ (unhide ra2) Tryd.underlying23 rfl ia2 ?_)
    | (refine wpList_eql_gv rfl 23 23 (.tmp 16) (.tmp 18) rfl _ _ rfl rfl (by kernel_rfl) true (unhide eqa) ?_)
    | (refine wpList_load_mid_gv rfl 23 (.tmp 22) rfl (w.heap.size + 1) 33 rfl (Lib.byteCells b1) _ (unhide rb1) Tryd.underlying23 rfl ib1 ?_)
    | (refine wpList_load_mid_gv rfl 23 (.tmp 24) rfl (w.heap.size + 1 + 1) 33 rfl (Lib.byteCells b2) _ (unhide rb2) Tryd.underlying23 rfl ib2 ?_)
    | (refine wpList_neq_gv rfl 23 23 (.tmp 23) (.tmp 25) rfl _ _ rfl rfl (by kernel_rfl) true (unhide nqb) ?_)
    | (refine wpList_load_row_gd rfl 23 (.tmp 5) rfl (w.heap.size) rfl 23 _ (0, 0) _ (unhide Q0) Tryd.underlying23 rfl iR ?_)
    | (refine wpList_load_row_gd rfl 32 (.tmp 6) rfl (w.heap.size + 1) rfl 32 _ (0, 0) _ (unhide Q1) Tryd.underlying32 rfl iu1 ?_))
  refine (unhide K1).mono ?_
  rintro e w1 ⟨rfl, d1⟩
  have bb1 := b0.trans (d1.mono b0.size)
  clear d1
  go_wp2_with go_skip
  go_ret
  exact ⟨rfl, bb1⟩
set_option maxHeartbeats 2000000 in
set_option maxRecDepth 100000 in
theorem double_4 (root : List UInt8) (hR : root.length = 32) (h1 h2 : Nat) (a1 b1 a2 b2 : List UInt8) (la1 : a1.length = 32) (lb1 : b1.length = 32) (la2 : a2.length = 32) (lb2 : b2.length = 32) (cs ds : Array Value) (hc : cs.size = 4) (hd : ds.size = 4) (r1 r2 : Bool) (hh : h1 = h2) (ha : a1 = a2) (hb : b1 ≠ b2) (hr : r1 = true) (w : World)
    (kr1 : ∀ W, Below w.heap.size w W → Calls Tryd.prog 14 #[.pointer none, .agg (bc root), .agg (updc h1 a1 b1 cs)] W fun e w' => e = .returned (.bool r1) ∧ Below W.heap.size W w')
    (kr2 : ∀ W, Below w.heap.size w W → Calls Tryd.prog 14 #[.pointer none, .agg (bc root), .agg (updc h2 a2 b2 ds)] W fun e w' => e = .returned (.bool r2) ∧ Below W.heap.size W w') :
    Calls Tryd.prog 18 #[.pointer none, .agg (bc root), .agg (updc h1 a1 b1 cs), .agg (updc h2 a2 b2 ds)] w fun e w' => e = .returned (.bool r2) ∧ Below w.heap.size w w' := by
  obtain ⟨q0, q1, q2⟩ := al3 w (.cells (bc root) 23) (.cells (updc h1 a1 b1 cs) 32) (.cells (updc h2 a2 b2 ds) 32)
  have b0 := bel3 w (.cells (bc root) 23) (.cells (updc h1 a1 b1 cs) 32) (.cells (updc h2 a2 b2 ds) 32)
  obtain ⟨X, hX⟩ : ∃ X, ((w.alloc (.cells (bc root) 23)).alloc (.cells (updc h1 a1 b1 cs) 32)).alloc (.cells (updc h2 a2 b2 ds) 32) = X := ⟨_, rfl⟩
  rw [hX] at q0 q1 q2 b0
  have HX := hide hX
  have m1 : X.cell? ⟨w.heap.size + 1, 0, none⟩ = some (.int .u32 (h1 : Int)) := by rw [cell_of_row _ _ _ _ _ _ q1]; exact updc_home h1 a1 b1 cs
  have m2 : X.cell? ⟨w.heap.size + 1 + 1, 0, none⟩ = some (.int .u32 (h2 : Int)) := by rw [cell_of_row _ _ _ _ _ _ q2]; exact updc_home h2 a2 b2 ds
  have ra1 := hide (updc_old h1 a1 b1 la1 lb1 cs X _ _ q1)
  have ra2 := hide (updc_old h2 a2 b2 la2 lb2 ds X _ _ q2)
  have eqa := hide (fun W => dig_eq a1 a2 la1 la2 W)
  have nqa := hide (fun W => dig_neqV a1 a2 la1 la2 W)
  have ia1 := dinfoV a1 la1
  have ia2 := dinfoV a2 la2
  have rb1 := hide (updc_new h1 a1 b1 la1 lb1 cs X _ _ q1)
  have rb2 := hide (updc_new h2 a2 b2 la2 lb2 ds X _ _ q2)
  have eqb := hide (fun W => dig_eq b1 b2 lb1 lb2 W)
  have nqb := hide (fun W => dig_neqV b1 b2 lb1 lb2 W)
  have ib1 := dinfoV b1 lb1
  have ib2 := dinfoV b2 lb2
  have K1 := hide (kr1 X b0)
  have K2 := hide kr2
  have iR := digInfo root hR
  have iu1 := upd_info _ (updc_size h1 a1 b1 la1 lb1 cs hc)
  have iu2 := upd_info _ (updc_size h2 a2 b2 la2 lb2 ds hd)
  have Q0 := hide q0
  have Q1 := hide q1
  have Q2 := hide q2
  have e0 : (((h1 : Nat) : Int) == ((h2 : Nat) : Int)) = true := by simp; omega
  rw [decide_eq_true ha] at eqa nqa
  simp only [Bool.not_true, Bool.not_false] at nqa
  rw [decide_eq_false hb] at eqb nqb
  simp only [Bool.not_true, Bool.not_false] at nqb
  generalize updc h1 a1 b1 cs = U1 at *
  generalize updc h2 a2 b2 ds = U2 at *
  subst hr
  clear hX q0 q1 q2 hc hd kr1 kr2 la1 lb1 la2 lb2 hR hh ha hb
  go_enter Tryd.func18, Tryd.ntmps18
  go_wp2_with (first
    | go_skip
    | (rw [unhide HX])
    | (refine wpList_load_mid_gv rfl 23 (.tmp 15) rfl (w.heap.size + 1) 1 rfl (Lib.byteCells a1) _ (unhide ra1) Tryd.underlying23 rfl ia1 ?_)
    | (refine wpList_load_mid_gv rfl 23 (.tmp 17) rfl (w.heap.size + 1 + 1) 1 rfl (Lib.byteCells a2) _ (unhide ra2) Tryd.underlying23 rfl ia2 ?_)
    | (refine wpList_eql_gv rfl 23 23 (.tmp 16) (.tmp 18) rfl _ _ rfl rfl (by kernel_rfl) true (unhide eqa) ?_)
    | (refine wpList_load_mid_gv rfl 23 (.tmp 22) rfl (w.heap.size + 1) 33 rfl (Lib.byteCells b1) _ (unhide rb1) Tryd.underlying23 rfl ib1 ?_)
    | (refine wpList_load_mid_gv rfl 23 (.tmp 24) rfl (w.heap.size + 1 + 1) 33 rfl (Lib.byteCells b2) _ (unhide rb2) Tryd.underlying23 rfl ib2 ?_)
    | (refine wpList_neq_gv rfl 23 23 (.tmp 23) (.tmp 25) rfl _ _ rfl rfl (by kernel_rfl) true (unhide nqb) ?_)
    | (refine wpList_load_row_gd rfl 23 (.tmp 5) rfl (w.heap.size) rfl 23 _ (0, 0) _ (unhide Q0) Tryd.underlying23 rfl iR ?_)
    | (refine wpList_load_row_gd rfl 32 (.tmp 6) rfl (w.heap.size + 1) rfl 32 _ (0, 0) _ (unhide Q1) Tryd.underlying32 rfl iu1 ?_))
  refine (unhide K1).mono ?_
  rintro e w1 ⟨rfl, d1⟩
  have bb1 := b0.trans (d1.mono b0.size)
  have p0 := Below.at d1 (Array.getElem?_eq_some_iff.1 (unhide Q0)).1 (unhide Q0)
  have p2 := Below.at d1 (Array.getElem?_eq_some_iff.1 (unhide Q2)).1 (unhide Q2)
  clear d1
  go_wp2_with (first
    | go_skip
    | (refine wpList_load_row_gd rfl 23 (.tmp 5) rfl w.heap.size rfl 23 _ (0, 0) _ p0 Tryd.underlying23 rfl iR ?_)
    | (refine wpList_load_row_gd rfl 32 (.tmp 7) rfl (w.heap.size + 1 + 1) rfl 32 _ (0, 0) _ p2 Tryd.underlying32 rfl iu2 ?_))
  refine (unhide K2 _ bb1).mono ?_
  rintro e w2 ⟨rfl, d2⟩
  have bb2 := bb1.trans (d2.mono bb1.size)
  go_wp2_with go_skip
  go_ret
  exact ⟨rfl, bb2⟩
theorem double_calls (root : List UInt8) (hR : root.length = 32) (h1 h2 : Nat) (a1 b1 a2 b2 : List UInt8) (la1 : a1.length = 32) (lb1 : b1.length = 32) (la2 : a2.length = 32) (lb2 : b2.length = 32) (cs ds : Array Value) (hc : cs.size = 4) (hd : ds.size = 4) (r1 r2 : Bool) (w : World)
    (kr1 : ∀ W, Below w.heap.size w W → Calls Tryd.prog 14 #[.pointer none, .agg (bc root), .agg (updc h1 a1 b1 cs)] W fun e w' => e = .returned (.bool r1) ∧ Below W.heap.size W w')
    (kr2 : ∀ W, Below w.heap.size w W → Calls Tryd.prog 14 #[.pointer none, .agg (bc root), .agg (updc h2 a2 b2 ds)] W fun e w' => e = .returned (.bool r2) ∧ Below W.heap.size W w') :
    Calls Tryd.prog 18 #[.pointer none, .agg (bc root), .agg (updc h1 a1 b1 cs), .agg (updc h2 a2 b2 ds)] w fun e w' => e = .returned (.bool (pDbl h1 h2 a1 a2 b1 b2 r1 r2)) ∧ Below w.heap.size w w' := by
  unfold pDbl
  by_cases hh : h1 = h2
  · by_cases ha : a1 = a2
    · by_cases hb : b1 = b2
      · rw [decide_eq_true hb, Bool.not_true, Bool.and_false, Bool.false_and, Bool.false_and]
        exact double_2 root hR h1 h2 a1 b1 a2 b2 la1 lb1 la2 lb2 cs ds hc hd r1 r2 hh ha hb w kr1 kr2
      · rw [decide_eq_true hh, decide_eq_true ha, decide_eq_false hb]
        cases hr : r1 with
        | false => exact double_3 root hR h1 h2 a1 b1 a2 b2 la1 lb1 la2 lb2 cs ds hc hd false r2 hh ha hb rfl w (by rw [← hr]; exact kr1) kr2
        | true => exact double_4 root hR h1 h2 a1 b1 a2 b2 la1 lb1 la2 lb2 cs ds hc hd true r2 hh ha hb rfl w (by rw [← hr]; exact kr1) kr2
    · rw [decide_eq_false ha, Bool.and_false, Bool.false_and, Bool.false_and, Bool.false_and]
      exact double_1 root hR h1 h2 a1 b1 a2 b2 la1 lb1 la2 lb2 cs ds hc hd r1 r2 hh ha w kr1 kr2
  · rw [decide_eq_false hh, Bool.false_and, Bool.false_and, Bool.false_and, Bool.false_and]
    exact double_0 root hR h1 h2 a1 b1 a2 b2 la1 lb1 la2 lb2 cs ds hc hd r1 r2 hh w kr1 kr2
end Go.Proofs.YtlicadfbkjhihaaDoor

namespace Go.Proofs.YtlicadfbkjhihaaDoor
open Go Go.RowKit
set_option linter.unusedSimpArgs false
set_option linter.unusedVariables false

set_option maxHeartbeats 2000000 in
set_option maxRecDepth 100000 in
theorem rdouble_0 (root : List UInt8) (hR : root.length = 32) (h1 h2 : Nat) (a1 b1 a2 b2 : List UInt8) (la1 : a1.length = 32) (lb1 : b1.length = 32) (la2 : a2.length = 32) (lb2 : b2.length = 32) (cs ds : Array Value) (hc : cs.size = 4) (hd : ds.size = 4) (r1 r2 : Bool) (hh : h1 ≠ h2) (w : World)
    (kr1 : ∀ W, Below w.heap.size w W → Calls Tryd.prog 15 #[.pointer none, .agg (bc root), .agg (updc h1 a1 b1 cs)] W fun e w' => e = .returned (.bool r1) ∧ Below W.heap.size W w')
    (kr2 : ∀ W, Below w.heap.size w W → Calls Tryd.prog 15 #[.pointer none, .agg (bc root), .agg (updc h2 a2 b2 ds)] W fun e w' => e = .returned (.bool r2) ∧ Below W.heap.size W w') :
    Calls Tryd.prog 19 #[.pointer none, .agg (bc root), .agg (updc h1 a1 b1 cs), .agg (updc h2 a2 b2 ds)] w fun e w' => e = .returned (.bool false) ∧ Below w.heap.size w w' := by
  obtain ⟨q0, q1, q2⟩ := al3 w (.cells (bc root) 23) (.cells (updc h1 a1 b1 cs) 32) (.cells (updc h2 a2 b2 ds) 32)
  have b0 := bel3 w (.cells (bc root) 23) (.cells (updc h1 a1 b1 cs) 32) (.cells (updc h2 a2 b2 ds) 32)
  obtain ⟨X, hX⟩ : ∃ X, ((w.alloc (.cells (bc root) 23)).alloc (.cells (updc h1 a1 b1 cs) 32)).alloc (.cells (updc h2 a2 b2 ds) 32) = X := ⟨_, rfl⟩
  rw [hX] at q0 q1 q2 b0
  have HX := hide hX
  have m1 : X.cell? ⟨w.heap.size + 1, 0, none⟩ = some (.int .u32 (h1 : Int)) := by rw [cell_of_row _ _ _ _ _ _ q1]; exact updc_home h1 a1 b1 cs
  have m2 : X.cell? ⟨w.heap.size + 1 + 1, 0, none⟩ = some (.int .u32 (h2 : Int)) := by rw [cell_of_row _ _ _ _ _ _ q2]; exact updc_home h2 a2 b2 ds
  have e0 : (((h1 : Nat) : Int) != ((h2 : Nat) : Int)) = true := by simp; omega
  generalize updc h1 a1 b1 cs = U1 at *
  generalize updc h2 a2 b2 ds = U2 at *
  clear hX q0 q1 q2 hc hd kr1 kr2 la1 lb1 la2 lb2 hR hh
  go_enter Tryd.func19, Tryd.ntmps19
  go_wp2_with (first
    | go_skip
    | (rw [unhide HX]))
  go_ret
  exact ⟨rfl, b0⟩
set_option maxHeartbeats 2000000 in
set_option maxRecDepth 100000 in
theorem rdouble_1 (root : List UInt8) (hR : root.length = 32) (h1 h2 : Nat) (a1 b1 a2 b2 : List UInt8) (la1 : a1.length = 32) (lb1 : b1.length = 32) (la2 : a2.length = 32) (lb2 : b2.length = 32) (cs ds : Array Value) (hc : cs.size = 4) (hd : ds.size = 4) (r1 r2 : Bool) (hh : h1 = h2) (ha : a1 ≠ a2) (w : World)
    (kr1 : ∀ W, Below w.heap.size w W → Calls Tryd.prog 15 #[.pointer none, .agg (bc root), .agg (updc h1 a1 b1 cs)] W fun e w' => e = .returned (.bool r1) ∧ Below W.heap.size W w')
    (kr2 : ∀ W, Below w.heap.size w W → Calls Tryd.prog 15 #[.pointer none, .agg (bc root), .agg (updc h2 a2 b2 ds)] W fun e w' => e = .returned (.bool r2) ∧ Below W.heap.size W w') :
    Calls Tryd.prog 19 #[.pointer none, .agg (bc root), .agg (updc h1 a1 b1 cs), .agg (updc h2 a2 b2 ds)] w fun e w' => e = .returned (.bool false) ∧ Below w.heap.size w w' := by
  obtain ⟨q0, q1, q2⟩ := al3 w (.cells (bc root) 23) (.cells (updc h1 a1 b1 cs) 32) (.cells (updc h2 a2 b2 ds) 32)
  have b0 := bel3 w (.cells (bc root) 23) (.cells (updc h1 a1 b1 cs) 32) (.cells (updc h2 a2 b2 ds) 32)
  obtain ⟨X, hX⟩ : ∃ X, ((w.alloc (.cells (bc root) 23)).alloc (.cells (updc h1 a1 b1 cs) 32)).alloc (.cells (updc h2 a2 b2 ds) 32) = X := ⟨_, rfl⟩
  rw [hX] at q0 q1 q2 b0
  have HX := hide hX
  have m1 : X.cell? ⟨w.heap.size + 1, 0, none⟩ = some (.int .u32 (h1 : Int)) := by rw [cell_of_row _ _ _ _ _ _ q1]; exact updc_home h1 a1 b1 cs
  have m2 : X.cell? ⟨w.heap.size + 1 + 1, 0, none⟩ = some (.int .u32 (h2 : Int)) := by rw [cell_of_row _ _ _ _ _ _ q2]; exact updc_home h2 a2 b2 ds
  have ra1 := hide (updc_old h1 a1 b1 la1 lb1 cs X _ _ q1)
  have ra2 := hide (updc_old h2 a2 b2 la2 lb2 ds X _ _ q2)
  have eqa := hide (fun W => dig_eq a1 a2 la1 la2 W)
  have nqa := hide (fun W => dig_neqV a1 a2 la1 la2 W)
  have ia1 := dinfoV a1 la1
  have ia2 := dinfoV a2 la2
  have e0 : (((h1 : Nat) : Int) != ((h2 : Nat) : Int)) = false := by simp; omega
  rw [decide_eq_false ha] at eqa nqa
  simp only [Bool.not_true, Bool.not_false] at nqa
  generalize updc h1 a1 b1 cs = U1 at *
  generalize updc h2 a2 b2 ds = U2 at *
  clear hX q0 q1 q2 hc hd kr1 kr2 la1 lb1 la2 lb2 hR hh ha
  go_enter Tryd.func19, Tryd.ntmps19
  go_wp2_with (first
    | go_skip
    | (rw [unhide HX])
    | (refine wpList_load_mid_gv rfl 23 (.tmp 15) rfl (w.heap.size + 1) 1 rfl (Lib.byteCells a1) _ (unhide ra1) Tryd.underlying23 rfl ia1 ?_)
    | (refine wpList_load_mid_gv rfl 23 (.tmp 17) rfl (w.heap.size + 1 + 1) 1 rfl (Lib.byteCells a2) _ (unhide ra2) Tryd.underlying23 rfl ia2 ?_)
    | (refine wpList_neq_gv rfl 23 23 (.tmp 16) (.tmp 18) rfl _ _ rfl rfl (by kernel_rfl) true (unhide nqa) ?_))
  go_ret
  exact ⟨rfl, b0⟩
set_option maxHeartbeats 2000000 in
set_option maxRecDepth 100000 in
theorem rdouble_2 (root : List UInt8) (hR : root.length = 32) (h1 h2 : Nat) (a1 b1 a2 b2 : List UInt8) (la1 : a1.length = 32) (lb1 : b1.length = 32) (la2 : a2.length = 32) (lb2 : b2.length = 32) (cs ds : Array Value) (hc : cs.size = 4) (hd : ds.size = 4) (r1 r2 : Bool) (hh : h1 = h2) (ha : a1 = a2) (hb : b1 = b2) (w : World)
    (kr1 : ∀ W, Below w.heap.size w W → Calls Tryd.prog 15 #[.pointer none, .agg (bc root), .agg (updc h1 a1 b1 cs)] W fun e w' => e = .returned (.bool r1) ∧ Below W.heap.size W w')
    (kr2 : ∀ W, Below w.heap.size w W → Calls Tryd.prog 15 #[.pointer none, .agg (bc root), .agg (updc h2 a2 b2 ds)] W fun e w' => e = .returned (.bool r2) ∧ Below W.heap.size W w') :
    Calls Tryd.prog 19 #[.pointer none, .agg (bc root), .agg (updc h1 a1 b1 cs), .agg (updc h2 a2 b2 ds)] w fun e w' => e = .returned (.bool false) ∧ Below w.heap.size w w' := by
  obtain ⟨q0, q1, q2⟩ := al3 w (.cells (bc root) 23) (.cells (updc h1 a1 b1 cs) 32) (.cells (updc h2 a2 b2 ds) 32)
  have b0 := bel3 w (.cells (bc root) 23) (.cells (updc h1 a1 b1 cs) 32) (.cells (updc h2 a2 b2 ds) 32)
  obtain ⟨X, hX⟩ : ∃ X, ((w.alloc (.cells (bc root) 23)).alloc (.cells (updc h1 a1 b1 cs) 32)).alloc (.cells (updc h2 a2 b2 ds) 32) = X := ⟨_, rfl⟩
  rw [hX] at q0 q1 q2 b0
  have HX := hide hX
  have m1 : X.cell? ⟨w.heap.size + 1, 0, none⟩ = some (.int .u32 (h1 : Int)) := by rw [cell_of_row _ _ _ _ _ _ q1]; exact updc_home h1 a1 b1 cs
  have m2 : X.cell? ⟨w.heap.size + 1 + 1, 0, none⟩ = some (.int .u32 (h2 : Int)) := by rw [cell_of_row _ _ _ _ _ _ q2]; exact updc_home h2 a2 b2 ds
  have ra1 := hide (updc_old h1 a1 b1 la1 lb1 cs X _ _ q1)
  have ra2 := hide (updc_old h2 a2 b2 la2 lb2 ds X _ _ q2)
  have eqa := hide (fun W => dig_eq a1 a2 la1 la2 W)
  have nqa := hide (fun W => dig_neqV a1 a2 la1 la2 W)
  have ia1 := dinfoV a1 la1
  have ia2 := dinfoV a2 la2
  have rb1 := hide (updc_new h1 a1 b1 la1 lb1 cs X _ _ q1)
  have rb2 := hide (updc_new h2 a2 b2 la2 lb2 ds X _ _ q2)
  have eqb := hide (fun W => dig_eq b1 b2 lb1 lb2 W)
  have nqb := hide (fun W => dig_neqV b1 b2 lb1 lb2 W)
  have ib1 := dinfoV b1 lb1
  have ib2 := dinfoV b2 lb2
  have e0 : (((h1 : Nat) : Int) != ((h2 : Nat) : Int)) = false := by simp; omega
  rw [decide_eq_true ha] at eqa nqa
  simp only [Bool.not_true, Bool.not_false] at nqa
  rw [decide_eq_true hb] at eqb nqb
  simp only [Bool.not_true, Bool.not_false] at nqb
  generalize updc h1 a1 b1 cs = U1 at *
  generalize updc h2 a2 b2 ds = U2 at *
  clear hX q0 q1 q2 hc hd kr1 kr2 la1 lb1 la2 lb2 hR hh ha hb
  go_enter Tryd.func19, Tryd.ntmps19
  go_wp2_with (first
    | go_skip
    | (rw [unhide HX])
    | (refine wpList_load_mid_gv rfl 23 (.tmp 15) rfl (w.heap.size + 1) 1 rfl (Lib.byteCells a1) _ (unhide ra1) Tryd.underlying23 rfl ia1 ?_)
    | (refine wpList_load_mid_gv rfl 23 (.tmp 17) rfl (w.heap.size + 1 + 1) 1 rfl (Lib.byteCells a2) _ (unhide ra2) Tryd.underlying23 rfl ia2 ?_)
    | (refine wpList_neq_gv rfl 23 23 (.tmp 16) (.tmp 18) rfl _ _ rfl rfl (by kernel_rfl) false (unhide nqa) ?_)
    | (refine wpList_load_mid_gv rfl 23 (.tmp 22) rfl (w.heap.size + 1) 33 rfl (Lib.byteCells b1) _ (unhide rb1) Tryd.underlying23 rfl ib1 ?_)
    | (refine wpList_load_mid_gv rfl 23 (.tmp 24) rfl (w.heap.size + 1 + 1) 33 rfl (Lib.byteCells b2) _ (unhide rb2) Tryd.underlying23 rfl ib2 ?_)
    | (refine wpList_eql_gv rfl 23 23 (.tmp 23) (.tmp 25) rfl _ _ rfl rfl (by kernel_rfl) true (unhide eqb) ?_))
  go_ret
  exact ⟨rfl, b0⟩
set_option maxHeartbeats 2000000 in
set_option maxRecDepth 100000 in
theorem rdouble_3 (root : List UInt8) (hR : root.length = 32) (h1 h2 : Nat) (a1 b1 a2 b2 : List UInt8) (la1 : a1.length = 32) (lb1 : b1.length = 32) (la2 : a2.length = 32) (lb2 : b2.length = 32) (cs ds : Array Value) (hc : cs.size = 4) (hd : ds.size = 4) (r1 r2 : Bool) (hh : h1 = h2) (ha : a1 = a2) (hb : b1 ≠ b2) (hr : r1 = false) (w : World)
    (kr1 : ∀ W, Below w.heap.size w W → Calls Tryd.prog 15 #[.pointer none, .agg (bc root), .agg (updc h1 a1 b1 cs)] W fun e w' => e = .returned (.bool r1) ∧ Below W.heap.size W w')
    (kr2 : ∀ W, Below w.heap.size w W → Calls Tryd.prog 15 #[.pointer none, .agg (bc root), .agg (updc h2 a2 b2 ds)] W fun e w' => e = .returned (.bool r2) ∧ Below W.heap.size W w') :
    Calls Tryd.prog 19 #[.pointer none, .agg (bc root), .agg (updc h1 a1 b1 cs), .agg (updc h2 a2 b2 ds)] w fun e w' => e = .returned (.bool false) ∧ Below w.heap.size w w' := by
  obtain ⟨q0, q1, q2⟩ := al3 w (.cells (bc root) 23) (.cells (updc h1 a1 b1 cs) 32) (.cells (updc h2 a2 b2 ds) 32)
  have b0 := bel3 w (.cells (bc root) 23) (.cells (updc h1 a1 b1 cs) 32) (.cells (updc h2 a2 b2 ds) 32)
  obtain ⟨X, hX⟩ : ∃ X, ((w.alloc (.cells (bc root) 23)).alloc (.cells (updc h1 a1 b1 cs) 32)).alloc (.cells (updc h2 a2 b2 ds) 32) = X := ⟨_, rfl⟩
  rw [hX] at q0 q1 q2 b0
  have HX := hide hX
  have m1 : X.cell? ⟨w.heap.size + 1, 0, none⟩ = some (.int .u32 (h1 : Int)) := by rw [cell_of_row _ _ _ _ _ _ q1]; exact updc_home h1 a1 b1 cs
  have m2 : X.cell? ⟨w.heap.size + 1 + 1, 0, none⟩ = some (.int .u32 (h2 : Int)) := by rw [cell_of_row _ _ _ _ _ _ q2]; exact updc_home h2 a2 b2 ds
  have ra1 := hide (updc_old h1 a1 b1 la1 lb1 cs X _ _ q1)
  have ra2 := hide (updc_old h2 a2 b2 la2 lb2 ds X _ _ q2)
  have eqa := hide (fun W => dig_eq a1 a2 la1 la2 W)
  have nqa := hide (fun W => dig_neqV a1 a2 la1 la2 W)
  have ia1 := dinfoV a1 la1
  have ia2 := dinfoV a2 la2
  have rb1 := hide (updc_new h1 a1 b1 la1 lb1 cs X _ _ q1)
  have rb2 := hide (updc_new h2 a2 b2 la2 lb2 ds X _ _ q2)
  have eqb := hide (fun W => dig_eq b1 b2 lb1 lb2 W)
  have nqb := hide (fun W => dig_neqV b1 b2 lb1 lb2 W)
  have ib1 := dinfoV b1 lb1
  have ib2 := dinfoV b2 lb2
  have K1 := hide (kr1 X b0)
  have K2 := hide kr2
  have iR := digInfo root hR
  have iu1 := upd_info _ (updc_size h1 a1 b1 la1 lb1 cs hc)
  have iu2 := upd_info _ (updc_size h2 a2 b2 la2 lb2 ds hd)
  have Q0 := hide q0
  have Q1 := hide q1
  have Q2 := hide q2
  have e0 : (((h1 : Nat) : Int) != ((h2 : Nat) : Int)) = false := by simp; omega
  rw [decide_eq_true ha] at eqa nqa
  simp only [Bool.not_true, Bool.not_false] at nqa
  rw [decide_eq_false hb] at eqb nqb
  simp only [Bool.not_true, Bool.not_false] at nqb
  generalize updc h1 a1 b1 cs = U1 at *
  generalize updc h2 a2 b2 ds = U2 at *
  subst hr
  clear hX q0 q1 q2 hc hd kr1 kr2 la1 lb1 la2 lb2 hR hh ha hb
  go_enter Tryd.func19, Tryd.ntmps19
  go_wp2_with (first
    | go_skip
    | (rw [unhide HX])
    | (refine wpList_load_mid_gv rfl 23 (.tmp 15) rfl (w.heap.size + 1) 1 rfl (Lib.byteCells a1) _ (unhide ra1) Tryd.underlying23 rfl ia1 ?_)
    | (refine wpList_load_mid_gv rfl 23 (.tmp 17) rfl (w.heap.size + 1 + 1) 1 rfl (Lib.byteCells a2) _ (unhide ra2) Tryd.underlying23 rfl ia2 ?_)
    | (refine wpList_neq_gv rfl 23 23 (.tmp 16) (.tmp 18) rfl _ _ rfl rfl (by kernel_rfl) false (unhide nqa) ?_)
    | (refine wpList_load_mid_gv rfl 23 (.tmp 22) rfl (w.heap.size + 1) 33 rfl (Lib.byteCells b1) _ (unhide rb1) Tryd.underlying23 rfl ib1 ?_)
    | (refine wpList_load_mid_gv rfl 23 (.tmp 24) rfl (w.heap.size + 1 + 1) 33 rfl (Lib.byteCells b2) _ (unhide rb2) Tryd.underlying23 rfl ib2 ?_)
    | (refine wpList_eql_gv rfl 23 23 (.tmp 23) (.tmp 25) rfl _ _ rfl rfl (by kernel_rfl) false (unhide eqb) ?_)
    | (refine wpList_load_row_gd rfl 23 (.tmp 5) rfl (w.heap.size) rfl 23 _ (0, 0) _ (unhide Q0) Tryd.underlying23 rfl iR ?_)
    | (refine wpList_load_row_gd rfl 32 (.tmp 6) rfl (w.heap.size + 1) rfl 32 _ (0, 0) _ (unhide Q1) Tryd.underlying32 rfl iu1 ?_))
  refine (unhide K1).mono ?_
  rintro e w1 ⟨rfl, d1⟩
  have bb1 := b0.trans (d1.mono b0.size)
  clear d1
  go_wp2_with go_skip
  go_ret
  exact ⟨rfl, bb1⟩
set_option maxHeartbeats 2000000 in
set_option maxRecDepth 100000 in
theorem rdouble_4 (root : List UInt8) (hR : root.length = 32) (h1 h2 : Nat) (a1 b1 a2 b2 : List UInt8) (la1 : a1.length = 32) (lb1 : b1.length = 32) (la2 : a2.length = 32) (lb2 : b2.length = 32) (cs ds : Array Value) (hc : cs.size = 4) (hd : ds.size = 4) (r1 r2 : Bool) (hh : h1 = h2) (ha : a1 = a2) (hb : b1 ≠ b2) (hr : r1 = true) (w : World)
    (kr1 : ∀ W, Below w.heap.size w W → Calls Tryd.prog 15 #[.pointer none, .agg (bc root), .agg (updc h1 a1 b1 cs)] W fun e w' => e = .returned (.bool r1) ∧ Below W.heap.size W w')
    (kr2 : ∀ W, Below w.heap.size w W → Calls Tryd.prog 15 #[.pointer none, .agg (bc root), .agg (updc h2 a2 b2 ds)] W fun e w' => e = .returned (.bool r2) ∧ Below W.heap.size W w') :
    Calls Tryd.prog 19 #[.pointer none, .agg (bc root), .agg (updc h1 a1 b1 cs), .agg (updc h2 a2 b2 ds)] w fun e w' => e = .returned (.bool r2) ∧ Below w.heap.size w w' := by
  obtain ⟨q0, q1, q2⟩ := al3 w (.cells (bc root) 23) (.cells (updc h1 a1 b1 cs) 32) (.cells (updc h2 a2 b2 ds) 32)
  have b0 := bel3 w (.cells (bc root) 23) (.cells (updc h1 a1 b1 cs) 32) (.cells (updc h2 a2 b2 ds) 32)
  obtain ⟨X, hX⟩ : ∃ X, ((w.alloc (.cells (bc root) 23)).alloc (.cells (updc h1 a1 b1 cs) 32)).alloc (.cells (updc h2 a2 b2 ds) 32) = X := ⟨_, rfl⟩
  rw [hX] at q0 q1 q2 b0
  have HX := hide hX
  have m1 : X.cell? ⟨w.heap.size + 1, 0, none⟩ = some (.int .u32 (h1 : Int)) := by rw [cell_of_row _ _ _ _ _ _ q1]; exact updc_home h1 a1 b1 cs
  have m2 : X.cell? ⟨w.heap.size + 1 + 1, 0, none⟩ = some (.int .u32 (h2 : Int)) := by rw [cell_of_row _ _ _ _ _ _ q2]; exact updc_home h2 a2 b2 ds
  have ra1 := hide (updc_old h1 a1 b1 la1 lb1 cs X _ _ q1)
  have ra2 := hide (updc_old h2 a2 b2 la2 lb2 ds X _ _ q2)
  have eqa := hide (fun W => dig_eq a1 a2 la1 la2 W)
  have nqa := hide (fun W => dig_neqV a1 a2 la1 la2 W)
  have ia1 := dinfoV a1 la1
  have ia2 := dinfoV a2 la2
  have rb1 := hide (updc_new h1 a1 b1 la1 lb1 cs X _ _ q1)
  have rb2 := hide (updc_new h2 a2 b2 la2 lb2 ds X _ _ q2)
  have eqb := hide (fun W => dig_eq b1 b2 lb1 lb2 W)
  have nqb := hide (fun W => dig_neqV b1 b2 lb1 lb2 W)
  have ib1 := dinfoV b1 lb1
  have ib2 := dinfoV b2 lb2
  have K1 := hide (kr1 X b0)
  have K2 := hide kr2
  have iR := digInfo root hR
  have iu1 := upd_info _ (updc_size h1 a1 b1 la1 lb1 cs hc)
  have iu2 := upd_info _ (updc_size h2 a2 b2 la2 lb2 ds hd)
  have Q0 := hide q0
  have Q1 := hide q1
  have Q2 := hide q2
  have e0 : (((h1 : Nat) : Int) != ((h2 : Nat) : Int)) = false := by simp; omega
  rw [decide_eq_true ha] at eqa nqa
  simp only [Bool.not_true, Bool.not_false] at nqa
  rw [decide_eq_false hb] at eqb nqb
  simp only [Bool.not_true, Bool.not_false] at nqb
  generalize updc h1 a1 b1 cs = U1 at *
  generalize updc h2 a2 b2 ds = U2 at *
  subst hr
  clear hX q0 q1 q2 hc hd kr1 kr2 la1 lb1 la2 lb2 hR hh ha hb
  go_enter Tryd.func19, Tryd.ntmps19
  go_wp2_with (first
    | go_skip
    | (rw [unhide HX])
    | (refine wpList_load_mid_gv rfl 23 (.tmp 15) rfl (w.heap.size + 1) 1 rfl (Lib.byteCells a1) _ (unhide ra1) Tryd.underlying23 rfl ia1 ?_)
    | (refine wpList_load_mid_gv rfl 23 (.tmp 17) rfl (w.heap.size + 1 + 1) 1 rfl (Lib.byteCells a2) _ (unhide ra2) Tryd.underlying23 rfl ia2 ?_)
    | (refine wpList_neq_gv rfl 23 23 (.tmp 16) (.tmp 18) rfl _ _ rfl rfl (by kernel_rfl) false (unhide nqa) ?_)
    | (refine wpList_load_mid_gv rfl 23 (.tmp 22) rfl (w.heap.size + 1) 33 rfl (Lib.byteCells b1) _ (unhide rb1) Tryd.underlying23 rfl ib1 ?_)
    | (refine wpList_load_mid_gv rfl 23 (.tmp 24) rfl (w.heap.size + 1 + 1) 33 rfl (Lib.byteCells b2) _ (unhide rb2) Tryd.underlying23 rfl ib2 ?_)
    | (refine wpList_eql_gv rfl 23 23 (.tmp 23) (.tmp 25) rfl _ _ rfl rfl (by kernel_rfl) false (unhide eqb) ?_)
    | (refine wpList_load_row_gd rfl 23 (.tmp 5) rfl (w.heap.size) rfl 23 _ (0, 0) _ (unhide Q0) Tryd.underlying23 rfl iR ?_)
    | (refine wpList_load_row_gd rfl 32 (.tmp 6) rfl (w.heap.size + 1) rfl 32 _ (0, 0) _ (unhide Q1) Tryd.underlying32 rfl iu1 ?_))
  refine (unhide K1).mono ?_
  rintro e w1 ⟨rfl, d1⟩
  have bb1 := b0.trans (d1.mono b0.size)
  have p0 := Below.at d1 (Array.getElem?_eq_some_iff.1 (unhide Q0)).1 (unhide Q0)
  have p2 := Below.at d1 (Array.getElem?_eq_some_iff.1 (unhide Q2)).1 (unhide Q2)
  clear d1
  go_wp2_with (first
    | go_skip
    | (refine wpList_load_row_gd rfl 23 (.tmp 5) rfl w.heap.size rfl 23 _ (0, 0) _ p0 Tryd.underlying23 rfl iR ?_)
    | (refine wpList_load_row_gd rfl 32 (.tmp 7) rfl (w.heap.size + 1 + 1) rfl 32 _ (0, 0) _ p2 Tryd.underlying32 rfl iu2 ?_))
  refine (unhide K2 _ bb1).mono ?_
  rintro e w2 ⟨rfl, d2⟩
  have bb2 := bb1.trans (d2.mono bb1.size)
  go_wp2_with go_skip
  go_ret
  exact ⟨rfl, bb2⟩
theorem rdouble_calls (root : List UInt8) (hR : root.length = 32) (h1 h2 : Nat) (a1 b1 a2 b2 : List UInt8) (la1 : a1.length = 32) (lb1 : b1.length = 32) (la2 : a2.length = 32) (lb2 : b2.length = 32) (cs ds : Array Value) (hc : cs.size = 4) (hd : ds.size = 4) (r1 r2 : Bool) (w : World)
    (kr1 : ∀ W, Below w.heap.size w W → Calls Tryd.prog 15 #[.pointer none, .agg (bc root), .agg (updc h1 a1 b1 cs)] W fun e w' => e = .returned (.bool r1) ∧ Below W.heap.size W w')
    (kr2 : ∀ W, Below w.heap.size w W → Calls Tryd.prog 15 #[.pointer none, .agg (bc root), .agg (updc h2 a2 b2 ds)] W fun e w' => e = .returned (.bool r2) ∧ Below W.heap.size W w') :
    Calls Tryd.prog 19 #[.pointer none, .agg (bc root), .agg (updc h1 a1 b1 cs), .agg (updc h2 a2 b2 ds)] w fun e w' => e = .returned (.bool (pDbl h1 h2 a1 a2 b1 b2 r1 r2)) ∧ Below w.heap.size w w' := by
  unfold pDbl
  by_cases hh : h1 = h2
  · by_cases ha : a1 = a2
    · by_cases hb : b1 = b2
      · rw [decide_eq_true hb, Bool.not_true, Bool.and_false, Bool.false_and, Bool.false_and]
        exact rdouble_2 root hR h1 h2 a1 b1 a2 b2 la1 lb1 la2 lb2 cs ds hc hd r1 r2 hh ha hb w kr1 kr2
      · rw [decide_eq_true hh, decide_eq_true ha, decide_eq_false hb]
        cases hr : r1 with
        | false => exact rdouble_3 root hR h1 h2 a1 b1 a2 b2 la1 lb1 la2 lb2 cs ds hc hd false r2 hh ha hb rfl w (by rw [← hr]; exact kr1) kr2
        | true => exact rdouble_4 root hR h1 h2 a1 b1 a2 b2 la1 lb1 la2 lb2 cs ds hc hd true r2 hh ha hb rfl w (by rw [← hr]; exact kr1) kr2
    · rw [decide_eq_false ha, Bool.and_false, Bool.false_and, Bool.false_and, Bool.false_and]
      exact rdouble_1 root hR h1 h2 a1 b1 a2 b2 la1 lb1 la2 lb2 cs ds hc hd r1 r2 hh ha w kr1 kr2
  · rw [decide_eq_false hh, Bool.false_and, Bool.false_and, Bool.false_and, Bool.false_and]
    exact rdouble_0 root hR h1 h2 a1 b1 a2 b2 la1 lb1 la2 lb2 cs ds hc hd r1 r2 hh w kr1 kr2
end Go.Proofs.YtlicadfbkjhihaaDoor

namespace Go.Proofs.YtlicadfbkjhihaaDoor
open Go Go.RowKit
set_option linter.unusedSimpArgs false
set_option linter.unusedVariables false

theorem leaf_word (seed : List UInt8) (x : Nat) (hx : x < 16) : (pLeaves seed).getD x [] = pWord seed x := by simp [pLeaves, hx]
/-- What a signer signs is right under its root. -/
theorem right_signed (seed : List UInt8) (hs : seed.length = 32) (x : Nat) (hx : x < 16) (home : Nat) (hh : home < 4294967296) (a b : List UInt8) (ha : a.length = 32) (hb : b.length = 32) (B : Nat) (cs : Array Value) (w : World) (hS : SigAt w B seed (pClaim home a b) (pLeaves seed) x cs) (tabs : Tabs w) :
    Calls Tryd.prog 14 #[.pointer none, .agg (bc (kRoot (pLeaves seed))), .agg (updc home a b cs)] w fun e w' => e = .returned (.bool true) ∧ Below w.heap.size w w' :=
  uright_of _ (kRoot_length _ (pLeaves_len seed)) home hh a b ha hb cs hS.size.1 true w tabs fun W hW =>
    verify_true seed (pClaim home a b) hs (pOf_length _ _) (pLeaves seed) (pLeaves_len seed) (pLeaves_32 seed) x hx (leaf_word seed x hx) B cs W (hS.below hW) (tabs.below hW (Nat.le_refl _))
theorem right_empty (root : List UInt8) (hr : root.length = 32) (w : World) (tabs : Tabs w) :
    Calls Tryd.prog 14 #[.pointer none, .agg (bc root), .agg updZ] w fun e w' => e = .returned (.bool false) ∧ Below w.heap.size w w' :=
  uright_of root hr 0 (by decide) _ _ (by simp) (by simp) sigZ rfl false w tabs fun W _ => verify_empty _ _ W
end Go.Proofs.YtlicadfbkjhihaaDoor

namespace Go.Proofs.YtlicadfbkjhihaaDoor
open Go Go.RowKit
set_option linter.unusedSimpArgs false
set_option linter.unusedVariables false

set_option maxHeartbeats 8000000 in
set_option maxRecDepth 100000 in
theorem uawake_of (S1 A2 A3 : List UInt8) (h1 : S1.length = 32) (h2 : A2.length = 32) (h3 : A3.length = 32) (hb1 : Tryd.prog.built 23 [(0, .int .u8 1)] = some (bc S1)) (hb2 : Tryd.prog.built 23 [(0, .int .u8 2)] = some (bc A2)) (hb3 : Tryd.prog.built 23 [(0, .int .u8 3)] = some (bc A3)) (w : World) (tabs : Tabs w) :
    Calls Tryd.prog 5 #[] w fun e w' => e = .returned (.bool true) ∧ Below w.heap.size w w' := by
  have e0 : ((0 : Nat) : Int) = 0 := rfl
  have e1 : ((1 : Nat) : Int) = 1 := rfl
  have cn := hide fun W t => new_calls S1 h1 W t
  have cu0 := fun b off c W hD t => usign_calls S1 h1 0 (by decide) (pLeaves S1) (pLeaves_len S1) b off c 1 (by decide) A2 A3 h2 h3 W hD t
  rw [e0, e1] at cu0
  have cu := hide cu0
  have cr := hide fun p c W hD t => kroot_calls S1 h1 0 (pLeaves S1) (pLeaves_len S1) p c W hD t
  have cs1 := hide fun B cs W hS t => right_signed S1 h1 0 (by decide) 1 (by decide) A2 A3 h2 h3 B cs W hS t
  have ce := hide fun W t => right_empty (kRoot (pLeaves S1)) (kRoot_length _ (pLeaves_len S1)) W t
  have hDl := hide (pLeaves_len S1)
  have hsi := hide fun n v => sgc_info S1 h1 n v
  have hso := hide fun n p l c => sgc_one S1 n p l c
  have hsz := hide fun n v => sg0_size S1 h1 n v
  have HB1 := hide hb1
  have HB2 := hide hb2
  have HB3 := hide hb3
  have H2 := hide h2
  have H3 := hide h3
  have HT := hide tabs
  generalize kRoot (pLeaves S1) = RT at *
  generalize pLeaves S1 = LV at *
  clear cu0 e0 e1 hb1 hb2 hb3 tabs h2 h3
  go_enter Tryd.func5, Tryd.ntmps5
  go_wp2_with (refine wpList_build_to rfl 23 #[(0, .const (.int .u8 1))] rfl (bc S1) (unhide HB1) ?_)
  refine (unhide cn _ (unhide HT)).mono ?_
  rintro e w1 ⟨rfl, hD1, b1⟩
  obtain ⟨G0, hG0⟩ : ∃ G, w.heap.size + 1 + 1 = G := ⟨_, rfl⟩
  rw [hG0] at hD1
  rw [hG0]
  have i1 := unhide hsi 0 (.slice (some ⟨G0, 0, none⟩) 16 16)
  have o1 := unhide hso 0 (some ⟨G0, 0, none⟩) 16 16
  have z1 := unhide hsz 0 (.slice (some ⟨G0, 0, none⟩) 16 16)
  obtain ⟨C1, hC1⟩ : ∃ C, sgc S1 0 (.slice (some ⟨G0, 0, none⟩) 16 16) = C := ⟨_, rfl⟩
  have cu1 := unhide cu G0 0 16
  have cr1 := unhide cr (some ⟨G0, 0, none⟩) 16
  rw [hC1] at i1 o1 z1 cu1 cr1
  rw [hC1]
  have CU := hide cu1
  have CR := hide cr1
  clear hG0 hC1 cu1 cr1
  go_wp2_with (first
    | (refine wpList_store_newV rfl 26 (.tmp 1) (.tmp 6) rfl w1 sg0 _ C1 rfl rfl i1 z1 o1 ?_; intro w2 q2 b2 zz2)
    | (refine wpList_load_row rfl 26 (.tmp 1) rfl w1.heap.size rfl 26 C1 (0, 0) _ q2 Tryd.underlying26 rfl i1 ?_)
    | (refine wpList_build_to rfl 23 #[(0, .const (.int .u8 2))] rfl (bc A2) (unhide HB2) ?_)
    | (refine wpList_build_to rfl 23 #[(0, .const (.int .u8 3))] rfl (bc A3) (unhide HB3) ?_))
  have bW2 : Below w.heap.size w w2 := b1.trans (b2.mono b1.size)
  have hD2 := hD1.below b2 (Nat.le_refl _)
  refine (unhide CU _ hD2 ((unhide HT).below bW2 (Nat.le_refl _))).mono ?_
  rintro e w3 ⟨⟨gc, cap, cs, rfl, hgc, hDc, hSc⟩, b3⟩
  have bW3 : Below w.heap.size w w3 := bW2.trans (b3.mono bW2.size)
  have q3 := Below.at b3 (Array.getElem?_eq_some_iff.1 q2).1 q2
  have zq3 := (Array.getElem?_eq_some_iff.1 q3).1
  have hD3 := hD2.below b3 (Nat.le_refl _)
  have hcz := hSc.size
  have huz := updc_size 1 A2 A3 (unhide H2) (unhide H3) cs hcz.1
  have hui : (Tryd.prog.info? 32).map (·.size) = some (updc 1 A2 A3 cs).size := by rw [huz]; kernel_rfl
  have huq : updZ.size = (updc 1 A2 A3 cs).size := by rw [huz]; exact updc_size 0 _ _ (by simp) (by simp) _ rfl
  have huo := updc_one 1 A2 A3 cs hcz.2
  have i2 := unhide hsi (0 + 1) (.slice (some ⟨gc, 0, none⟩) 16 cap)
  have o2 := unhide hso (0 + 1) (some ⟨gc, 0, none⟩) 16 cap
  have z2 := unhide hsz (0 + 1) (.slice (some ⟨gc, 0, none⟩) 16 cap)
  obtain ⟨C2, hC2⟩ : ∃ C, sgc S1 (0 + 1) (.slice (some ⟨gc, 0, none⟩) 16 cap) = C := ⟨_, rfl⟩
  have ks := unhide cs1 w2.heap.size cs
  obtain ⟨UC, hUC⟩ : ∃ U, updc 1 A2 A3 cs = U := ⟨_, rfl⟩
  rw [hC2] at i2 o2 z2
  rw [hUC] at hui huq huo ks
  rw [hC2, hUC]
  have KS := hide ks
  have HS3 := hide hSc
  obtain ⟨a0, a1⟩ := al2 w3 (.cells sg0 26) (.cells updZ 32)
  have s1 := (setRow_other ((w3.alloc (.cells sg0 26)).alloc (.cells updZ 32)) w3.heap.size (w3.heap.size + 1) C2 (by omega)).trans a1
  have s2 := setRow_heap _ _ _ UC _ _ s1
  have bX : Below w3.heap.size w3 ((((w3.alloc (.cells sg0 26)).alloc (.cells updZ 32)).setRow w3.heap.size C2).setRow (w3.heap.size + 1) UC) := below_setRow (below_setRow (bel2 w3 _ _) (Nat.le_refl _) _) (by omega) _
  clear hcz huz hUC hC2 ks hSc b3 b2 bW2 hD1 hD2 q2 hDc hgc
  go_upto_region 3 with (first
    | (refine wpList_store_row rfl 26 (.tmp 2) (.tmp 12) rfl w3.heap.size C2 rfl rfl 26 _ a0 i2 z2 o2 ?_)
    | (refine wpList_store_row rfl 32 (.tmp 3) (.tmp 13) rfl (w3.heap.size + 1) UC rfl rfl 32 _ s1 hui huq huo ?_))
  obtain ⟨X, hX⟩ : ∃ X, (((w3.alloc (.cells sg0 26)).alloc (.cells updZ 32)).setRow w3.heap.size C2).setRow (w3.heap.size + 1) UC = X := ⟨_, rfl⟩
  change Code.wp _ _ _ _ ((((w3.alloc (.cells sg0 26)).alloc (.cells updZ 32)).setRow w3.heap.size C2).setRow (w3.heap.size + 1) UC)
  rw [hX] at s2 bX
  rw [hX]
  have bWX : Below w.heap.size w X := bW3.trans (bX.mono bW3.size)
  have qX := Below.at bX zq3 q3
  have hDX := hD3.below bX (Nat.le_refl _)
  have hSX := (unhide HS3).below bX
  have tX := (unhide HT).below bWX (Nat.le_refl _)
  obtain ⟨G1, hG1⟩ : ∃ G, w1.heap.size = G := ⟨_, rfl⟩
  obtain ⟨G3, hG3⟩ : ∃ G, w3.heap.size + 1 = G := ⟨_, rfl⟩
  rw [hG1] at qX
  rw [hG3] at s2
  rw [hG1, hG3]
  have R1 : Hid (∀ w', (∃ p : Regrown, w' = Sort.grow (redrawn X p.d) p.os) → w'.heap[G1]? = some (.cells C1 26 (0, 0))) := fun w' ⟨p, hp⟩ => by rw [hp]; exact Below.at (below_regrown X p.d p.os) (Array.getElem?_eq_some_iff.1 qX).1 qX
  have R3 : Hid (∀ w', (∃ p : Regrown, w' = Sort.grow (redrawn X p.d) p.os) → w'.heap[G3]? = some (.cells UC 32 (0, 0))) := fun w' ⟨p, hp⟩ => by rw [hp]; exact Below.at (below_regrown X p.d p.os) (Array.getElem?_eq_some_iff.1 s2).1 s2
  have kR := hide fun d os => Calls.regrown_of (w := X) (d := d) (os := os) (unhide CR _ (hDX.below (below_regrown X d os) (Nat.le_refl _)) (tX.below (below_regrown X d os) (Nat.le_refl _)))
  have kS := hide fun d os => Calls.regrown_of (w := X) (d := d) (os := os) (unhide KS _ (hSX.below (below_regrown X d os)) (tX.below (below_regrown X d os) (Nat.le_refl _)))
  have kE := hide fun d os => Calls.regrown_of (w := X) (d := d) (os := os) (unhide ce _ (tX.below (below_regrown X d os) (Nat.le_refl _)))
  clear hX s1 s2 a0 a1 bX qX hDX hSX tX hG1 hG3 zq3 q3 hD3 bW3 cn cu cr cs1 ce CU CR KS
  refine wp_region_below mixed (by kernel_rfl) ?_
  quiet_step (fail)
  quiet_step (fail)
  quiet_step (fail)
  refine wpQuiet_load_row rfl 26 (.tmp 1) rfl G1 rfl 26 C1 (0, 0) _ (unhide R1) Tryd.underlying26 rfl i1 ?_
  quiet_step (exact unhide kR _ _)
  refine wpQuiet_load_row rfl 32 (.tmp 3) rfl G3 rfl 32 UC (0, 0) _ (unhide R3) Tryd.underlying32 rfl hui ?_
  quiet_step (exact unhide kS _ _)
  quiet_step (fail)
  quiet_step (fail)
  refine wpQuiet_load_row rfl 26 (.tmp 1) rfl G1 rfl 26 C1 (0, 0) _ (unhide R1) Tryd.underlying26 rfl i1 ?_
  quiet_step (exact unhide kR _ _)
  quiet_step (fail)
  quiet_step (exact unhide kE _ _)
  repeat (quiet_step (fail))
  refine wpQuiet_nil ?_
  intro w5 b5
  go_wp2
  go_ret
  exact ⟨rfl, bWX.trans (b5.mono bWX.size)⟩
theorem uawake_calls (w : World) (tabs : Tabs w) : Calls Tryd.prog 5 #[] w fun e w' => e = .returned (.bool true) ∧ Below w.heap.size w w' :=
  uawake_of (1 :: List.replicate 31 0) (2 :: List.replicate 31 0) (3 :: List.replicate 31 0) (by simp) (by simp) (by simp) (by kernel_rfl) (by kernel_rfl) (by kernel_rfl) w tabs
end Go.Proofs.YtlicadfbkjhihaaDoor
