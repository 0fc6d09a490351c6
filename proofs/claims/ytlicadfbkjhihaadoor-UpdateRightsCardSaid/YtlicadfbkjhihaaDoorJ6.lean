/-
  WHAT update's Claim AND Halt RETURN, where there is no log.
-/
/-
  AN UPDATE AND A STOP AS ROWS; A PART OF A ROW STORED.
-/
/-
  AN UPDATE AS A ROW; WHAT update's Right RETURNS, where there is no log.
-/
import Derived.Test.YtlicadfbkjhihaaDoorJ3
import Derived.Test.YtlicadfbkjhihaaDoorJ5
namespace Go.Proofs.YtlicadfbkjhihaaDoor
open Go Go.RowKit
set_option linter.unusedSimpArgs false
set_option linter.unusedVariables false

/-- A claim; a halt. -/
def pClaim (home : Nat) (a b : List UInt8) : List UInt8 := pOf 7 [pBig home 4, a, b]
def pHalt (home : Nat) (a : List UInt8) (x : Int) : List UInt8 := pOf 9 [pBig home 4, a, pBig (x % 4294967296).toNat 4]
theorem strsAt_three (w : World) (l0 l1 l2 : List UInt8) (t : TypeId) : StrsAt (w.alloc (.cells #[.string (str l0), .string (str l1), .string (str l2)] t)) (some ⟨w.heap.size, 0, none⟩) [l0, l1, l2] := by
  refine .inr ⟨w.heap.size, 0, rfl, by simp, fun j hj => ?_⟩
  match j, hj with
  | 0, _ => go_simp
  | 1, _ => go_simp
  | 2, _ => go_simp
  | j + 3, hj => simp at hj; omega
set_option maxHeartbeats 2000000 in
set_option maxRecDepth 100000 in
theorem claim_calls (home : Nat) (hh : home < 4294967296) (a b : List UInt8) (ha : a.length = 32) (hb : b.length = 32) (w : World) (tabs : Tabs w) :
    Calls Tryd.prog 23 #[.pointer none, .int .u32 (home : Int), .agg (bc a), .agg (bc b)] w fun e w' => e = .returned (.agg (bc (pClaim home a b))) ∧ Below w.heap.size w w' := by
  have co := fun g w hs tabs => ofNil_calls 7 (by decide) [pBig home 4, a, b] (by simp [pBig_length]; omega) (by simp) (some ⟨g, 0, none⟩) 3 w hs tabs
  have hia := digInfo a ha
  have hib := digInfo b hb
  have hi1 := digInfo (pClaim home a b) (pOf_length 7 [pBig home 4, a, b])
  have hz1 := zeroSize (pClaim home a b) (pOf_length 7 [pBig home 4, a, b])
  have ho1 := bc_oneCell (pClaim home a b)
  have cw := fun w => wword_calls home hh w
  have ca := fun w => wdigest_calls a ha w
  have cb := fun w => wdigest_calls b hb w
  have e2 : pOf 7 [pBig home 4, a, b] = pClaim home a b := rfl
  rw [e2] at co
  generalize pClaim home a b = D at *
  generalize pBig home 4 = PH at *
  clear e2
  have A3 := hide (al3 w (.cells (bc a) 23) (.cells (bc b) 23) (.cells (bc (List.replicate 32 0)) 23))
  have B3 := hide (bel3 w (.cells (bc a) 23) (.cells (bc b) 23) (.cells (bc (List.replicate 32 0)) 23))
  have S3 : Hid ((((w.alloc (.cells (bc a) 23)).alloc (.cells (bc b) 23)).alloc (.cells (bc (List.replicate 32 0)) 23)).heap.size = w.heap.size + 1 + 1 + 1) := hide (by simp)
  generalize hX : ((w.alloc (.cells (bc a) 23)).alloc (.cells (bc b) 23)).alloc (.cells (bc (List.replicate 32 0)) 23) = X at *
  have HX := hide hX
  have CO := hide co
  have HT := hide tabs
  have kW : Hid (∀ dd os, Calls Tryd.prog 38 #[.int .u32 (home : Int)] (Sort.grow (redrawn X.drew dd) os) fun e w'' => e = .returned (.string (str PH)) ∧ ∃ p : Regrown, w'' = Sort.grow (redrawn X.drew p.d) p.os) := fun dd os => Calls.regrown_of (cw _)
  have kA : Hid (∀ dd os, Calls Tryd.prog 39 #[.agg (bc a)] (Sort.grow (redrawn X.drew dd) os) fun e w'' => e = .returned (.string (str a)) ∧ ∃ p : Regrown, w'' = Sort.grow (redrawn X.drew p.d) p.os) := fun dd os => Calls.regrown_of (ca _)
  have kB : Hid (∀ dd os, Calls Tryd.prog 39 #[.agg (bc b)] (Sort.grow (redrawn X.drew dd) os) fun e w'' => e = .returned (.string (str b)) ∧ ∃ p : Regrown, w'' = Sort.grow (redrawn X.drew p.d) p.os) := fun dd os => Calls.regrown_of (cb _)
  have dX : Below X.heap.size X X.drew := ⟨rfl, rfl, rfl, Nat.le_refl _, fun _ _ => rfl⟩
  have s3 := unhide S3
  have R0 : Hid (∀ w', (∃ p : Regrown, w' = Sort.grow (redrawn X.drew p.d) p.os) → w'.heap[w.heap.size]? = some (.cells (bc a) 23 (0, 0))) := fun w' ⟨p, hp⟩ => by
    rw [hp]; exact Below.at (below_regrown X.drew p.d p.os) (by show _ < X.heap.size; omega) (unhide A3).1
  have R1 : Hid (∀ w', (∃ p : Regrown, w' = Sort.grow (redrawn X.drew p.d) p.os) → w'.heap[w.heap.size + 1]? = some (.cells (bc b) 23 (0, 0))) := fun w' ⟨p, hp⟩ => by
    rw [hp]; exact Below.at (below_regrown X.drew p.d p.os) (by show _ < X.heap.size; omega) (unhide A3).2.1
  clear co ca cb cw tabs s3 dX hX
  go_enter Tryd.func23, Tryd.ntmps23
  go_wp2_with fail
  change Code.wp _ _ _ _ (((w.alloc (.cells (bc a) 23)).alloc (.cells (bc b) 23)).alloc (.cells (bc (List.replicate 32 0)) 23))
  rw [unhide HX]
  refine wp_region_any mixed ?_
  change wpAny _ _ _ _ _ _ _ X.drew
  refine wpAny_take (i := 0) rfl (by kernel_rfl) (by kernel_rfl) (by kernel_rfl) (fun _ _ _ h => h) (.inl ⟨rfl, fun _ => rfl⟩) ?_
  refine wpAny_take (i := 1) rfl (by kernel_rfl) (by kernel_rfl) (by kernel_rfl) (fun _ _ _ h => h) (.inl ⟨rfl, fun _ => rfl⟩) ?_
  refine wpAny_below_head 2 7 (by kernel_rfl) ?_
  simp only [List.take_succ_cons, List.take_zero, List.drop_succ_cons, List.drop_zero]
  quiet_step (exact unhide kW _ _)
  refine wpQuiet_load_row rfl 23 (.tmp 6) rfl w.heap.size rfl 23 _ (0, 0) _ (unhide R0) Tryd.underlying23 rfl hia ?_
  quiet_step (exact unhide kA _ _)
  refine wpQuiet_load_row rfl 23 (.tmp 7) rfl (w.heap.size + 1) rfl 23 _ (0, 0) _ (unhide R1) Tryd.underlying23 rfl hib ?_
  quiet_step (exact unhide kB _ _)
  refine wpQuiet_nil ?_
  intro w2 hb2
  have hb2' : Below X.heap.size X w2 := ⟨hb2.os, hb2.tape, hb2.output, hb2.size, hb2.block⟩
  have s3 := unhide S3
  have q2 := Below.at hb2' (by omega) (unhide A3).2.2
  have hbw : Below w.heap.size w w2 := (unhide B3).trans (hb2'.mono (by omega))
  have z2 : w.heap.size + 1 + 1 < w2.heap.size := by have := hb2'.size; omega
  have HB := hide hbw
  have Q2 := hide q2
  have Z2 := hide z2
  clear hb2 hb2' s3 q2 hbw z2
  refine wpAny_rest 7 (by kernel_rfl) ?_
  simp only [List.drop_succ_cons, List.drop_zero]
  go_wp2_with fail
  refine (unhide CO _ _ (strsAt_three w2 PH a b _) (((unhide HT).below (unhide HB) (Nat.le_refl _)).below' ((Below.refl _ w2).alloc (Nat.le_refl _) _))).mono ?_
  rintro e w3 ⟨rfl, b3⟩
  have q3 := Below.at b3 (by have := unhide Z2; simp; omega) ((Below.heap_alloc w2 (.cells #[.string (str PH), .string (str a), .string (str b)] 9) _ (unhide Z2)).trans (unhide Q2))
  have hb3 : Below w.heap.size w w3 := ((unhide HB).alloc (by have := unhide Z2; omega) _).trans (b3.mono (by have := unhide Z2; simp; omega))
  have Q3 := hide q3
  have HB3 := hide hb3
  clear b3 q3 hb3
  go_wp2_with (refine wpList_store_row rfl 23 (.tmp 8) (.tmp 17) rfl (w.heap.size + 1 + 1) _ rfl rfl 23 _ (unhide Q3) hi1 hz1 ho1 ?_)
  exact bodyPost_ret (results_cell_row rfl _ _ (w.heap.size + 1 + 1) _ _ _ _ rfl (setRow_heap _ _ _ _ _ _ (unhide Q3)) Tryd.underlying23 rfl hi1) rfl ⟨rfl, below_setRow (unhide HB3) (by omega) _⟩
set_option maxHeartbeats 2000000 in
set_option maxRecDepth 100000 in
theorem halt_calls (home : Nat) (hh : home < 4294967296) (a : List UInt8) (ha : a.length = 32) (x : Int) (w : World) (tabs : Tabs w) :
    Calls Tryd.prog 26 #[.pointer none, .int .u32 (home : Int), .agg (bc a), .int .i64 x] w fun e w' => e = .returned (.agg (bc (pHalt home a x))) ∧ Below w.heap.size w w' := by
  have co := fun g w hs tabs => ofNil_calls 9 (by decide) [pBig home 4, a, pBig (x % 4294967296).toNat 4] (by simp [pBig_length]; omega) (by simp) (some ⟨g, 0, none⟩) 3 w hs tabs
  have hia := digInfo a ha
  have hi1 := digInfo (pHalt home a x) (pOf_length 9 [pBig home 4, a, pBig (x % 4294967296).toNat 4])
  have hz1 := zeroSize (pHalt home a x) (pOf_length 9 [pBig home 4, a, pBig (x % 4294967296).toNat 4])
  have ho1 := bc_oneCell (pHalt home a x)
  have ca := fun w => wdigest_calls a ha w
  have cw := fun w => wword_calls home hh w
  have hmod : (x % 4294967296).toNat < 4294967296 := by omega
  have hmi : ((x % 4294967296).toNat : Int) = x % 4294967296 := by omega
  have cb := fun w => wword_calls (x % 4294967296).toNat hmod w
  rw [hmi] at cb
  have e2 : pOf 9 [pBig home 4, a, pBig (x % 4294967296).toNat 4] = pHalt home a x := rfl
  rw [e2] at co
  generalize pHalt home a x = D at *
  generalize pBig home 4 = PH at *
  generalize pBig (x % 4294967296).toNat 4 = PX at *
  clear e2 hmod hmi
  have A3 := hide (al2 w (.cells (bc a) 23) (.cells (bc (List.replicate 32 0)) 23))
  have B3 := hide (bel2 w (.cells (bc a) 23) (.cells (bc (List.replicate 32 0)) 23))
  have S3 : Hid (((w.alloc (.cells (bc a) 23)).alloc (.cells (bc (List.replicate 32 0)) 23)).heap.size = w.heap.size + 1 + 1) := hide (by simp)
  generalize hX : (w.alloc (.cells (bc a) 23)).alloc (.cells (bc (List.replicate 32 0)) 23) = X at *
  have HX := hide hX
  have CO := hide co
  have HT := hide tabs
  have kA : Hid (∀ dd os, Calls Tryd.prog 39 #[.agg (bc a)] (Sort.grow (redrawn X.drew dd) os) fun e w'' => e = .returned (.string (str a)) ∧ ∃ p : Regrown, w'' = Sort.grow (redrawn X.drew p.d) p.os) := fun dd os => Calls.regrown_of (ca _)
  have kB : Hid (∀ dd os, Calls Tryd.prog 38 #[.int .u32 (x % 4294967296)] (Sort.grow (redrawn X.drew dd) os) fun e w'' => e = .returned (.string (str PX)) ∧ ∃ p : Regrown, w'' = Sort.grow (redrawn X.drew p.d) p.os) := fun dd os => Calls.regrown_of (cb _)
  have kW : Hid (∀ dd os, Calls Tryd.prog 38 #[.int .u32 (home : Int)] (Sort.grow (redrawn X.drew dd) os) fun e w'' => e = .returned (.string (str PH)) ∧ ∃ p : Regrown, w'' = Sort.grow (redrawn X.drew p.d) p.os) := fun dd os => Calls.regrown_of (cw _)
  have dX : Below X.heap.size X X.drew := ⟨rfl, rfl, rfl, Nat.le_refl _, fun _ _ => rfl⟩
  have s3 := unhide S3
  have R0 : Hid (∀ w', (∃ p : Regrown, w' = Sort.grow (redrawn X.drew p.d) p.os) → w'.heap[w.heap.size]? = some (.cells (bc a) 23 (0, 0))) := fun w' ⟨p, hp⟩ => by
    rw [hp]; exact Below.at (below_regrown X.drew p.d p.os) (by show _ < X.heap.size; omega) (unhide A3).1
  clear co ca cb cw tabs s3 dX hX
  go_enter Tryd.func26, Tryd.ntmps26
  go_wp2_with fail
  change Code.wp _ _ _ _ ((w.alloc (.cells (bc a) 23)).alloc (.cells (bc (List.replicate 32 0)) 23))
  rw [unhide HX]
  refine wp_region_any mixed ?_
  change wpAny _ _ _ _ _ _ _ X.drew
  refine wpAny_take (i := 0) rfl (by kernel_rfl) (by kernel_rfl) (by kernel_rfl) (fun _ _ _ h => h) (.inl ⟨rfl, fun _ => rfl⟩) ?_
  refine wpAny_take (i := 1) rfl (by kernel_rfl) (by kernel_rfl) (by kernel_rfl) (fun _ _ _ h => h) (.inl ⟨rfl, fun _ => rfl⟩) ?_
  refine wpAny_below_head 2 8 (by kernel_rfl) ?_
  simp only [List.take_succ_cons, List.take_zero, List.drop_succ_cons, List.drop_zero]
  quiet_step (exact unhide kW _ _)
  refine wpQuiet_load_row rfl 23 (.tmp 6) rfl w.heap.size rfl 23 _ (0, 0) _ (unhide R0) Tryd.underlying23 rfl hia ?_
  quiet_step (exact unhide kA _ _)
  quiet_step (fail)
  quiet_step (fail)
  quiet_step (exact unhide kB _ _)
  refine wpQuiet_nil ?_
  intro w2 hb2
  have hb2' : Below X.heap.size X w2 := ⟨hb2.os, hb2.tape, hb2.output, hb2.size, hb2.block⟩
  have s3 := unhide S3
  have q2 := Below.at hb2' (by omega) (unhide A3).2
  have hbw : Below w.heap.size w w2 := (unhide B3).trans (hb2'.mono (by omega))
  have z2 : w.heap.size + 1 < w2.heap.size := by have := hb2'.size; omega
  have HB := hide hbw
  have Q2 := hide q2
  have Z2 := hide z2
  clear hb2 hb2' s3 q2 hbw z2
  refine wpAny_rest 8 (by kernel_rfl) ?_
  simp only [List.drop_succ_cons, List.drop_zero]
  go_wp2_with fail
  refine (unhide CO _ _ (strsAt_three w2 PH a PX _) (((unhide HT).below (unhide HB) (Nat.le_refl _)).below' ((Below.refl _ w2).alloc (Nat.le_refl _) _))).mono ?_
  rintro e w3 ⟨rfl, b3⟩
  have q3 := Below.at b3 (by have := unhide Z2; simp; omega) ((Below.heap_alloc w2 (.cells #[.string (str PH), .string (str a), .string (str PX)] 9) _ (unhide Z2)).trans (unhide Q2))
  have hb3 : Below w.heap.size w w3 := ((unhide HB).alloc (by have := unhide Z2; omega) _).trans (b3.mono (by have := unhide Z2; simp; omega))
  have Q3 := hide q3
  have HB3 := hide hb3
  clear b3 q3 hb3
  go_wp2_with (refine wpList_store_row rfl 23 (.tmp 8) (.tmp 18) rfl (w.heap.size + 1) _ rfl rfl 23 _ (unhide Q3) hi1 hz1 ho1 ?_)
  exact bodyPost_ret (results_cell_row rfl _ _ (w.heap.size + 1) _ _ _ _ rfl (setRow_heap _ _ _ _ _ _ (unhide Q3)) Tryd.underlying23 rfl hi1) rfl ⟨rfl, below_setRow (unhide HB3) (by omega) _⟩
end Go.Proofs.YtlicadfbkjhihaaDoor

namespace Go.Proofs.YtlicadfbkjhihaaDoor
open Go Go.RowKit
set_option linter.unusedSimpArgs false
set_option linter.unusedVariables false

/-- An update's cells. -/
def updc (home : Nat) (a b : List UInt8) (cs : Array Value) : Array Value := #[Value.int .u32 (home : Int)] ++ bc a ++ bc b ++ cs
theorem updc_size (home : Nat) (a b : List UInt8) (ha : a.length = 32) (hb : b.length = 32) (cs : Array Value) (hc : cs.size = 4) : (updc home a b cs).size = 69 := by simp [updc, bc_size, ha, hb, hc]
theorem updc_home (home : Nat) (a b : List UInt8) (cs : Array Value) : (updc home a b cs)[0]? = some (.int .u32 (home : Int)) := by simp [updc, Array.getElem?_append]
theorem updc_old (home : Nat) (a b : List UInt8) (ha : a.length = 32) (hb : b.length = 32) (cs : Array Value) (w : World) (g : Nat) (t : TypeId) (hg : w.heap[g]? = some (.cells (updc home a b cs) t (0, 0))) : w.rangeAt g 1 (Lib.byteCells a) := fun i u hu => by
  have hi : i < a.length := by have := (List.getElem?_eq_some_iff.1 hu).1; rwa [Lib.byteCells_length] at this
  rw [cell_of_row _ _ _ _ _ _ hg]
  unfold updc
  rw [Array.getElem?_append_left (by simp [bc_size, ha, hb]; omega), Array.getElem?_append_left (by simp [bc_size, ha]; omega), Array.getElem?_append_right (by simp)]
  rw [show 1 + i - (#[Value.int .u32 (home : Int)] : Array Value).size = i by simp]
  simpa [bc] using hu
theorem updc_new (home : Nat) (a b : List UInt8) (ha : a.length = 32) (hb : b.length = 32) (cs : Array Value) (w : World) (g : Nat) (t : TypeId) (hg : w.heap[g]? = some (.cells (updc home a b cs) t (0, 0))) : w.rangeAt g 33 (Lib.byteCells b) := fun i u hu => by
  have hi : i < b.length := by have := (List.getElem?_eq_some_iff.1 hu).1; rwa [Lib.byteCells_length] at this
  rw [cell_of_row _ _ _ _ _ _ hg]
  unfold updc
  rw [Array.getElem?_append_left (by simp [bc_size, ha, hb]; omega), Array.getElem?_append_right (by simp [bc_size, ha])]
  rw [show 33 + i - ((#[Value.int .u32 (home : Int)] : Array Value) ++ bc a).size = i by simp [bc_size, ha]]
  simpa [bc] using hu
theorem updc_sig (home : Nat) (a b : List UInt8) (ha : a.length = 32) (hb : b.length = 32) (cs : Array Value) (hc : cs.size = 4) (w : World) (g : Nat) (t : TypeId) (hg : w.heap[g]? = some (.cells (updc home a b cs) t (0, 0))) : w.rangeAt g 65 cs.toList := fun i u hu => by
  rw [cell_of_row _ _ _ _ _ _ hg]
  unfold updc
  rw [Array.getElem?_append_right (by simp [bc_size, ha, hb])]
  rw [show 65 + i - ((#[Value.int .u32 (home : Int)] : Array Value) ++ bc a ++ bc b).size = i by simp [bc_size, ha, hb]]
  simpa using hu
theorem updc_one (home : Nat) (a b : List UInt8) (cs : Array Value) (h : cs.all (·.oneCell') = true) : (updc home a b cs).all (·.oneCell') = true := by
  unfold updc
  rw [Array.all_append, Array.all_append, Array.all_append, bc_oneCell, bc_oneCell, h]
  simp [Value.oneCell']
/-- A stop's cells. -/
def stopc (home : Nat) (a : List UInt8) (x : Int) (cs : Array Value) : Array Value := #[Value.int .u32 (home : Int)] ++ bc a ++ #[Value.int .i64 x] ++ cs
theorem stopc_size (home : Nat) (a : List UInt8) (ha : a.length = 32) (x : Int) (cs : Array Value) (hc : cs.size = 4) : (stopc home a x cs).size = 38 := by simp [stopc, bc_size, ha, hc]
theorem stopc_home (home : Nat) (a : List UInt8) (x : Int) (cs : Array Value) : (stopc home a x cs)[0]? = some (.int .u32 (home : Int)) := by simp [stopc, Array.getElem?_append]
theorem stopc_who (home : Nat) (a : List UInt8) (ha : a.length = 32) (x : Int) (cs : Array Value) : (stopc home a x cs)[33]? = some (.int .i64 x) := by
  unfold stopc
  rw [Array.getElem?_append_left (by simp [bc_size, ha]), Array.getElem?_append_right (by simp [bc_size, ha])]
  rw [show 33 - ((#[Value.int .u32 (home : Int)] : Array Value) ++ bc a).size = 0 by simp [bc_size, ha]]
  rfl
theorem stopc_key (home : Nat) (a : List UInt8) (ha : a.length = 32) (x : Int) (cs : Array Value) (w : World) (g : Nat) (t : TypeId) (hg : w.heap[g]? = some (.cells (stopc home a x cs) t (0, 0))) : w.rangeAt g 1 (Lib.byteCells a) := fun i u hu => by
  have hi : i < a.length := by have := (List.getElem?_eq_some_iff.1 hu).1; rwa [Lib.byteCells_length] at this
  rw [cell_of_row _ _ _ _ _ _ hg]
  unfold stopc
  rw [Array.getElem?_append_left (by simp [bc_size, ha]; omega), Array.getElem?_append_left (by simp [bc_size, ha]; omega), Array.getElem?_append_right (by simp)]
  rw [show 1 + i - (#[Value.int .u32 (home : Int)] : Array Value).size = i by simp]
  simpa [bc] using hu
theorem stopc_sig (home : Nat) (a : List UInt8) (ha : a.length = 32) (x : Int) (cs : Array Value) (hc : cs.size = 4) (w : World) (g : Nat) (t : TypeId) (hg : w.heap[g]? = some (.cells (stopc home a x cs) t (0, 0))) : w.rangeAt g 34 cs.toList := fun i u hu => by
  rw [cell_of_row _ _ _ _ _ _ hg]
  unfold stopc
  rw [Array.getElem?_append_right (by simp [bc_size, ha])]
  rw [show 34 + i - ((#[Value.int .u32 (home : Int)] : Array Value) ++ bc a ++ #[Value.int .i64 x]).size = i by simp [bc_size, ha]]
  simpa using hu
theorem stopc_one (home : Nat) (a : List UInt8) (x : Int) (cs : Array Value) (h : cs.all (·.oneCell') = true) : (stopc home a x cs).all (·.oneCell') = true := by
  unfold stopc
  rw [Array.all_append, Array.all_append, Array.all_append, bc_oneCell, h]
  simp [Value.oneCell']
/-- A part of a row stored over another one. -/
theorem wpList_store_part {P : Program} {ops : Array Oper} {rest : List Oper} {op : Oper} {a : Act} {w : World} {Q : Exit → Act → World → Prop} (hgd : op.guard = none) (ty : TypeId) (x y : Operand) (ho : op.op = .store ty x y)
    (g o : Nat) (p m s D : Array Value) (t : TypeId) (hx : a.eval x = .pointer (some ⟨g, o, none⟩)) (hy : a.eval y = .agg D) (hp : p.size = o) (hm : m.size = D.size) (hg : w.heap[g]? = some (.cells (p ++ m ++ s) t (0, 0)))
    (hi : (P.info? ty).map (·.size) = some D.size) (h1 : D.all (·.oneCell') = true)
    (h : ∀ w', w'.heap[g]? = some (.cells (p ++ D ++ s) t (0, 0)) → (∀ k, k ≠ g → w'.heap[k]? = w.heap[k]?) → w'.heap.size = w.heap.size → (∀ B, B ≤ g → Below B w w') → wpList P ops Q rest (a.put op.dst undef) w') :
    wpList P ops Q (op :: rest) a w := by
  have hle : o + D.size ≤ (p ++ m ++ s).size := by simp only [Array.size_append]; omega
  have th : w.there g o D.size := by
    intro j hj
    refine ⟨?_, frozen_of_row _ _ _ _ _ hg⟩
    rw [cell_of_row _ _ _ _ _ _ hg]
    have : o + j < (p ++ m ++ s).size := by omega
    rw [Array.getElem?_eq_getElem this]; rfl
  refine wpList_store_mid hgd ty x y ho g o D hx hy th hi h1 ?_
  obtain ⟨r1, r2, r3, r4⟩ := setCells_heap g t D.toList o (p ++ m ++ s) w hg (by simpa using hle)
  refine h _ ?_ r2 r3 r4
  rw [r1]
  congr 2
  apply Array.ext'
  have e1 : (p ++ m ++ s).toList.take o = p.toList := by
    rw [Array.toList_append, Array.toList_append, List.append_assoc, List.take_left' (by simpa using hp)]
  have e2 : (p ++ m ++ s).toList.drop (o + D.toList.length) = s.toList := by
    rw [Array.toList_append, List.drop_left' (by simp [hp, hm])]
  rw [e1, e2]
  simp
theorem set_head (x y : Value) (A : Array Value) : (#[x] ++ A).setIfInBounds 0 y = #[y] ++ A := by
  apply Array.ext'
  simp
theorem set_at (p : Array Value) (x y : Value) (A : Array Value) (o : Nat) (h : p.size = o) : (p ++ #[x] ++ A).setIfInBounds o y = p ++ #[y] ++ A := by
  subst h
  apply Array.ext'
  simp
theorem updc_set (home h2 : Nat) (a b : List UInt8) (cs : Array Value) : (updc home a b cs).setIfInBounds 0 (.int .u32 (h2 : Int)) = updc h2 a b cs := by
  unfold updc
  rw [Array.append_assoc, Array.append_assoc, set_head, Array.append_assoc, Array.append_assoc]
theorem stopc_set (home h2 : Nat) (a : List UInt8) (x : Int) (cs : Array Value) : (stopc home a x cs).setIfInBounds 0 (.int .u32 (h2 : Int)) = stopc h2 a x cs := by
  unfold stopc
  rw [Array.append_assoc, Array.append_assoc, set_head, Array.append_assoc, Array.append_assoc]
theorem stopc_set_who (home : Nat) (a : List UInt8) (ha : a.length = 32) (x y : Int) (cs : Array Value) : (stopc home a x cs).setIfInBounds 33 (.int .i64 y) = stopc home a y cs := by
  unfold stopc
  exact set_at _ _ _ _ _ (by simp [bc_size, ha])
theorem upd_info (C : Array Value) (h : C.size = 69) : (Tryd.prog.info? 32).map (·.size) = some C.size := by rw [h]; kernel_rfl
theorem stop_info (C : Array Value) (h : C.size = 38) : (Tryd.prog.info? 40).map (·.size) = some C.size := by rw [h]; kernel_rfl
end Go.Proofs.YtlicadfbkjhihaaDoor

namespace Go.Proofs.YtlicadfbkjhihaaDoor
open Go Go.RowKit
set_option linter.unusedSimpArgs false
set_option linter.unusedVariables false

set_option maxHeartbeats 4000000 in
set_option maxRecDepth 100000 in
theorem uright_of (root : List UInt8) (hr : root.length = 32) (home : Nat) (hh : home < 4294967296) (a b : List UInt8) (ha : a.length = 32) (hb : b.length = 32) (cs : Array Value) (hc : cs.size = 4) (res : Bool) (w : World) (tabs : Tabs w)
    (hv : ∀ W, Below w.heap.size w W → Calls Tryd.prog 29 #[.pointer none, .agg (bc root), .agg (bc (pClaim home a b)), .agg cs] W fun e w' => e = .returned (.bool res) ∧ Below W.heap.size W w') :
    Calls Tryd.prog 14 #[.pointer none, .agg (bc root), .agg (updc home a b cs)] w fun e w' => e = .returned (.bool res) ∧ Below w.heap.size w w' := by
  have hir := digInfo root hr
  obtain ⟨q0, q1⟩ := al2 w (.cells (bc root) 23) (.cells (updc home a b cs) 32)
  have hbW := bel2 w (.cells (bc root) 23) (.cells (updc home a b cs) 32)
  have cl := hide fun W t => claim_calls home hh a b ha hb W t
  have HV := hide hv
  obtain ⟨X, hX⟩ : ∃ X, (w.alloc (.cells (bc root) 23)).alloc (.cells (updc home a b cs) 32) = X := ⟨_, rfl⟩
  rw [hX] at q0 q1 hbW
  have HX := hide hX
  have tX := tabs.below hbW (Nat.le_refl _)
  have zX := (Array.getElem?_eq_some_iff.1 q1).1
  have R0 : Hid (∀ w', (∃ p : Regrown, w' = Sort.grow (redrawn X p.d) p.os) → w'.heap[w.heap.size]? = some (.cells (bc root) 23 (0, 0))) := fun w' ⟨p, hp⟩ => by rw [hp]; exact Below.at (below_regrown X p.d p.os) (Array.getElem?_eq_some_iff.1 q0).1 q0
  have R1 : ∀ w' : World, (∃ p : Regrown, w' = Sort.grow (redrawn X p.d) p.os) → w'.heap[w.heap.size + 1]? = some (.cells (updc home a b cs) 32 (0, 0)) := fun w' ⟨p, hp⟩ => by rw [hp]; exact Below.at (below_regrown X p.d p.os) zX q1
  have RA : Hid (∀ w', (∃ p : Regrown, w' = Sort.grow (redrawn X p.d) p.os) → w'.rangeAt (w.heap.size + 1) 1 (Lib.byteCells a)) := hide fun w' hp => updc_old home a b ha hb cs w' _ _ (R1 w' hp)
  have RB : Hid (∀ w', (∃ p : Regrown, w' = Sort.grow (redrawn X p.d) p.os) → w'.rangeAt (w.heap.size + 1) 33 (Lib.byteCells b)) := hide fun w' hp => updc_new home a b ha hb cs w' _ _ (R1 w' hp)
  have RS : Hid (∀ w', (∃ p : Regrown, w' = Sort.grow (redrawn X p.d) p.os) → w'.rangeAt (w.heap.size + 1) 65 cs.toList) := hide fun w' hp => updc_sig home a b ha hb cs hc w' _ _ (R1 w' hp)
  have c0 : ∀ d os, (Sort.grow (redrawn X d) os).cell? ⟨w.heap.size + 1, 0, none⟩ = some (.int .u32 (home : Int)) := fun d os => by
    rw [cell_of_row _ _ _ _ _ _ (R1 _ ⟨⟨d, os⟩, rfl⟩)]; exact updc_home home a b cs
  have kC := hide fun d os => Calls.regrown_of (w := X) (d := d) (os := os) (unhide cl _ (tX.below (below_regrown X d os) (Nat.le_refl _)))
  have kV := hide fun d os => Calls.regrown_of (w := X) (d := d) (os := os) (unhide HV _ (hbW.trans ((below_regrown X d os).mono hbW.size)))
  have Ha := hide ha
  have Hb := hide hb
  have Hc := hide hc
  generalize pClaim home a b = D at *
  generalize updc home a b cs = UC at *
  clear tX tabs hv R1 q0 q1 zX hX ha hb hc
  go_enter Tryd.func14, Tryd.ntmps14
  go_wp2_with (rw [unhide HX])
  refine wp_region_below mixed (by kernel_rfl) ?_
  quiet_step (fail)
  refine wpQuiet_load_row rfl 23 (.tmp 4) rfl w.heap.size rfl 23 _ (0, 0) _ (unhide R0) Tryd.underlying23 rfl hir ?_
  quiet_step (fail)
  quiet_step (fail)
  quiet_step (fail)
  quiet_step (fail)
  refine wpQuiet_load_mid rfl 23 (.tmp 12) rfl (w.heap.size + 1) 1 rfl (Lib.byteCells a) _ (unhide RA) Tryd.underlying23 rfl (by rw [Lib.byteCells_length, unhide Ha]; kernel_rfl) ?_
  quiet_step (fail)
  refine wpQuiet_load_mid rfl 23 (.tmp 14) rfl (w.heap.size + 1) 33 rfl (Lib.byteCells b) _ (unhide RB) Tryd.underlying23 rfl (by rw [Lib.byteCells_length, unhide Hb]; kernel_rfl) ?_
  quiet_step (exact unhide kC _ _)
  quiet_step (fail)
  refine wpQuiet_load_mid rfl 30 (.tmp 17) rfl (w.heap.size + 1) 65 rfl cs.toList _ (unhide RS) Tryd.underlying30 rfl (by rw [Array.length_toList, unhide Hc]; kernel_rfl) ?_
  quiet_step (exact unhide kV _ _)
  repeat (quiet_step (fail))
  refine wpQuiet_nil ?_
  intro w2 b2
  go_wp2
  go_ret
  exact ⟨rfl, hbW.trans (b2.mono hbW.size)⟩
theorem built_upd (home : Nat) (a b : List UInt8) (ha : a.length = 32) (hb : b.length = 32) (x : Int) (p1 p2 p3 : Option Addr) (n1 n2 n3 c1 c2 c3 : Nat) : Tryd.prog.built 32 [(0, .int .u32 (home : Int)), (1, .agg (bc a)), (2, .agg (bc b)), (3, .agg #[.int .i64 x, .slice p1 n1 c1, .slice p2 n2 c2, .slice p3 n3 c3])] = some (updc home a b #[.int .i64 x, .slice p1 n1 c1, .slice p2 n2 c2, .slice p3 n3 c3]) := by
  obtain ⟨a0, a1, a2, a3, a4, a5, a6, a7, a8, a9, a10, a11, a12, a13, a14, a15, a16, a17, a18, a19, a20, a21, a22, a23, a24, a25, a26, a27, a28, a29, a30, a31, rfl⟩ := list32 a ha
  obtain ⟨b0, b1, b2, b3, b4, b5, b6, b7, b8, b9, b10, b11, b12, b13, b14, b15, b16, b17, b18, b19, b20, b21, b22, b23, b24, b25, b26, b27, b28, b29, b30, b31, rfl⟩ := list32 b hb
  kernel_rfl
end Go.Proofs.YtlicadfbkjhihaaDoor
