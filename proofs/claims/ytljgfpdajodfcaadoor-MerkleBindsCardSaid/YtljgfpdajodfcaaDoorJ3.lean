/-
  THE DOCUMENT's OWN DIGEST OF TWO DIGESTS, where there is no log.
-/
/-
  WHAT wire's Digest RETURNS.
-/
/-
  WHAT digest's Two AND merkle's node RETURN, where there is no log.
-/
/-
  BYTES STORED INTO THE MIDDLE OF A BLOCK OF BYTES; a part of an array's value.
-/
/-
  A PART OF A ROW LOADED INSIDE A REGION THAT DRAWS ITS ORDER, as a step of the quiet walk. Over whatever program.
-/
/-
  LISTS OF DIGESTS IN MEMORY; WHAT merkle's standing RETURNS.
-/
/-
  EQUALITY OF ARRAYS AND STRUCTS BY VALUE, OF A VALUE WITH ITSELF. Over whatever program.
-/
/-
  == AND != OF TWO DIGESTS.
-/
/-
  WHAT merkle's Proves RETURNS.
-/
/-
  A NEW LIST OF DIGESTS, ALL NOUGHTS.
-/
/-
  WHAT merkle's above RETURNS: the nodes of each two neighbours.
-/
/-
  A SLICE OF ROWS THAT THE CALL OWNS: a slice literal of one row; a row appended. Over whatever program.
-/
/-
  WHAT THE DOCUMENT's OWN Two (domain 6), Nought, Noughts, size, first, bit OF LAYER 7 RETURN, where there is no log.
-/
import Derived.Test.YtljgfpdajodfcaaDoorJ2
import Derived.Test.YtljgfpdajodfcaaDoorJ0
import Derived.Deep.MidRow
import Derived.Test.YtljgfpdajodfcaaDoorJ1
import Derived.Laws.StructEq
import Derived.DeepKeys
import Derived.WalkKit
import Derived.Great.BuildSlice
import Derived.Laws.AppendOwn
import Derived.Laws.OwnMore
namespace Go.Proofs.YtljgfpdajodfcaaDoor
open Go.RowKit
set_option linter.unusedSimpArgs false
set_option linter.unusedVariables false

theorem strsAt_rpair (w : World) (l0 l1 : List UInt8) (t : TypeId) : StrsAt (w.alloc (.cells #[.string (str l0), .string (str l1)] t)) (some ⟨w.heap.size, 0, none⟩) [l0, l1] := by
  refine .inr ⟨w.heap.size, 0, rfl, by simp, fun j hj => ?_⟩
  match j, hj with
  | 0, _ => go_simp
  | 1, _ => go_simp
  | j + 2, hj => simp at hj; omega
set_option maxHeartbeats 2000000 in
set_option maxRecDepth 100000 in
theorem rtwo_calls (dom : Nat) (hdom : dom < 256) (a b : List UInt8) (ha : a.length = 32) (hb : b.length = 32) (w : World) :
    Calls Tryd.prog 18 #[.pointer none, .int .u8 (dom : Int), .agg (bc a), .agg (bc b)] w fun e w' => e = .returned (.agg (bc (pOf dom [a, b]))) ∧ Below w.heap.size w w' := by
  have co := fun g w hs => rofNil_calls dom hdom [a, b] (by simp; omega) (by simp) (some ⟨g, 0, none⟩) 2 w hs
  have hia := digInfo a ha
  have hib := digInfo b hb
  have hi1 := digInfo (pOf dom [a, b]) (pOf_length dom [a, b])
  have hz1 := zeroSize (pOf dom [a, b]) (pOf_length dom [a, b])
  have ho1 := bc_oneCell (pOf dom [a, b])
  have ca := fun w => rbytes_calls a ha w
  have cb := fun w => rbytes_calls b hb w
  generalize pOf dom [a, b] = D at *
  have A3 := hide (al3 w (.cells (bc a) 24) (.cells (bc b) 24) (.cells (bc (List.replicate 32 0)) 24))
  have B3 := hide (bel3 w (.cells (bc a) 24) (.cells (bc b) 24) (.cells (bc (List.replicate 32 0)) 24))
  have S3 : Hid ((((w.alloc (.cells (bc a) 24)).alloc (.cells (bc b) 24)).alloc (.cells (bc (List.replicate 32 0)) 24)).heap.size = w.heap.size + 1 + 1 + 1) := hide (by simp)
  generalize hX : ((w.alloc (.cells (bc a) 24)).alloc (.cells (bc b) 24)).alloc (.cells (bc (List.replicate 32 0)) 24) = X at *
  have HX := hide hX
  have CO := hide co
  have kA : Hid (∀ dd os, Calls Tryd.prog 25 #[.agg (bc a)] (Sort.grow (redrawn X.drew dd) os) fun e w'' => e = .returned (.string (str a)) ∧ ∃ p : Regrown, w'' = Sort.grow (redrawn X.drew p.d) p.os) := fun dd os => Calls.regrown_of (ca _)
  have kB : Hid (∀ dd os, Calls Tryd.prog 25 #[.agg (bc b)] (Sort.grow (redrawn X.drew dd) os) fun e w'' => e = .returned (.string (str b)) ∧ ∃ p : Regrown, w'' = Sort.grow (redrawn X.drew p.d) p.os) := fun dd os => Calls.regrown_of (cb _)
  have dX : Below X.heap.size X X.drew := ⟨rfl, rfl, rfl, Nat.le_refl _, fun _ _ => rfl⟩
  have s3 := unhide S3
  have R0 : Hid (∀ w', (∃ p : Regrown, w' = Sort.grow (redrawn X.drew p.d) p.os) → w'.heap[w.heap.size]? = some (.cells (bc a) 24 (0, 0))) := fun w' ⟨p, hp⟩ => by
    rw [hp]; exact Below.at (below_regrown X.drew p.d p.os) (by show _ < X.heap.size; omega) (unhide A3).1
  have R1 : Hid (∀ w', (∃ p : Regrown, w' = Sort.grow (redrawn X.drew p.d) p.os) → w'.heap[w.heap.size + 1]? = some (.cells (bc b) 24 (0, 0))) := fun w' ⟨p, hp⟩ => by
    rw [hp]; exact Below.at (below_regrown X.drew p.d p.os) (by show _ < X.heap.size; omega) (unhide A3).2.1
  clear co ca cb s3 dX hX
  go_enter Tryd.func18, Tryd.ntmps18
  go_wp2_with fail
  change Code.wp _ _ _ _ (((w.alloc (.cells (bc a) 24)).alloc (.cells (bc b) 24)).alloc (.cells (bc (List.replicate 32 0)) 24))
  rw [unhide HX]
  refine wp_region_any mixed ?_
  change wpAny _ _ _ _ _ _ _ X.drew
  refine wpAny_take (i := 0) rfl (by kernel_rfl) (by kernel_rfl) (by kernel_rfl) (fun _ _ _ h => h) (.inl ⟨rfl, fun _ => rfl⟩) ?_
  refine wpAny_take (i := 1) rfl (by kernel_rfl) (by kernel_rfl) (by kernel_rfl) (fun _ _ _ h => h) (.inl ⟨rfl, fun _ => rfl⟩) ?_
  refine wpAny_below_head 2 6 (by kernel_rfl) ?_
  simp only [List.take_succ_cons, List.take_zero, List.drop_succ_cons, List.drop_zero]
  refine wpQuiet_load_row rfl 24 (.tmp 6) rfl w.heap.size rfl 24 _ (0, 0) _ (unhide R0) Tryd.underlying24 rfl hia ?_
  quiet_step (exact unhide kA _ _)
  refine wpQuiet_load_row rfl 24 (.tmp 7) rfl (w.heap.size + 1) rfl 24 _ (0, 0) _ (unhide R1) Tryd.underlying24 rfl hib ?_
  quiet_step (exact unhide kB _ _)
  refine wpQuiet_nil ?_
  intro w2 hb2
  have hb2' : Below X.heap.size X w2 := ⟨hb2.os, hb2.tape, hb2.output, hb2.size, hb2.block⟩
  have s3 := unhide S3
  have q2 := Below.at hb2' (by omega) (unhide A3).2.2
  have hbw : Below w.heap.size w w2 := (unhide B3).trans (hb2'.mono (by omega))
  have z2 : w.heap.size + 1 + 1 < w2.heap.size := by have := hb2'.size; omega
  have HB := hide hbw
  have Q2 := hide q2
  have Z2 := hide z2
  clear hb2 hb2' s3 q2 hbw z2
  refine wpAny_rest 6 (by kernel_rfl) ?_
  simp only [List.drop_succ_cons, List.drop_zero]
  go_wp2_with fail
  refine (unhide CO _ _ (strsAt_rpair w2 a b _)).mono ?_
  rintro e w3 ⟨rfl, b3⟩
  have q3 := Below.at b3 (by have := unhide Z2; simp; omega) ((Below.heap_alloc w2 (.cells #[.string (str a), .string (str b)] 9) _ (unhide Z2)).trans (unhide Q2))
  have hb3 : Below w.heap.size w w3 := ((unhide HB).alloc (by have := unhide Z2; omega) _).trans (b3.mono (by have := unhide Z2; simp; omega))
  have Q3 := hide q3
  have HB3 := hide hb3
  clear b3 q3 hb3
  go_wp2_with (refine wpList_store_row rfl 24 (.tmp 8) (.tmp 16) rfl (w.heap.size + 1 + 1) _ rfl rfl 24 _ (unhide Q3) hi1 hz1 ho1 ?_)
  exact bodyPost_ret (results_cell_row rfl _ _ (w.heap.size + 1 + 1) _ _ _ _ rfl (setRow_heap _ _ _ _ _ _ (unhide Q3)) Tryd.underlying24 rfl hi1) rfl ⟨rfl, below_setRow (unhide HB3) (by omega) _⟩
end Go.Proofs.YtljgfpdajodfcaaDoor

namespace Go.Proofs.YtljgfpdajodfcaaDoor
open Go.RowKit
set_option linter.unusedSimpArgs false
set_option linter.unusedVariables false

set_option maxRecDepth 100000 in
theorem wdigest_calls (d : List UInt8) (hd : d.length = 32) (w : World) :
    Calls Tryd.prog 31 #[.agg (bc d)] w fun e w' => e = .returned (.string (str d)) ∧ Below w.heap.size w w' := by
  have hsz : (bc d).size = 32 := by rw [bc_size, hd]
  have q := al1 w (.cells (bc d) 24)
  have hcv := run_convert_bytes_back (P := Tryd.prog) (w.alloc (.cells (bc d) 24)) 58 9 5 ⟨w.heap.size, 0, none⟩ 32 d Tryd.underlying58 Tryd.underlying5 Tryd.underlying9 (fun j hj => by
    have hadd : (⟨w.heap.size, 0, none⟩ : Addr).add j = ⟨w.heap.size, j, none⟩ := by unfold Addr.add; split <;> simp_all
    rw [hadd, cell_of_row _ _ _ _ _ _ q, bc_at _ _ hj]; simp [hj])
  rw [hd] at hcv
  clear q hsz
  go_enter Tryd.func31, Tryd.ntmps31
  go_wp2
  go_ret
  exact ⟨rfl, (Below.refl _ _).alloc (Nat.le_refl _) _⟩
end Go.Proofs.YtljgfpdajodfcaaDoor

namespace Go.Proofs.YtljgfpdajodfcaaDoor
open Go Go.RowKit
set_option linter.unusedSimpArgs false
set_option linter.unusedVariables false

/-- The digest of two digests, of the domain Node. -/
def pNode (a b : List UInt8) : List UInt8 := pOf 6 [a, b]
theorem pNode_length (a b : List UInt8) : (pNode a b).length = 32 := pOf_length _ _
theorem strsAt_two (w : World) (l0 l1 : List UInt8) (t : TypeId) : StrsAt (w.alloc (.cells #[.string (str l0), .string (str l1)] t)) (some ⟨w.heap.size, 0, none⟩) [l0, l1] := by
  refine .inr ⟨w.heap.size, 0, rfl, by simp, fun j hj => ?_⟩
  match j, hj with
  | 0, _ => go_simp
  | 1, _ => go_simp
  | j + 2, hj => simp at hj; omega
set_option maxHeartbeats 2000000 in
set_option maxRecDepth 100000 in
theorem two_calls (a b : List UInt8) (ha : a.length = 32) (hb : b.length = 32) (w : World) (tabs : Tabs w) :
    Calls Tryd.prog 26 #[.pointer none, .int .u8 6, .agg (bc a), .agg (bc b)] w fun e w' => e = .returned (.agg (bc (pNode a b))) ∧ Below w.heap.size w w' := by
  have co := fun g w hs tabs => ofNil_calls 6 (by decide) [a, b] (by simp; omega) (by simp) (some ⟨g, 0, none⟩) 2 w hs tabs
  have hia := digInfo a ha
  have hib := digInfo b hb
  have hi1 := digInfo (pNode a b) (pNode_length a b)
  have hz1 := zeroSize (pNode a b) (pNode_length a b)
  have ho1 := bc_oneCell (pNode a b)
  have ca := fun w => wdigest_calls a ha w
  have cb := fun w => wdigest_calls b hb w
  have e2 : pOf 6 [a, b] = pNode a b := rfl
  rw [e2] at co
  generalize pNode a b = D at *
  have A3 := hide (al3 w (.cells (bc a) 24) (.cells (bc b) 24) (.cells (bc (List.replicate 32 0)) 24))
  have B3 := hide (bel3 w (.cells (bc a) 24) (.cells (bc b) 24) (.cells (bc (List.replicate 32 0)) 24))
  have S3 : Hid ((((w.alloc (.cells (bc a) 24)).alloc (.cells (bc b) 24)).alloc (.cells (bc (List.replicate 32 0)) 24)).heap.size = w.heap.size + 1 + 1 + 1) := hide (by simp)
  generalize hX : ((w.alloc (.cells (bc a) 24)).alloc (.cells (bc b) 24)).alloc (.cells (bc (List.replicate 32 0)) 24) = X at *
  have HX := hide hX
  have CO := hide co
  have HT := hide tabs
  have kA : Hid (∀ dd os, Calls Tryd.prog 31 #[.agg (bc a)] (Sort.grow (redrawn X.drew dd) os) fun e w'' => e = .returned (.string (str a)) ∧ ∃ p : Regrown, w'' = Sort.grow (redrawn X.drew p.d) p.os) := fun dd os => Calls.regrown_of (ca _)
  have kB : Hid (∀ dd os, Calls Tryd.prog 31 #[.agg (bc b)] (Sort.grow (redrawn X.drew dd) os) fun e w'' => e = .returned (.string (str b)) ∧ ∃ p : Regrown, w'' = Sort.grow (redrawn X.drew p.d) p.os) := fun dd os => Calls.regrown_of (cb _)
  have dX : Below X.heap.size X X.drew := ⟨rfl, rfl, rfl, Nat.le_refl _, fun _ _ => rfl⟩
  have s3 := unhide S3
  have R0 : Hid (∀ w', (∃ p : Regrown, w' = Sort.grow (redrawn X.drew p.d) p.os) → w'.heap[w.heap.size]? = some (.cells (bc a) 24 (0, 0))) := fun w' ⟨p, hp⟩ => by
    rw [hp]; exact Below.at (below_regrown X.drew p.d p.os) (by show _ < X.heap.size; omega) (unhide A3).1
  have R1 : Hid (∀ w', (∃ p : Regrown, w' = Sort.grow (redrawn X.drew p.d) p.os) → w'.heap[w.heap.size + 1]? = some (.cells (bc b) 24 (0, 0))) := fun w' ⟨p, hp⟩ => by
    rw [hp]; exact Below.at (below_regrown X.drew p.d p.os) (by show _ < X.heap.size; omega) (unhide A3).2.1
  clear co ca cb tabs e2 s3 dX hX
  go_enter Tryd.func26, Tryd.ntmps26
  go_wp2_with fail
  change Code.wp _ _ _ _ (((w.alloc (.cells (bc a) 24)).alloc (.cells (bc b) 24)).alloc (.cells (bc (List.replicate 32 0)) 24))
  rw [unhide HX]
  refine wp_region_any mixed ?_
  change wpAny _ _ _ _ _ _ _ X.drew
  refine wpAny_take (i := 0) rfl (by kernel_rfl) (by kernel_rfl) (by kernel_rfl) (fun _ _ _ h => h) (.inl ⟨rfl, fun _ => rfl⟩) ?_
  refine wpAny_take (i := 1) rfl (by kernel_rfl) (by kernel_rfl) (by kernel_rfl) (fun _ _ _ h => h) (.inl ⟨rfl, fun _ => rfl⟩) ?_
  refine wpAny_below_head 2 6 (by kernel_rfl) ?_
  simp only [List.take_succ_cons, List.take_zero, List.drop_succ_cons, List.drop_zero]
  refine wpQuiet_load_row rfl 24 (.tmp 6) rfl w.heap.size rfl 24 _ (0, 0) _ (unhide R0) Tryd.underlying24 rfl hia ?_
  quiet_step (exact unhide kA _ _)
  refine wpQuiet_load_row rfl 24 (.tmp 7) rfl (w.heap.size + 1) rfl 24 _ (0, 0) _ (unhide R1) Tryd.underlying24 rfl hib ?_
  quiet_step (exact unhide kB _ _)
  refine wpQuiet_nil ?_
  intro w2 hb2
  have hb2' : Below X.heap.size X w2 := ⟨hb2.os, hb2.tape, hb2.output, hb2.size, hb2.block⟩
  have s3 := unhide S3
  have q2 := Below.at hb2' (by omega) (unhide A3).2.2
  have hbw : Below w.heap.size w w2 := (unhide B3).trans (hb2'.mono (by omega))
  have z2 : w.heap.size + 1 + 1 < w2.heap.size := by have := hb2'.size; omega
  have HB := hide hbw
  have Q2 := hide q2
  have Z2 := hide z2
  clear hb2 hb2' s3 q2 hbw z2
  refine wpAny_rest 6 (by kernel_rfl) ?_
  simp only [List.drop_succ_cons, List.drop_zero]
  go_wp2_with fail
  refine (unhide CO _ _ (strsAt_two w2 a b _) (((unhide HT).below (unhide HB) (Nat.le_refl _)).below' ((Below.refl _ w2).alloc (Nat.le_refl _) _))).mono ?_
  rintro e w3 ⟨rfl, b3⟩
  have q3 := Below.at b3 (by have := unhide Z2; simp; omega) ((Below.heap_alloc w2 (.cells #[.string (str a), .string (str b)] 9) _ (unhide Z2)).trans (unhide Q2))
  have hb3 : Below w.heap.size w w3 := ((unhide HB).alloc (by have := unhide Z2; omega) _).trans (b3.mono (by have := unhide Z2; simp; omega))
  have Q3 := hide q3
  have HB3 := hide hb3
  clear b3 q3 hb3
  go_wp2_with (refine wpList_store_row rfl 24 (.tmp 8) (.tmp 16) rfl (w.heap.size + 1 + 1) _ rfl rfl 24 _ (unhide Q3) hi1 hz1 ho1 ?_)
  exact bodyPost_ret (results_cell_row rfl _ _ (w.heap.size + 1 + 1) _ _ _ _ rfl (setRow_heap _ _ _ _ _ _ (unhide Q3)) Tryd.underlying24 rfl hi1) rfl ⟨rfl, below_setRow (unhide HB3) (by omega) _⟩
set_option maxHeartbeats 1000000 in
set_option maxRecDepth 100000 in
theorem node_calls (a b : List UInt8) (ha : a.length = 32) (hb : b.length = 32) (w : World) (tabs : Tabs w) :
    Calls Tryd.prog 21 #[.pointer none, .agg (bc a), .agg (bc b)] w fun e w' => e = .returned (.agg (bc (pNode a b))) ∧ Below w.heap.size w w' := by
  have co := fun w tabs => two_calls a b ha hb w tabs
  have hia := digInfo a ha
  have hib := digInfo b hb
  have hi1 := digInfo (pNode a b) (pNode_length a b)
  have hz1 := zeroSize (pNode a b) (pNode_length a b)
  have ho1 := bc_oneCell (pNode a b)
  generalize pNode a b = D at *
  have A3 := hide (al3 w (.cells (bc a) 24) (.cells (bc b) 24) (.cells (bc (List.replicate 32 0)) 24))
  have B3 := hide (bel3 w (.cells (bc a) 24) (.cells (bc b) 24) (.cells (bc (List.replicate 32 0)) 24))
  have S3 : Hid ((((w.alloc (.cells (bc a) 24)).alloc (.cells (bc b) 24)).alloc (.cells (bc (List.replicate 32 0)) 24)).heap.size = w.heap.size + 1 + 1 + 1) := hide (by simp)
  have CO := hide co
  have HT := hide tabs
  clear co tabs
  go_enter Tryd.func21, Tryd.ntmps21
  go_wp2_with (first
    | refine wpList_load_row rfl 24 (.tmp 4) rfl w.heap.size rfl 24 _ (0, 0) _ (unhide A3).1 Tryd.underlying24 rfl hia ?_
    | refine wpList_load_row rfl 24 (.tmp 5) rfl (w.heap.size + 1) rfl 24 _ (0, 0) _ (unhide A3).2.1 Tryd.underlying24 rfl hib ?_)
  refine (unhide CO _ ((unhide HT).below (unhide B3) (Nat.le_refl _))).mono ?_
  rintro e w2 ⟨rfl, hb2⟩
  have q2 := Below.at hb2 (by have := unhide S3; omega) (unhide A3).2.2
  have hbw : Below w.heap.size w w2 := (unhide B3).trans (hb2.mono (by have := unhide S3; omega))
  have Q2 := hide q2
  have HB := hide hbw
  clear hb2 q2 hbw
  go_wp2_with (refine wpList_store_row rfl 24 (.tmp 6) (.tmp 10) rfl (w.heap.size + 1 + 1) _ rfl rfl 24 _ (unhide Q2) hi1 hz1 ho1 ?_)
  exact bodyPost_ret (results_cell_row rfl _ _ (w.heap.size + 1 + 1) _ _ _ _ rfl (setRow_heap _ _ _ _ _ _ (unhide Q2)) Tryd.underlying24 rfl hi1) rfl ⟨rfl, below_setRow (unhide HB) (by omega) _⟩
/-- The nought of a level. -/
def pNought : Nat → List UInt8
  | 0 => List.replicate 32 0
  | k + 1 => pNode (pNought k) (pNought k)
theorem pNought_length : ∀ k, (pNought k).length = 32
  | 0 => rfl
  | k + 1 => pNode_length _ _
set_option maxHeartbeats 1000000 in
set_option maxRecDepth 100000 in
theorem nought_calls (x : Int) (w : World) (tabs : Tabs w) :
    Calls Tryd.prog 12 #[.pointer none, .int .i64 x] w fun e w' => e = .returned (.agg (bc (pNought (if x < 0 ∨ 32 < x then 0 else x.toNat)))) ∧ Below w.heap.size w w' := by
  have A2 := hide (al2 w (.cells (bc (pNought 0)) 24) (.cells (bc (pNought 0)) 24))
  have B2 := hide (bel2 w (.cells (bc (pNought 0)) 24) (.cells (bc (pNought 0)) 24))
  have HT := hide tabs
  have HI := hide (fun k => digInfo (pNought k) (pNought_length k))
  have HZ := hide (fun k => zeroSize (pNought k) (pNought_length k))
  have HO := hide (fun k => bc_oneCell (pNought k))
  have CN := hide (fun k w tabs => node_calls (pNought k) (pNought k) (pNought_length k) (pNought_length k) w tabs)
  clear tabs
  by_cases hx : x < 0 ∨ 32 < x
  · rw [if_pos hx]
    have hi := unhide HI 0
    have hz := unhide HZ 0
    have ho := unhide HO 0
    have d : (decide (x < 0) = true) ∨ (decide (x < 0) = false ∧ decide (32 < x) = true) := by
      rcases hx with h | h
      · exact .inl (by simpa using h)
      · exact .inr ⟨by simp; omega, by simpa using h⟩
    clear hx
    go_enter Tryd.func12, Tryd.ntmps12
    rcases d with d | ⟨d1, d2⟩
    all_goals
      go_wp2_with (first
        | refine wpList_load_row rfl 24 (.tmp 5) rfl (w.heap.size + 1) rfl 24 _ (0, 0) _ (unhide A2).2 Tryd.underlying24 rfl hi ?_
        | refine wpList_store_row rfl 24 (.tmp 4) (.tmp 12) rfl w.heap.size _ rfl rfl 24 _ (unhide A2).1 hi hz ho ?_)
      exact bodyPost_ret (results_cell_row rfl _ _ w.heap.size _ _ _ _ rfl (setRow_heap _ _ _ _ _ _ (unhide A2).1) Tryd.underlying24 rfl hi) rfl ⟨rfl, below_setRow (unhide B2) (Nat.le_refl _) _⟩
  · rw [if_neg hx]
    obtain ⟨n, rfl⟩ := Int.eq_ofNat_of_zero_le (show 0 ≤ x by omega)
    have hn : n ≤ 32 := by omega
    have d1 : decide ((n : Int) < 0) = false := by simp
    have d2 : decide ((32 : Int) < (n : Int)) = false := by simp; omega
    clear hx
    rw [show (↑n : Int).toNat = n from rfl]
    go_enter Tryd.func12, Tryd.ntmps12
    go_wp2
    obtain ⟨N, hN⟩ : ∃ N, w.heap.size = N := ⟨_, rfl⟩
    have HN := hide hN
    go_loopw [14] (fun i wr => ∃ k : Nat, k ≤ n ∧ i = .int .i64 (k : Int) ∧ Below N w wr ∧ wr.heap[N]? = some (.cells (bc (pNought 0)) 24 (0, 0)) ∧ wr.heap[N + 1]? = some (.cells (bc (pNought k)) 24 (0, 0))) (fun i _ => n - (intOf i).toNat)
    case atStart =>
      subst hN
      exact ⟨0, by omega, rfl, unhide B2, (unhide A2).1, (unhide A2).2⟩
    case round =>
      obtain ⟨k, hk, rfl, hb, q0, q1⟩ := hrel
      rw [hN]
      clear A2 B2
      by_cases hlt : k < n
      · have hd : decide (k < n) = true := by simpa using hlt
        have hi := unhide HI k
        have hi1 := unhide HI (k + 1)
        have ho1 := unhide HO (k + 1)
        have hz1 : (bc (pNought k)).size = (bc (pNought (k + 1))).size := by rw [bc_size, bc_size, pNought_length, pNought_length]
        have tb := (unhide HT).below hb (by rw [← hN]; exact Nat.le_refl _)
        have cn := unhide CN k wr tb
        change Calls _ _ _ _ fun e w' => e = .returned (.agg (bc (pNought (k + 1)))) ∧ _ at cn
        obtain ⟨D1, hD⟩ : ∃ D, pNought (k + 1) = D := ⟨_, rfl⟩
        rw [hD] at hi1 ho1 hz1 cn
        have hz : N + 1 < wr.heap.size := (Array.getElem?_eq_some_iff.1 q1).1
        have HD := hide hD
        have CNN := hide cn
        have Q0 := hide q0
        have Q1 := hide q1
        have HB := hide hb
        have Hk := hide hlt
        have Hz := hide hz
        clear q0 q1 hb cn tb hlt hz hD
        go_wp2_with (refine wpList_load_row rfl 24 (.tmp 5) rfl (N + 1) rfl 24 _ (0, 0) _ (unhide Q1) Tryd.underlying24 rfl hi ?_)
        refine (unhide CNN).mono ?_
        rintro e w2 ⟨rfl, hb2⟩
        have p0 := Below.at hb2 (by have := unhide Hz; omega) (unhide Q0)
        have p1 := Below.at hb2 (unhide Hz) (unhide Q1)
        have bb : Below N w w2 := (unhide HB).trans (hb2.mono (by have := unhide Hz; omega))
        have P0 := hide p0
        have P1 := hide p1
        have BB := hide bb
        clear p0 p1 bb hb2
        go_wp2_with (refine wpList_store_row rfl 24 (.tmp 5) (.tmp 19) rfl (N + 1) _ rfl rfl 24 _ (unhide P1) hi1 hz1 ho1 ?_)
        refine ⟨⟨k + 1, by have := unhide Hk; omega, by go_num, below_setRow (unhide BB) (by omega) _, ?_, ?_⟩, by have := unhide Hk; simp [intOf]; omega⟩
        · rw [setRow_other _ _ _ _ (by omega)]; exact unhide P0
        · rw [unhide HD]; exact setRow_heap _ _ _ _ _ _ (unhide P1)
      · have hd : decide (k < n) = false := by simpa using hlt
        have hkl : k = n := by omega
        have hi := unhide HI n
        have hz := unhide HZ n
        have ho := unhide HO n
        rw [hkl] at q1
        have Q0 := hide q0
        have Q1 := hide q1
        have HB := hide hb
        clear q0 q1 hb hkl hlt
        go_wp2_with (first
          | refine wpList_load_row rfl 24 (.tmp 5) rfl (N + 1) rfl 24 _ (0, 0) _ (unhide Q1) Tryd.underlying24 rfl hi ?_
          | refine wpList_store_row rfl 24 (.tmp 4) (.tmp 21) rfl N _ rfl rfl 24 _ (unhide Q0) hi hz ho ?_)
        exact bodyPost_ret (results_cell_row rfl _ _ N _ _ _ _ rfl (setRow_heap _ _ _ _ _ _ (unhide Q0)) Tryd.underlying24 rfl hi) rfl ⟨rfl, by rw [unhide HN]; exact below_setRow (unhide HB) (Nat.le_refl _) _⟩
end Go.Proofs.YtljgfpdajodfcaaDoor

namespace Go.Proofs.YtljgfpdajodfcaaDoor
open Go.RowKit
set_option linter.unusedSimpArgs false
set_option linter.unusedVariables false

/-- A list with another one written over it from a place on. -/
def putAt (L : List UInt8) (o : Nat) (D : List UInt8) : List UInt8 := L.take o ++ D ++ L.drop (o + D.length)
theorem putAt_length (L : List UInt8) (o : Nat) (D : List UInt8) (h : o + D.length ≤ L.length) : (putAt L o D).length = L.length := by
  unfold putAt; simp; omega
theorem putAt_zeros (A D : List UInt8) (n o : Nat) (ho : o = A.length) (h : D.length ≤ n) : putAt (A ++ List.replicate n 0) o D = A ++ D ++ List.replicate (n - D.length) 0 := by
  subst ho
  unfold putAt
  rw [List.take_left, ← List.drop_drop, List.drop_left, List.drop_replicate]
theorem setCells_heap (g : Nat) (t : TypeId) : ∀ (vs : List Value) (o : Nat) (C : Array Value) (w : World), w.heap[g]? = some (.cells C t (0, 0)) → o + vs.length ≤ C.size →
    (w.setCells g o vs).heap[g]? = some (.cells (C.toList.take o ++ vs ++ C.toList.drop (o + vs.length)).toArray t (0, 0)) ∧ (∀ k, k ≠ g → (w.setCells g o vs).heap[k]? = w.heap[k]?) ∧ (w.setCells g o vs).heap.size = w.heap.size ∧ (∀ B, B ≤ g → Below B w (w.setCells g o vs))
  | [], o, C, w, hg, h => by
    refine ⟨?_, fun _ _ => rfl, rfl, fun B _ => Below.refl B w⟩
    show w.heap[g]? = _
    rw [hg]
    simp
  | v :: vs, o, C, w, hg, h => by
    have h1 := heap_setCell_same w g o C t v hg
    have hsz : (C.setIfInBounds o v).size = C.size := by simp
    have hlt : o < C.size := by simp at h; omega
    obtain ⟨r1, r2, r3, r4⟩ := setCells_heap g t vs (o + 1) (C.setIfInBounds o v) (w.setCell ⟨g, o, none⟩ v) h1 (by rw [hsz]; simp at h; omega)
    have e : w.setCells g o (v :: vs) = (w.setCell ⟨g, o, none⟩ v).setCells g (o + 1) vs := rfl
    rw [e]
    refine ⟨?_, ?_, ?_, ?_⟩
    · rw [r1]
      congr 2
      have e1 : (C.setIfInBounds o v).toList = C.toList.set o v := by simp
      rw [e1]
      have e2 : C.toList.set o v = C.toList.take o ++ v :: C.toList.drop (o + 1) := List.set_eq_take_append_cons_drop.trans (by simp [hlt])
      rw [e2]
      have e3 : (C.toList.take o).length = o := by simp; omega
      rw [show o + 1 = (C.toList.take o ++ [v]).length by simp; omega, show C.toList.take o ++ v :: C.toList.drop (C.toList.take o ++ [v]).length = (C.toList.take o ++ [v]) ++ C.toList.drop (C.toList.take o ++ [v]).length by simp, List.take_left]
      rw [← List.drop_drop, List.drop_left, List.drop_drop]
      simp only [List.append_assoc, List.cons_append, List.nil_append, List.length_append, List.length_cons, List.length_nil, e3]
      rw [show o + (0 + 1) + vs.length = o + (vs.length + 1) by omega]
    · intro k hk
      rw [r2 k hk]
      exact Below.heap_setCell w ⟨g, o, none⟩ v k hk
    · rw [r3]; simp [World.setCell]
    · intro B hB
      exact ((Below.refl B w).setCell (p := ⟨g, o, none⟩) hB v).trans (r4 B hB)
theorem bc_put (L D : List UInt8) (o : Nat) : ((bc L).toList.take o ++ (bc D).toList ++ (bc L).toList.drop (o + (bc D).toList.length)).toArray = bc (putAt L o D) := by
  unfold bc putAt Lib.byteCells
  simp [List.map_take, List.map_drop]
theorem bc_there (w : World) (g o n : Nat) (L : List UInt8) (t : TypeId) (hg : w.heap[g]? = some (.cells (bc L) t (0, 0))) (h : o + n ≤ L.length) : w.there g o n := by
  intro j hj
  refine ⟨?_, frozen_of_row _ _ _ _ _ hg⟩
  rw [cell_of_row _ _ _ _ _ _ hg, bc_at _ _ (by omega)]; rfl
/-- A store of bytes into the middle of a block of bytes. -/
theorem wpList_store_at {P : Program} {ops : Array Oper} {rest : List Oper} {op : Oper} {a : Act} {w : World} {Q : Exit → Act → World → Prop} (hgd : op.guard = none) (ty : TypeId) (x y : Operand) (ho : op.op = .store ty x y)
    (g o : Nat) (L D : List UInt8) (t : TypeId) (hx : a.eval x = .pointer (some ⟨g, o, none⟩)) (hy : a.eval y = .agg (bc D)) (hg : w.heap[g]? = some (.cells (bc L) t (0, 0))) (hle : o + D.length ≤ L.length)
    (hi : (P.info? ty).map (·.size) = some (bc D).size)
    (h : ∀ w', w'.heap[g]? = some (.cells (bc (putAt L o D)) t (0, 0)) → (∀ k, k ≠ g → w'.heap[k]? = w.heap[k]?) → w'.heap.size = w.heap.size → (∀ B, B ≤ g → Below B w w') → wpList P ops Q rest (a.put op.dst undef) w') :
    wpList P ops Q (op :: rest) a w := by
  refine wpList_store_mid hgd ty x y ho g o (bc D) hx hy (bc_there w g o _ L t hg (by rw [bc_size]; exact hle)) hi (bc_oneCell D) ?_
  obtain ⟨r1, r2, r3, r4⟩ := setCells_heap g t (bc D).toList o (bc L) w hg (by rw [bc_size]; simpa using hle)
  rw [bc_put] at r1
  exact h _ r1 r2 r3 r4
/-- A part of a block of bytes, as a range. -/
theorem bc_range (w : World) (g o n : Nat) (L : List UInt8) (t : TypeId) (hg : w.heap[g]? = some (.cells (bc L) t (0, 0))) : w.rangeAt g o (Lib.byteCells ((L.drop o).take n)) := by
  have := World.rangeAt_of_block hg o n
  have e : ((bc L).extract o (o + n)).toList = Lib.byteCells ((L.drop o).take n) := by
    unfold bc Lib.byteCells
    simp [List.map_take, List.map_drop, List.extract_eq_take_drop]
  rw [e] at this
  exact this
end Go.Proofs.YtljgfpdajodfcaaDoor

namespace Go.Proofs.YtljgfpdajodfcaaDoor
open Go.RowKit

theorem wpQuiet_load_mid {P : Program} {ops : Array Oper} {C : World → Prop} {Q : Act → Prop} {a : Act} {o : Oper} {rest : List Oper} (hw : Region.wanted o (yielded ops a.tmps) = true) (ty : TypeId) (x : Operand) (ho : o.op = .load ty x)
    (b off : Nat) (hx : a.eval x = .pointer (some ⟨b, off, none⟩)) (cs : List Value) (d : TypeDesc) (hc : ∀ w, C w → w.rangeAt b off cs)
    (hu : P.underlying ty = some d) (hd : d.isRow = true) (hi : (P.info? ty).map (·.size) = some cs.length)
    (h : wpQuiet P ops C Q rest (a.put o.dst (.agg cs.toArray))) : wpQuiet P ops C Q (o :: rest) a := by
  show if _ then _ else _
  rw [if_pos hw]
  refine ⟨.agg cs.toArray, fun w hC => ?_, h⟩
  have hl := run_loadVar_mid w b off ty cs d (hc w hC) hu hd hi
  unfold Oper.quietAt execOp
  simp only [ho, hx, Instr.loadAt, Instr.sureAddr, Sem.run_bind, Sem.run_pure, Result.andThen_ok, hl]
  exact ⟨rfl, rfl⟩
theorem wpQuiet_eql {P : Program} {ops : Array Oper} {C : World → Prop} {Q : Act → Prop} {a : Act} {o : Oper} {rest : List Oper} (hw : Region.wanted o (yielded ops a.tmps) = true) (t t' : TypeId) (x y : Operand) (ho : o.op = .binOp .eql t x y t')
    (u v : Array Value) (hx : a.eval x = .agg u) (hy : a.eval y = .agg v) (hgt : P.eqGuardType P.depth t = false) (b : Bool) (he : ∀ w, (binOp .eql t (.agg u) (.agg v)).run P w = .ok (.bool b) w)
    (h : wpQuiet P ops C Q rest (a.put o.dst (.bool b))) : wpQuiet P ops C Q (o :: rest) a := by
  show if _ then _ else _
  rw [if_pos hw]
  refine ⟨.bool b, fun w hC => ?_, h⟩
  have hg : (eqGuard .eql t x y (.agg u) (.agg v)).run P w = .ok () w := run_eqGuard_agg w .eql t x y u v hgt
  unfold Oper.quietAt execOp
  simp only [ho, hx, hy, Sem.run_bind, hg, Result.andThen_ok, he]
  exact ⟨rfl, rfl⟩
end Go.Proofs.YtljgfpdajodfcaaDoor

namespace Go.Proofs.YtljgfpdajodfcaaDoor
open Go Go.RowKit
set_option linter.unusedSimpArgs false
set_option linter.unusedVariables false

/-- A list of digests lies where a slice points. -/
def DL (w : World) (p : Option Addr) (ds : List (List UInt8)) : Prop :=
  (∀ d ∈ ds, d.length = 32) ∧ (ds ≠ [] → ∃ b off, p = some ⟨b, off, none⟩ ∧ b < w.heap.size ∧ ∀ i, i < ds.length → w.rangeAt b (off + i * 32) (Lib.byteCells (ds.getD i [])))
theorem rangeAt_below {w w' : World} {B b off : Nat} {cs : List Value} (h : w.rangeAt b off cs) (hb : Below B w w') (hB : b < B) : w'.rangeAt b off cs := fun i v hv => by
  rw [← h i v hv]
  exact hb.cell (p := ⟨b, off + i, none⟩) hB
theorem DL.below {w w' : World} {B : Nat} {p : Option Addr} {ds : List (List UInt8)} (h : DL w p ds) (hb : Below B w w') (hB : w.heap.size ≤ B) : DL w' p ds := by
  refine ⟨h.1, fun hn => ?_⟩
  obtain ⟨b, off, rfl, hlt, hc⟩ := h.2 hn
  exact ⟨b, off, rfl, Nat.lt_of_lt_of_le hlt hb.size, fun i hi => rangeAt_below (hc i hi) hb (Nat.lt_of_lt_of_le hlt hB)⟩
theorem DL.len {w : World} {p : Option Addr} {ds : List (List UInt8)} (h : DL w p ds) (i : Nat) (hi : i < ds.length) : (ds.getD i []).length = 32 := by
  have := h.1 (ds[i]'hi) (List.getElem_mem _)
  simpa [List.getD, hi] using this
/-- What stands at a place. -/
def pStand (ds : List (List UInt8)) (x : Nat) (z : List UInt8) : List UInt8 := if x < ds.length then ds.getD x [] else z
theorem pStand_length {ds : List (List UInt8)} (h : ∀ d ∈ ds, d.length = 32) (x : Nat) (z : List UInt8) (hz : z.length = 32) : (pStand ds x z).length = 32 := by
  unfold pStand
  split
  · rename_i hi
    have := h (ds[x]'hi) (List.getElem_mem _)
    simpa [List.getD, hi] using this
  · exact hz
set_option maxHeartbeats 1000000 in
set_option maxRecDepth 100000 in
theorem standing_calls (ds : List (List UInt8)) (p : Option Addr) (cap : Nat) (x : Nat) (z : List UInt8) (hz : z.length = 32) (hlen : ds.length ≤ 1000000000) (w : World) (hD : DL w p ds) :
    Calls Tryd.prog 19 #[.slice p ds.length cap, .int .i64 (x : Int), .agg (bc z)] w fun e w' => e = .returned (.agg (bc (pStand ds x z))) ∧ Below w.heap.size w w' := by
  have A2 := hide (al2 w (.cells (bc z) 24) (.cells (bc (List.replicate 32 0)) 24))
  have B2 := hide (bel2 w (.cells (bc z) 24) (.cells (bc (List.replicate 32 0)) 24))
  have hiz := digInfo z hz
  have hzz := zeroSize z hz
  have hoz := bc_oneCell z
  unfold pStand
  by_cases hx : x < ds.length
  · rw [if_pos hx]
    have hl := hD.len x hx
    obtain ⟨b, off, rfl, hlt, hc⟩ := hD.2 (by intro h; rw [h] at hx; simp at hx)
    have hr := rangeAt_below (hc x hx) (unhide B2) hlt
    generalize ds.getD x [] = D at *
    have hi1 := digInfo D hl
    have hz1 := zeroSize D hl
    have ho1 := bc_oneCell D
    have hd : decide (x < ds.length) = true := by simpa using hx
    have b1 : (0 : Int) ≤ x ∧ (x : Int) < ds.length := by omega
    have HR := hide hr
    have Hl := hide hl
    clear hc hr hlt hD hx hz hl
    go_enter Tryd.func19, Tryd.ntmps19
    go_wp2_with (first
      | refine wpList_load_mid rfl 24 (.tmp 13) rfl b (off + x * 32) rfl (Lib.byteCells D) _ (unhide HR) Tryd.underlying24 rfl (by rw [Lib.byteCells_length, unhide Hl]; kernel_rfl) ?_
      | refine wpList_store_row rfl 24 (.tmp 6) (.tmp 14) rfl (w.heap.size + 1) (bc D) rfl rfl 24 _ (unhide A2).2 hi1 hz1 ho1 ?_)
    exact bodyPost_ret (results_cell_row rfl _ _ (w.heap.size + 1) _ _ _ _ rfl (setRow_heap _ _ _ _ _ _ (unhide A2).2) Tryd.underlying24 rfl hi1) rfl ⟨rfl, below_setRow (unhide B2) (by omega) _⟩
  · rw [if_neg hx]
    have hd : decide (x < ds.length) = false := by simpa using hx
    clear hD hx hz
    go_enter Tryd.func19, Tryd.ntmps19
    go_wp2_with (first
      | refine wpList_load_row rfl 24 (.tmp 5) rfl w.heap.size rfl 24 _ (0, 0) _ (unhide A2).1 Tryd.underlying24 rfl hiz ?_
      | refine wpList_store_row rfl 24 (.tmp 6) (.tmp 15) rfl (w.heap.size + 1) (bc z) rfl rfl 24 _ (unhide A2).2 hiz hzz hoz ?_)
    exact bodyPost_ret (results_cell_row rfl _ _ (w.heap.size + 1) _ _ _ _ rfl (setRow_heap _ _ _ _ _ _ (unhide A2).2) Tryd.underlying24 rfl hiz) rfl ⟨rfl, below_setRow (unhide B2) (by omega) _⟩
theorem mfirst_calls (p : Option Addr) (n cap : Nat) (hcap : n ≤ cap) (hn : n ≤ 1000000000) (w : World) :
    Calls Tryd.prog 22 #[.slice p n cap] w fun e w' => e = .returned (.slice p (min n 4096) cap) ∧ w' = w := by
  go_enter Tryd.func22, Tryd.ntmps22
  go_wp2
  go_ret
  refine ⟨?_, rfl⟩
  show Ending.returned (Value.slice p (min (n : Int) 4096).toNat cap) = _
  rw [show (min (n : Int) 4096).toNat = min n 4096 by omega]
/-- Up a branch. -/
def pClimb (leaf : List UInt8) (at' : Nat) (ds : List (List UInt8)) : Nat → List UInt8
  | 0 => leaf
  | k + 1 => if at' / 2 ^ k % 2 = 1 then pNode (ds.getD k []) (pClimb leaf at' ds k) else pNode (pClimb leaf at' ds k) (ds.getD k [])
theorem pClimb_length (leaf : List UInt8) (at' : Nat) (ds : List (List UInt8)) (hl : leaf.length = 32) : ∀ k, (pClimb leaf at' ds k).length = 32
  | 0 => hl
  | k + 1 => by unfold pClimb; split <;> exact pNode_length _ _
theorem mand_one (M : Nat) (h : M < 4294967296) : bits .and .u32 (M : Int) 1 = ((M % 2 : Nat) : Int) := by
  have := u32_and_nat M 1 h (by omega)
  rw [Nat.and_one_is_mod] at this
  exact this
set_option maxHeartbeats 2000000 in
set_option maxRecDepth 100000 in
theorem climb_calls (leaf : List UInt8) (hl : leaf.length = 32) (x : Nat) (hx : x < 4294967296) (ds : List (List UInt8)) (p : Option Addr) (cap : Nat) (hlen : ds.length ≤ 1000000000) (w : World) (hD : DL w p ds) (tabs : Tabs w) :
    Calls Tryd.prog 16 #[.pointer none, .agg (bc leaf), .int .u32 (x : Int), .slice p ds.length cap] w fun e w' => e = .returned (.agg (bc (pClimb leaf x ds (min ds.length 32)))) ∧ Below w.heap.size w w' := by
  have A3 := hide (al3 w (.cells (bc leaf) 24) (.cells (bc (List.replicate 32 0)) 24) (.cells (bc (List.replicate 32 0)) 24))
  have B3 := hide (bel3 w (.cells (bc leaf) 24) (.cells (bc (List.replicate 32 0)) 24) (.cells (bc (List.replicate 32 0)) 24))
  have hil := digInfo leaf hl
  have hzl := zeroSize leaf hl
  have hol := bc_oneCell leaf
  have HD := hide hD
  have HT := hide tabs
  have HL := hide (pClimb_length leaf x ds hl)
  have hmin : min (ds.length : Int) 32 = ((min ds.length 32 : Nat) : Int) := by omega
  have Hm32 : Hid (min ds.length 32 ≤ 32) := hide (Nat.min_le_right _ _)
  have Hmd : Hid (min ds.length 32 ≤ ds.length) := hide (Nat.min_le_left _ _)
  have Hx := hide hx
  have Hlen := hide hlen
  obtain ⟨M, hM⟩ : ∃ M, min ds.length 32 = M := ⟨_, rfl⟩
  rw [hM] at hmin Hm32 Hmd
  rw [hM]
  clear tabs hD hM hx hlen
  go_enter Tryd.func16, Tryd.ntmps16
  go_wp2_with (first
    | refine wpList_load_row rfl 24 (.tmp 5) rfl w.heap.size rfl 24 _ (0, 0) _ (al2 w (.cells (bc leaf) 24) (.cells (bc (List.replicate 32 0)) 24)).1 Tryd.underlying24 rfl hil ?_
    | refine wpList_store_row rfl 24 (.tmp 9) (.tmp 11) rfl (w.heap.size + 1 + 1) _ rfl rfl 24 _ (unhide A3).2.2 hil hzl hol ?_)
  obtain ⟨N, hN⟩ : ∃ N, w.heap.size = N := ⟨_, rfl⟩
  have HN := hide hN
  go_loopw [15] (fun i wr => ∃ k : Nat, k ≤ M ∧ i = .int .i64 (k : Int) ∧ Below N w wr ∧ wr.heap[N + 1]? = some (.cells (bc (List.replicate 32 0)) 24 (0, 0)) ∧ wr.heap[N + 1 + 1]? = some (.cells (bc (pClimb leaf x ds k)) 24 (0, 0))) (fun i _ => M - (intOf i).toNat)
  case atStart =>
    subst hN
    refine ⟨0, by omega, rfl, below_setRow (unhide B3) (by omega) _, ?_, ?_⟩
    · exact (setRow_other _ _ _ _ (by omega)).trans (unhide A3).2.1
    · exact setRow_heap _ _ _ _ _ _ (unhide A3).2.2
  case round =>
    obtain ⟨k, hk, rfl, hb, q1, q2⟩ := hrel
    rw [hN]
    clear A3 B3
    by_cases hlt : k < M
    · have hd : decide (k < M) = true := by simpa using hlt
      have hkd : k < ds.length := by have := unhide Hmd; omega
      have hDk := unhide HD
      obtain ⟨b, off, rfl, hlt2, hc⟩ := hDk.2 (by intro h; rw [h] at hkd; simp at hkd)
      have hEl := hDk.len k hkd
      have hr := rangeAt_below (hc k hkd) hb (by rw [← hN]; exact hlt2)
      have hTl := unhide HL k
      have hiT := digInfo _ hTl
      have hT2l := unhide HL (k + 1)
      have hi1 := digInfo _ hT2l
      have ho1 := bc_oneCell (pClimb leaf x ds (k + 1))
      have hz1 : (bc (pClimb leaf x ds k)).size = (bc (pClimb leaf x ds (k + 1))).size := by rw [bc_size, bc_size, hTl, hT2l]
      have tb := (unhide HT).below hb (by rw [← hN]; exact Nat.le_refl _)
      have hz : N + 1 + 1 < wr.heap.size := (Array.getElem?_eq_some_iff.1 q2).1
      have hT2e : pClimb leaf x ds (k + 1) = if x / 2 ^ k % 2 = 1 then pNode (ds.getD k []) (pClimb leaf x ds k) else pNode (pClimb leaf x ds k) (ds.getD k []) := rfl
      obtain ⟨E, hE⟩ : ∃ E, ds.getD k [] = E := ⟨_, rfl⟩
      rw [hE] at hEl hr hT2e
      obtain ⟨T1, hT1⟩ : ∃ T, pClimb leaf x ds k = T := ⟨_, rfl⟩
      rw [hT1] at hTl hiT hz1 q2 hT2e
      obtain ⟨T2, hT2⟩ : ∃ T, pClimb leaf x ds (k + 1) = T := ⟨_, rfl⟩
      rw [hT2] at hi1 ho1 hz1 hT2e hT2l
      obtain ⟨B, hB⟩ : ∃ B, x / 2 ^ k = B := ⟨_, rfl⟩
      have hBl : B < 4294967296 := by rw [← hB]; exact Nat.lt_of_le_of_lt (Nat.div_le_self _ _) (unhide Hx)
      have fB : (x : Int) / 2 ^ k = (B : Int) := by rw [← hB]; push_cast; rfl
      have fA := mand_one B hBl
      rw [hB] at hT2e
      have hk32 : k ≤ 31 := by have := unhide Hm32; omega
      have RM : Hid (∀ w', (∃ p : Regrown, w' = Sort.grow (redrawn wr p.d) p.os) → w'.rangeAt b (off + k * 32) (Lib.byteCells E)) := fun w' ⟨p, hp⟩ => by
        rw [hp]; exact rangeAt_below hr (below_regrown wr p.d p.os) (by have := hb.size; omega)
      have R2 : Hid (∀ w', (∃ p : Regrown, w' = Sort.grow (redrawn wr p.d) p.os) → w'.heap[N + 1 + 1]? = some (.cells (bc T1) 24 (0, 0))) := fun w' ⟨p, hp⟩ => by
        rw [hp]; exact Below.at (below_regrown wr p.d p.os) hz q2
      have HEl := hide hEl
      have HTl := hide hTl
      have HT2 := hide hT2
      have Q1 := hide q1
      have Q2 := hide q2
      have HB := hide hb
      have Hk := hide hlt
      have Hz := hide hz
      have TB := hide tb
      have HT2e := hide hT2e
      have b1 : (0 : Int) ≤ k ∧ (k : Int) < ds.length := by omega
      clear q1 q2 hb hlt hz tb hT2 hT2e hE hT1 hr hc hlt2 hkd hB hEl hTl hT2l hDk hBl
      by_cases hbit : B % 2 = 1
      · have e1 := unhide HT2e
        rw [if_pos hbit] at e1
        have kN : Hid (∀ dd os, Calls Tryd.prog 21 #[.pointer none, .agg (bc E), .agg (bc T1)] (Sort.grow (redrawn wr dd) os) fun e w'' => e = .returned (.agg (bc T2)) ∧ ∃ p : Regrown, w'' = Sort.grow (redrawn wr p.d) p.os) := fun dd os => by
          rw [e1]; exact Calls.regrown_of (node_calls E T1 (unhide HEl) (unhide HTl) _ ((unhide TB).below (below_regrown wr dd os) (Nat.le_refl _)))
        rw [hbit] at fA
        clear e1 HT2e hbit
        go_wp2_with fail
        refine wp_region_below_tail 7 mixed (by kernel_rfl) ?_
        simp only [List.take_succ_cons, List.take_zero, List.drop_succ_cons, List.drop_zero]
        quiet_step (fail)
        quiet_step (fail)
        quiet_step (fail)
        quiet_step (fail)
        refine wpQuiet_load_mid rfl 24 (.tmp 26) rfl b (off + k * 32) rfl (Lib.byteCells E) _ (unhide RM) Tryd.underlying24 rfl (by rw [Lib.byteCells_length, unhide HEl]; kernel_rfl) ?_
        refine wpQuiet_load_row rfl 24 (.tmp 9) rfl (N + 1 + 1) rfl 24 _ (0, 0) _ (unhide R2) Tryd.underlying24 rfl hiT ?_
        quiet_step (exact unhide kN _ _)
        refine wpQuiet_nil ?_
        intro w2 hb2
        have p1 := Below.at hb2 (by have := unhide Hz; omega) (unhide Q1)
        have p2 := Below.at hb2 (unhide Hz) (unhide Q2)
        have bb : Below N w w2 := (unhide HB).trans (hb2.mono (by have := unhide Hz; omega))
        have P1 := hide p1
        have P2 := hide p2
        have BB := hide bb
        clear p1 p2 bb hb2
        refine wpList_store_row rfl 24 (.tmp 9) (.tmp 29) rfl (N + 1 + 1) _ rfl rfl 24 _ (unhide P2) hi1 hz1 ho1 ?_
        go_wp2
        refine ⟨⟨k + 1, by have := unhide Hk; omega, by go_num, below_setRow (unhide BB) (by omega) _, ?_, ?_⟩, by have := unhide Hk; simp [intOf]; omega⟩
        · rw [setRow_other _ _ _ _ (by omega)]; exact unhide P1
        · rw [unhide HT2]; exact setRow_heap _ _ _ _ _ _ (unhide P2)
      · have e1 := unhide HT2e
        rw [if_neg hbit] at e1
        have kN : Hid (∀ dd os, Calls Tryd.prog 21 #[.pointer none, .agg (bc T1), .agg (bc E)] (Sort.grow (redrawn wr dd) os) fun e w'' => e = .returned (.agg (bc T2)) ∧ ∃ p : Regrown, w'' = Sort.grow (redrawn wr p.d) p.os) := fun dd os => by
          rw [e1]; exact Calls.regrown_of (node_calls T1 E (unhide HTl) (unhide HEl) _ ((unhide TB).below (below_regrown wr dd os) (Nat.le_refl _)))
        rw [show B % 2 = 0 by omega] at fA
        clear e1 HT2e hbit
        go_wp2_with fail
        refine wp_region_below_tail 7 mixed (by kernel_rfl) ?_
        simp only [List.take_succ_cons, List.take_zero, List.drop_succ_cons, List.drop_zero]
        quiet_step (fail)
        refine wpQuiet_load_row rfl 24 (.tmp 9) rfl (N + 1 + 1) rfl 24 _ (0, 0) _ (unhide R2) Tryd.underlying24 rfl hiT ?_
        quiet_step (fail)
        quiet_step (fail)
        quiet_step (fail)
        refine wpQuiet_load_mid rfl 24 (.tmp 34) rfl b (off + k * 32) rfl (Lib.byteCells E) _ (unhide RM) Tryd.underlying24 rfl (by rw [Lib.byteCells_length, unhide HEl]; kernel_rfl) ?_
        quiet_step (exact unhide kN _ _)
        refine wpQuiet_nil ?_
        intro w2 hb2
        have p1 := Below.at hb2 (by have := unhide Hz; omega) (unhide Q1)
        have p2 := Below.at hb2 (unhide Hz) (unhide Q2)
        have bb : Below N w w2 := (unhide HB).trans (hb2.mono (by have := unhide Hz; omega))
        have P1 := hide p1
        have P2 := hide p2
        have BB := hide bb
        clear p1 p2 bb hb2
        refine wpList_store_row rfl 24 (.tmp 9) (.tmp 36) rfl (N + 1 + 1) _ rfl rfl 24 _ (unhide P2) hi1 hz1 ho1 ?_
        go_wp2
        refine ⟨⟨k + 1, by have := unhide Hk; omega, by go_num, below_setRow (unhide BB) (by omega) _, ?_, ?_⟩, by have := unhide Hk; simp [intOf]; omega⟩
        · rw [setRow_other _ _ _ _ (by omega)]; exact unhide P1
        · rw [unhide HT2]; exact setRow_heap _ _ _ _ _ _ (unhide P2)
    · have hd : decide (k < M) = false := by simpa using hlt
      have hkl : k = M := by omega
      have hM1 := unhide HL M
      have hi := digInfo _ hM1
      have hz := zeroSize _ hM1
      have ho := bc_oneCell (pClimb leaf x ds M)
      rw [hkl] at q2
      have Q1 := hide q1
      have Q2 := hide q2
      have HB := hide hb
      clear q1 q2 hb hkl hlt hM1
      go_wp2_with (first
        | refine wpList_load_row rfl 24 (.tmp 9) rfl (N + 1 + 1) rfl 24 _ (0, 0) _ (unhide Q2) Tryd.underlying24 rfl hi ?_
        | refine wpList_store_row rfl 24 (.tmp 8) (.tmp 38) rfl (N + 1) _ rfl rfl 24 _ (unhide Q1) hi hz ho ?_)
      exact bodyPost_ret (results_cell_row rfl _ _ (N + 1) _ _ _ _ rfl (setRow_heap _ _ _ _ _ _ (unhide Q1)) Tryd.underlying24 rfl hi) rfl ⟨rfl, by rw [unhide HN]; exact below_setRow (unhide HB) (by omega) _⟩
end Go.Proofs.YtljgfpdajodfcaaDoor

namespace Go.Proofs.YtljgfpdajodfcaaDoor
open Go Go.RowKit

theorem mapM_some {α β : Type} (f : α → Option β) (g : α → β) (l : List α) (h : ∀ x ∈ l, f x = some (g x)) : l.mapM f = some (l.map g) := by
  induction l with
  | nil => rfl
  | cons x l ih =>
    rw [List.mapM_cons, h x (by simp), ih (fun y hy => h y (by simp [hy]))]; rfl

/-- The data of an array of integers. -/
theorem keyLits_ints {P : Program} (t e : TypeId) (n : Nat) (k : IntKind) (hu : P.underlying t = some (.array n e)) (he : P.underlying e = some (.int k)) (hce : P.cellsOf e = 1) (hct : P.cellsOf t = n)
    (zs : List Int) (hl : zs.length = n) (hw : ∀ z ∈ zs, (Lit.int k z).wf = true) : ∃ la, P.keyLits 2 t (zs.map (Value.int k)) = some la := by
  unfold Program.keyLits
  simp only [hu]
  rw [if_pos (by simp [hl, hct])]
  rw [mapM_some _ (fun i => [Lit.int k (zs.getD i 0)]) _ (fun i hi => ?_)]
  · exact ⟨_, rfl⟩
  · have hi' : i < zs.length := by rw [hl]; exact List.mem_range.1 hi
    rw [hce, Nat.mul_one, List.drop_eq_getElem_cons (by simpa using hi')]
    unfold Program.keyLits
    simp only [he]
    have hz : (Lit.int k zs[i]).wf = true := hw _ (List.getElem_mem _)
    simp [hz, hi']

theorem equalIn_refl {P : Program} (t : TypeId) (m D : Nat) (hm : m ≤ 10000) (hk : P.keyTypeAt m t = true) (cs : Array Value) (hf : (Value.agg cs).formed P t = true) (la : List Lit) (hla : P.keyLits D t cs.toList = some la) (w : World) :
    (Op.equalIn 10000 t (.agg cs) (.agg cs)).run P w = .ok true w := by
  obtain ⟨r, hr, hiff⟩ := run_equalIn_deep (P := P) (10000 - m) m t hk w D D (.agg cs) (.agg cs) la la hf hf hla hla
  rw [show 10000 - m + m = 10000 by omega] at hr
  obtain rfl : r = true := hiff.2 rfl
  exact hr
/-- A value of such a type equals itself. -/
theorem eql_refl {P : Program} (t : TypeId) (m D : Nat) (hm : m ≤ 10000) (hk : P.keyTypeAt m t = true) (cs : Array Value) (hf : (Value.agg cs).formed P t = true) (la : List Lit) (hla : P.keyLits D t cs.toList = some la) (w : World) :
    (binOp .eql t (.agg cs) (.agg cs)).run P w = .ok (.bool true) w := by
  obtain ⟨r, hr, hiff⟩ := run_equalIn_deep (P := P) (10000 - m) m t hk w D D (.agg cs) (.agg cs) la la hf hf hla hla
  rw [show 10000 - m + m = 10000 by omega] at hr
  obtain rfl : r = true := hiff.2 rfl
  rw [run_eql_struct, hr]; rfl

end Go.Proofs.YtljgfpdajodfcaaDoor

namespace Go.Proofs.YtljgfpdajodfcaaDoor
open Go Go.RowKit
set_option linter.unusedSimpArgs false
set_option linter.unusedVariables false

theorem keyLits_ints' {P : Program} (t e : TypeId) (n : Nat) (k : IntKind) (hu : P.underlying t = some (.array n e)) (he : P.underlying e = some (.int k)) (hce : P.cellsOf e = 1) (hct : P.cellsOf t = n)
    (zs : List Int) (hl : zs.length = n) (hw : ∀ z ∈ zs, (Lit.int k z).wf = true) : P.keyLits 2 t (zs.map (Value.int k)) = some (zs.map (Lit.int k)) := by
  unfold Program.keyLits
  simp only [hu]
  rw [if_pos (by simp [hl, hct])]
  rw [mapM_some _ (fun i => [Lit.int k (zs.getD i 0)]) _ (fun i hi => ?_)]
  · have e : ((List.range n).map fun i => [Lit.int k (zs.getD i 0)]).flatten = zs.map (Lit.int k) := by
      apply List.ext_getElem?
      intro i
      have e1 : ((List.range n).map fun i => [Lit.int k (zs.getD i 0)]).flatten = (List.range n).map fun i => Lit.int k (zs.getD i 0) := by
        induction (List.range n) with
        | nil => rfl
        | cons x l ih => rw [List.map_cons, List.flatten_cons, ih]; rfl
      rw [e1]
      by_cases hi : i < n
      · simp [hi, hl]
      · simp [hi, hl]
    show some _ = some _
    rw [← e]
  · have hi' : i < zs.length := by rw [hl]; exact List.mem_range.1 hi
    rw [hce, Nat.mul_one, List.drop_eq_getElem_cons (by simpa using hi')]
    unfold Program.keyLits
    simp only [he]
    have hz : (Lit.int k zs[i]).wf = true := hw _ (List.getElem_mem _)
    simp [hz, hi']
theorem dig_lits (d : List UInt8) (hd : d.length = 32) : Tryd.prog.keyLits 2 24 (bc d).toList = some ((d.map fun b => (b.toNat : Int)).map (Lit.int .u8)) := by
  have := keyLits_ints' (P := Tryd.prog) 24 5 32 .u8 Tryd.underlying24 Tryd.underlying5 (by kernel_rfl) (by kernel_rfl) (d.map fun b => (b.toNat : Int)) (by simpa using hd) (fun z hz => by
    obtain ⟨b, _, rfl⟩ := List.mem_map.1 hz
    have := b.toNat_lt
    simp [Lit.wf, IntKind.min, IntKind.max, IntKind.signed, IntKind.bits]; omega)
  rw [← this]; simp [bc, Lib.byteCells]; rfl
theorem dig_formed (d : List UInt8) (hd : d.length = 32) : (Value.agg (bc d)).formed Tryd.prog 24 = true := by
  simp only [Value.formed, Tryd.underlying24, bc_size, hd]; kernel_rfl
theorem lits_inj (a b : List UInt8) (h : (a.map fun b => (b.toNat : Int)).map (Lit.int .u8) = (b.map fun b => (b.toNat : Int)).map (Lit.int .u8)) : a = b := by
  rw [List.map_map, List.map_map] at h
  refine List.map_inj_right (f := fun b : UInt8 => Lit.int .u8 (b.toNat : Int)) (fun x y hxy => ?_) |>.1 h
  injection hxy with _ h2
  exact UInt8.toNat_inj.1 (by omega)
theorem dig_eq (a b : List UInt8) (ha : a.length = 32) (hb : b.length = 32) (w : World) : (binOp .eql 24 (.agg (bc a)) (.agg (bc b))).run Tryd.prog w = .ok (.bool (decide (a = b))) w := by
  obtain ⟨r, hr, hiff⟩ := run_equalIn_deep (P := Tryd.prog) (10000 - 2) 2 24 (by kernel_rfl) w 2 2 (.agg (bc a)) (.agg (bc b)) _ _ (dig_formed a ha) (dig_formed b hb) (dig_lits a ha) (dig_lits b hb)
  rw [show 10000 - 2 + 2 = 10000 by omega] at hr
  have : r = decide (a = b) := by
    by_cases h : a = b
    · rw [decide_eq_true h]; exact hiff.2 (by rw [h])
    · rw [decide_eq_false h]
      cases r with
      | false => rfl
      | true => exact absurd (lits_inj a b (hiff.1 rfl)) h
  rw [run_eql_struct, hr, this]; rfl
end Go.Proofs.YtljgfpdajodfcaaDoor

namespace Go.Proofs.YtljgfpdajodfcaaDoor
open Go Go.RowKit
set_option linter.unusedSimpArgs false
set_option linter.unusedVariables false

def pProves (root leaf : List UInt8) (x : Nat) (ds : List (List UInt8)) : Bool := decide (ds.length = 32) && decide (pClimb leaf x ds 32 = root)
set_option maxHeartbeats 1000000 in
set_option maxRecDepth 100000 in
theorem proves_calls (root leaf : List UInt8) (hr : root.length = 32) (hl : leaf.length = 32) (x : Nat) (hx : x < 4294967296) (ds : List (List UInt8)) (p : Option Addr) (cap : Nat) (hlen : ds.length ≤ 1000000000) (w : World) (hD : DL w p ds) (tabs : Tabs w) :
    Calls Tryd.prog 7 #[.pointer none, .agg (bc root), .agg (bc leaf), .int .u32 (x : Int), .slice p ds.length cap] w fun e w' => e = .returned (.bool (pProves root leaf x ds)) ∧ Below w.heap.size w w' := by
  have A2 := al2 w (.cells (bc root) 24) (.cells (bc leaf) 24)
  have B2 := hide (bel2 w (.cells (bc root) 24) (.cells (bc leaf) 24))
  have S2 : Hid (((w.alloc (.cells (bc root) 24)).alloc (.cells (bc leaf) 24)).heap.size = w.heap.size + 1 + 1) := hide (by simp)
  have hir := digInfo root hr
  have hil := digInfo leaf hl
  obtain ⟨X, hX⟩ : ∃ X, (w.alloc (.cells (bc root) 24)).alloc (.cells (bc leaf) 24) = X := ⟨_, rfl⟩
  rw [hX] at A2 B2 S2
  have dX := hD.below (unhide B2) (Nat.le_refl _)
  have tX := tabs.below (unhide B2) (Nat.le_refl _)
  have s2 := unhide S2
  have R0 : Hid (∀ w', (∃ p : Regrown, w' = Sort.grow (redrawn X p.d) p.os) → w'.heap[w.heap.size]? = some (.cells (bc root) 24 (0, 0))) := fun w' ⟨p, hp⟩ => by
    rw [hp]; exact Below.at (below_regrown X p.d p.os) (by omega) A2.1
  have R1 : Hid (∀ w', (∃ p : Regrown, w' = Sort.grow (redrawn X p.d) p.os) → w'.heap[w.heap.size + 1]? = some (.cells (bc leaf) 24 (0, 0))) := fun w' ⟨p, hp⟩ => by
    rw [hp]; exact Below.at (below_regrown X p.d p.os) (by omega) A2.2
  have kC : Hid (∀ dd os, Calls Tryd.prog 16 #[.pointer none, .agg (bc leaf), .int .u32 (x : Int), .slice p ds.length cap] (Sort.grow (redrawn X dd) os) fun e w'' => e = .returned (.agg (bc (pClimb leaf x ds (min ds.length 32)))) ∧ ∃ p : Regrown, w'' = Sort.grow (redrawn X p.d) p.os) := fun dd os =>
    Calls.regrown_of (climb_calls leaf hl x hx ds p cap hlen _ (dX.below (below_regrown X dd os) (Nat.le_refl _)) (tX.below (below_regrown X dd os) (Nat.le_refl _)))
  have HX := hide hX
  unfold pProves
  go_enter Tryd.func7, Tryd.ntmps7
  by_cases h32 : ds.length = 32
  · have he := hide (dig_eq (pClimb leaf x ds 32) root (pClimb_length leaf x ds hl 32) hr)
    rw [show min ds.length 32 = 32 by omega] at kC
    rw [decide_eq_true h32, Bool.true_and]
    have m1 : ((ds.length : Int) == 32) = true := by simp; omega
    generalize decide (pClimb leaf x ds 32 = root) = E at *
    generalize pClimb leaf x ds 32 = T at *
    clear A2 s2 dX tX hX hD tabs h32
    go_wp2_with fail
    rw [unhide HX]
    refine wp_region_below mixed (by kernel_rfl) ?_
    quiet_step (fail)
    quiet_step (fail)
    quiet_step (fail)
    quiet_step (fail)
    quiet_step (fail)
    refine wpQuiet_load_row rfl 24 (.tmp 7) rfl (w.heap.size + 1) rfl 24 _ (0, 0) _ (unhide R1) Tryd.underlying24 rfl hil ?_
    quiet_step (fail)
    quiet_step (fail)
    quiet_step (exact unhide kC _ _)
    refine wpQuiet_load_row rfl 24 (.tmp 6) rfl w.heap.size rfl 24 _ (0, 0) _ (unhide R0) Tryd.underlying24 rfl hir ?_
    refine wpQuiet_eql rfl 24 24 (.tmp 19) (.tmp 20) rfl _ _ rfl rfl (by kernel_rfl) _ (unhide he) ?_
    repeat (quiet_step (fail))
    refine wpQuiet_nil ?_
    intro w3 hb3
    go_wp2
    go_ret
    exact ⟨rfl, (unhide B2).trans (hb3.mono (by have := unhide S2; omega))⟩
  · rw [decide_eq_false h32, Bool.false_and]
    have m1 : ((ds.length : Int) == 32) = false := by simp; omega
    clear A2 s2 dX tX hX hD tabs h32
    go_wp2_with fail
    rw [unhide HX]
    refine wp_region_below mixed (by kernel_rfl) ?_
    quiet_step (fail)
    quiet_step (fail)
    quiet_step (fail)
    quiet_step (fail)
    repeat (go_big_quiet_step (fail))
    refine wpQuiet_nil ?_
    intro w3 hb3
    go_wp2
    go_ret
    exact ⟨rfl, (unhide B2).trans (hb3.mono (by have := unhide S2; omega))⟩
end Go.Proofs.YtljgfpdajodfcaaDoor

namespace Go.Proofs.YtljgfpdajodfcaaDoor
open Go.RowKit
set_option linter.unusedSimpArgs false
set_option linter.unusedVariables false

theorem repl_getD (n j : Nat) (h : j < n) : (List.replicate n (0 : UInt8)).getD j 0 = 0 := by
  rw [List.getD_eq_getElem?_getD, List.getElem?_replicate, if_pos h]; rfl
/-- A new list of digests, all noughts. -/
theorem make_digests (n : Nat) (h : n ≤ 4294967296) (w : World) : (Instr.makeSlice 22 (.int .i64 (n : Int)) (.int .i64 (n : Int))).run Tryd.prog w = .ok (.slice (some ⟨w.heap.size, 0, none⟩) n n) (w.alloc (.cells (bc (List.replicate (32 * n) 0)) 24)) := by
  obtain ⟨i, hi⟩ : ∃ i, Tryd.prog.info? 24 = some i := by
    cases hq : Tryd.prog.info? 24 with
    | none => exact absurd hq (by rw [show Tryd.prog.info? 24 = some ((Tryd.prog.info? 24).getD default) by kernel_rfl]; simp)
    | some i => exact ⟨i, rfl⟩
  have e : (Tryd.prog.info? 24).map (fun i => (i.zero, i.size, i.bytes)) = some (some (.agg (bc (List.replicate 32 0))), 32, 32) := by kernel_rfl
  rw [hi] at e
  simp only [Option.map_some, Option.some.injEq, Prod.mk.injEq] at e
  obtain ⟨e1, e2, e3⟩ := e
  have := run_make (P := Tryd.prog) w 22 24 i (.agg (bc (List.replicate 32 0))) Tryd.underlying22 hi e1 .i64 .i64 n n (by omega) (by omega) (by rw [e3]; omega) (by omega)
  rw [this, e2]
  simp only [Int.toNat_natCast]
  rw [show (Value.agg (bc (List.replicate 32 0))).cells = bc (List.replicate 32 0) from rfl]
  have em : madeCells (bc (List.replicate 32 0)) (n * 32) = bc (List.replicate (32 * n) 0) := by
    apply Array.ext
    · simp [size_madeCells]; omega
    · intro j h1 h2
      have hz : ∀ r, r < 32 → (bc (List.replicate 32 0))[r]! = Value.int .u8 0 := fun r hr => by
        have hb := bc_at (List.replicate 32 0) r (by simpa using hr)
        rw [getElem!_def, hb, repl_getD 32 r hr]; rfl
      have h2' : j < 32 * n := by simpa using h2
      have hb2 := bc_at (List.replicate (32 * n) 0) j (by simpa using h2')
      have e2 : (bc (List.replicate (32 * n) 0))[j] = Value.int .u8 0 := by
        rw [Array.getElem?_eq_getElem h2] at hb2
        rw [Option.some.inj hb2, repl_getD (32 * n) j h2']; rfl
      rw [e2]
      simp only [madeCells, Array.getElem_map, Array.getElem_range]
      exact hz _ (by rw [bc_size, List.length_replicate]; omega)
  rw [em]

end Go.Proofs.YtljgfpdajodfcaaDoor

namespace Go.Proofs.YtljgfpdajodfcaaDoor
open Go Go.RowKit
set_option linter.unusedSimpArgs false
set_option linter.unusedVariables false

def aboveAt (ds : List (List UInt8)) (z : List UInt8) (i : Nat) : List UInt8 := pNode (ds.getD (2 * i) []) (pStand ds (2 * i + 1) z)
def pAbove (ds : List (List UInt8)) (z : List UInt8) : List (List UInt8) := (List.range ((ds.length + 1) / 2)).map (aboveAt ds z)
theorem aboveAt_length (ds : List (List UInt8)) (z : List UInt8) (i : Nat) : (aboveAt ds z i).length = 32 := pNode_length _ _
theorem pAbove_length (ds : List (List UInt8)) (z : List UInt8) : (pAbove ds z).length = (ds.length + 1) / 2 := by simp [pAbove]
theorem pAbove_at (ds : List (List UInt8)) (z : List UInt8) (i : Nat) (h : i < (ds.length + 1) / 2) : (pAbove ds z).getD i [] = aboveAt ds z i := by simp [pAbove, h]
theorem flat_len32 (f : Nat → List UInt8) (hf : ∀ j, (f j).length = 32) (k : Nat) : ((List.range k).flatMap f).length = 32 * k := by
  induction k with
  | zero => rfl
  | succ k ih => rw [List.range_succ, List.flatMap_append, List.length_append, ih]; simp [hf]; omega
theorem flat_at32 (f : Nat → List UInt8) (hf : ∀ j, (f j).length = 32) : ∀ k i, i < k → (((List.range k).flatMap f).drop (i * 32)).take 32 = f i
  | 0, i, h => by omega
  | k + 1, i, h => by
    rw [List.range_succ, List.flatMap_append]
    have hl := flat_len32 f hf k
    by_cases hik : i < k
    · rw [List.drop_append_of_le_length (by omega), List.take_append_of_le_length (by rw [List.length_drop]; omega)]
      exact flat_at32 f hf k i hik
    · obtain rfl : i = k := by omega
      rw [List.drop_append, List.drop_of_length_le (by omega), hl, show i * 32 - 32 * i = 0 by omega]
      simp [hf]
      exact List.take_of_length_le (by rw [hf]; exact Nat.le_refl _)
theorem DL.other {w w' : World} {p : Option Addr} {ds : List (List UInt8)} (h : DL w p ds) (hs : w'.heap.size = w.heap.size) (hk : ds ≠ [] → ∀ b off, p = some ⟨b, off, none⟩ → w'.heap[b]? = w.heap[b]?) : DL w' p ds := by
  refine ⟨h.1, fun hn => ?_⟩
  obtain ⟨b, off, rfl, hlt, hc⟩ := h.2 hn
  refine ⟨b, off, rfl, by omega, fun i hi j v hv => ?_⟩
  rw [← hc i hi j v hv]
  exact World.cell?_of_block (w := w) (hk hn b off rfl)
/-- The list lies in no block from N to N + 1. -/
def Far2 (N : Nat) (p : Option Addr) (ds : List (List UInt8)) : Prop := ds ≠ [] → ∀ b off, p = some ⟨b, off, none⟩ → b < N ∨ N + 1 < b
theorem far2_of {w : World} {p : Option Addr} {ds : List (List UInt8)} (h : DL w p ds) {N : Nat} (hN : w.heap.size ≤ N) : Far2 N p ds := fun hn b off e => by
  obtain ⟨b', off', e', hlt, _⟩ := h.2 hn
  rw [e'] at e
  simp at e
  omega
/-- A block of digests, as a list of them. -/
theorem DL_of_flat {w : World} {g : Nat} {t : TypeId} (f : Nat → List UInt8) (hf : ∀ j, (f j).length = 32) (m : Nat) (hg : w.heap[g]? = some (.cells (bc ((List.range m).flatMap f)) t (0, 0))) : DL w (some ⟨g, 0, none⟩) ((List.range m).map f) := by
  refine ⟨fun d hd => ?_, fun hn => ⟨g, 0, rfl, (Array.getElem?_eq_some_iff.1 hg).1, fun i hi => ?_⟩⟩
  · obtain ⟨j, _, rfl⟩ := List.mem_map.1 hd; exact hf j
  · have hi' : i < m := by simpa using hi
    have := bc_range w g (0 + i * 32) 32 _ t hg
    rw [Nat.zero_add] at this ⊢
    rw [flat_at32 f hf m i hi'] at this
    simpa [hi'] using this
set_option maxHeartbeats 4000000 in
set_option maxRecDepth 100000 in
theorem above_calls (ds : List (List UInt8)) (p : Option Addr) (cap : Nat) (z : List UInt8) (hz : z.length = 32) (hlen : ds.length ≤ 100000000) (w : World) (hD : DL w p ds) (tabs : Tabs w) :
    Calls Tryd.prog 20 #[.pointer none, .slice p ds.length cap, .agg (bc z)] w fun e w' => (∃ g c, e = .returned (.slice (some ⟨g, 0, none⟩) (pAbove ds z).length c) ∧ (pAbove ds z).length ≤ c ∧ w.heap.size ≤ g ∧ DL w' (some ⟨g, 0, none⟩) (pAbove ds z)) ∧ Below w.heap.size w w' := by
  obtain ⟨m, hm⟩ : ∃ m, (ds.length + 1) / 2 = m := ⟨_, rfl⟩
  have hmi : ((ds.length : Int) + 1) / 2 = (m : Int) := by omega
  have hmt : ((ds.length : Int) + 1).tdiv 2 = (m : Int) := by rw [Int.tdiv_eq_ediv_of_nonneg (by omega)]; exact hmi
  have mk := make_digests m (by omega)
  have A2 := hide (al2 w (.cells (bc z) 24) (.cells (bc (List.replicate (32 * m) 0)) 24))
  have B2 := hide (bel2 w (.cells (bc z) 24) (.cells (bc (List.replicate (32 * m) 0)) 24))
  have hiz := digInfo z hz
  have HD := hide hD
  have HT := hide tabs
  have Hz := hide hz
  have Hm := hide hm
  have Hlen := hide hlen
  rw [pAbove_length, hm]
  clear hD tabs hz hm
  obtain ⟨F, hF⟩ : ∃ F, aboveAt ds z = F := ⟨_, rfl⟩
  have HFl : Hid (∀ j, (F j).length = 32) := hide (by rw [← hF]; exact aboveAt_length ds z)
  have HF := hide hF
  have hpa : Hid (pAbove ds z = (List.range m).map F) := hide (by unfold pAbove; rw [unhide Hm, hF])
  rw [unhide hpa]
  clear hF
  go_enter Tryd.func20, Tryd.ntmps20
  go_wp2
  obtain ⟨N, hN⟩ : ∃ N, w.heap.size = N := ⟨_, rfl⟩
  have HN := hide hN
  go_loopw [16] (fun i wr => ∃ k : Nat, k ≤ m ∧ i = .int .i64 (k : Int) ∧ Below N w wr ∧ wr.heap[N]? = some (.cells (bc z) 24 (0, 0)) ∧ wr.heap[N + 1]? = some (.cells (bc ((List.range k).flatMap F ++ List.replicate (32 * (m - k)) 0)) 24 (0, 0))) (fun i _ => m - (intOf i).toNat)
  case atStart =>
    subst hN
    refine ⟨0, by omega, rfl, unhide B2, (unhide A2).1, ?_⟩
    simpa using (unhide A2).2
  case round =>
    obtain ⟨k, hk, rfl, hb, q0, q1⟩ := hrel
    rw [hN]
    clear A2 B2 mk hmi hmt
    by_cases hlt : k < m
    · have hd : decide (k < m) = true := by simpa using hlt
      have hmm := unhide Hm
      have hj : 2 * k < ds.length := by omega
      have hDk := (unhide HD).below hb (by rw [← hN]; exact Nat.le_refl _)
      have hD0 := unhide HD
      obtain ⟨b, off, rfl, hlt2, hc⟩ := hD0.2 (by intro h; rw [h] at hj; simp at hj)
      have hr := rangeAt_below (hc _ hj) hb (by rw [← hN]; exact hlt2)
      have hEl := hD0.len _ hj
      have tb := (unhide HT).below hb (by rw [← hN]; exact Nat.le_refl _)
      have hz1 : N + 1 < wr.heap.size := (Array.getElem?_eq_some_iff.1 q1).1
      have hFk : F k = pNode (ds.getD (2 * k) []) (pStand ds (2 * k + 1) z) := by rw [← unhide HF]; rfl
      have hSl := pStand_length hD0.1 (2 * k + 1) z (unhide Hz)
      obtain ⟨j, hjj⟩ : ∃ j, 2 * k = j := ⟨_, rfl⟩
      have ej : (2 : Int) * (k : Int) = (j : Int) := by omega
      rw [hjj] at hr hEl hFk hSl
      have kS : Hid (∀ dd os, Calls Tryd.prog 19 #[.slice (some ⟨b, off, none⟩) ds.length cap, .int .i64 ((j : Int) + 1), .agg (bc z)] (Sort.grow (redrawn wr dd) os) fun e w'' => e = .returned (.agg (bc (pStand ds (j + 1) z))) ∧ ∃ p : Regrown, w'' = Sort.grow (redrawn wr p.d) p.os) := fun dd os => by
        have := standing_calls ds (some ⟨b, off, none⟩) cap (j + 1) z (unhide Hz) (by have := unhide Hlen; omega) (Sort.grow (redrawn wr dd) os) (hDk.below (below_regrown wr dd os) (Nat.le_refl _))
        rw [show ((j + 1 : Nat) : Int) = (j : Int) + 1 by omega] at this
        exact Calls.regrown_of this
      obtain ⟨S, hS⟩ : ∃ S, pStand ds (j + 1) z = S := ⟨_, rfl⟩
      obtain ⟨E, hE⟩ : ∃ E, ds.getD j [] = E := ⟨_, rfl⟩
      rw [hS] at kS hSl hFk
      rw [hE] at hr hEl hFk
      have kN : Hid (∀ dd os, Calls Tryd.prog 21 #[.pointer none, .agg (bc E), .agg (bc S)] (Sort.grow (redrawn wr dd) os) fun e w'' => e = .returned (.agg (bc (F k))) ∧ ∃ p : Regrown, w'' = Sort.grow (redrawn wr p.d) p.os) := fun dd os => by
        rw [hFk]; exact Calls.regrown_of (node_calls E S hEl hSl _ (tb.below (below_regrown wr dd os) (Nat.le_refl _)))
      have RM : Hid (∀ w', (∃ p : Regrown, w' = Sort.grow (redrawn wr p.d) p.os) → w'.rangeAt b (off + j * 32) (Lib.byteCells E)) := fun w' ⟨p, hp⟩ => by
        rw [hp]; exact rangeAt_below hr (below_regrown wr p.d p.os) (by have := hb.size; omega)
      have R0 : Hid (∀ w', (∃ p : Regrown, w' = Sort.grow (redrawn wr p.d) p.os) → w'.heap[N]? = some (.cells (bc z) 24 (0, 0))) := fun w' ⟨p, hp⟩ => by
        rw [hp]; exact Below.at (below_regrown wr p.d p.os) (by omega) q0
      have hput : Hid (putAt ((List.range k).flatMap F ++ List.replicate (32 * (m - k)) 0) (k * 32) (F k) = (List.range (k + 1)).flatMap F ++ List.replicate (32 * (m - (k + 1))) 0) := by
        rw [putAt_zeros _ _ _ _ (by rw [flat_len32 F (unhide HFl)]; omega) (by rw [unhide HFl]; omega), unhide HFl, List.range_succ, List.flatMap_append]
        rw [show 32 * (m - k) - 32 = 32 * (m - (k + 1)) by omega]
        exact hide (by simp)
      have hll : Hid (k * 32 + (F k).length ≤ ((List.range k).flatMap F ++ List.replicate (32 * (m - k)) 0).length) := hide (by rw [List.length_append, flat_len32 F (unhide HFl), List.length_replicate, unhide HFl]; omega)
      have hiF := digInfo (F k) (unhide HFl k)
      have HEl := hide hEl
      have Q0 := hide q0
      have Q1 := hide q1
      have HB := hide hb
      have Hk := hide hlt
      have Hz1 := hide hz1
      have b1 : (0 : Int) ≤ j ∧ (j : Int) < ds.length := by omega
      have b2 : (0 : Int) ≤ k ∧ (k : Int) < m := by omega
      have wj : IntKind.i64.wrap (j : Int) = (j : Int) := wi64 _ (by omega) (by have := unhide Hlen; omega)
      have wj1 : IntKind.i64.wrap ((j : Int) + 1) = (j : Int) + 1 := wi64 _ (by omega) (by have := unhide Hlen; omega)
      generalize F k = FK at *
      clear q0 q1 hb hlt hz1 tb hFk hS hE hr hc hlt2 hD0 hDk hEl hSl hjj hj hmm
      go_wp2_with fail
      refine wp_region_below_tail 16 mixed (by kernel_rfl) ?_
      simp only [List.take_succ_cons, List.take_zero, List.drop_succ_cons, List.drop_zero]
      quiet_step (fail)
      quiet_step (fail)
      quiet_step (fail)
      quiet_step (fail)
      quiet_step (fail)
      quiet_step (fail)
      quiet_step (fail)
      refine wpQuiet_load_mid rfl 24 (.tmp 25) rfl b (off + j * 32) rfl (Lib.byteCells E) _ (unhide RM) Tryd.underlying24 rfl (by rw [Lib.byteCells_length, unhide HEl]; kernel_rfl) ?_
      quiet_step (fail)
      quiet_step (fail)
      quiet_step (fail)
      quiet_step (fail)
      refine wpQuiet_load_row rfl 24 (.tmp 5) rfl N rfl 24 _ (0, 0) _ (unhide R0) Tryd.underlying24 rfl hiz ?_
      quiet_step (exact unhide kS _ _)
      quiet_step (exact unhide kN _ _)
      quiet_step (fail)
      refine wpQuiet_nil ?_
      intro w2 hb2
      have p0 := Below.at hb2 (by have := unhide Hz1; omega) (unhide Q0)
      have p1 := Below.at hb2 (unhide Hz1) (unhide Q1)
      have bb : Below N w w2 := (unhide HB).trans (hb2.mono (by have := unhide Hz1; omega))
      have P0 := hide p0
      have P1 := hide p1
      have BB := hide bb
      clear p0 p1 bb hb2
      refine wpList_store_at rfl 24 (.tmp 34) (.tmp 33) rfl (N + 1) (k * 32) _ FK 24 (by first | rfl | (simp; done)) rfl (unhide P1) (unhide hll) hiF ?_
      intro w3 r1 r2 r3 r4
      rw [unhide hput] at r1
      have P3 := hide r1
      have P4 := hide ((r2 N (by omega)).trans (unhide P0))
      have B3 := hide ((unhide BB).trans (r4 N (by omega)))
      clear r1 r2 r3 r4
      go_wp2
      exact ⟨⟨k + 1, by have := unhide Hk; omega, by go_num, unhide B3, unhide P4, unhide P3⟩, by have := unhide Hk; simp [intOf]; omega⟩
    · have hd : decide (k < m) = false := by simpa using hlt
      have hkl : k = m := by omega
      rw [hkl, Nat.sub_self, Nat.mul_zero, List.replicate_zero, List.append_nil] at q1
      have Q1 := hide q1
      have HB := hide hb
      clear q0 q1 hb hkl hlt
      go_wp2
      go_ret
      refine ⟨⟨N + 1, m, rfl, Nat.le_refl _, by rw [unhide HN]; omega, DL_of_flat F (unhide HFl) m (unhide Q1)⟩, by rw [unhide HN]; exact unhide HB⟩
end Go.Proofs.YtljgfpdajodfcaaDoor

namespace Go.Proofs.YtljgfpdajodfcaaDoor
open Go Go.RowKit
set_option linter.unusedSimpArgs false
set_option linter.unusedVariables false

theorem fill_one {s : Nat} (hs : 0 < s) (cs cells : Array Value) (hc : cs.size = s) (hz : cells.size = s) : Instr.fill (fun i => some (i * s, s)) cells [(0, .agg cs)] = some cs := by
  obtain ⟨r, hr, hsz, hk⟩ := Great.fill_dense hs [.agg cs] 0 cells (by simp [Value.cells, hc]) (by simp [hz])
  have e : r = cs := by
    apply Array.ext_getElem?
    intro k
    rw [hk k]
    by_cases h : k < s
    · rw [if_pos (by simp; omega)]
      simp [Nat.div_eq_of_lt h, Nat.mod_eq_of_lt h, Value.cells]
    · rw [if_neg (by simp; omega), Array.getElem?_eq_none (by omega), Array.getElem?_eq_none (by omega)]
  rw [e] at hr
  exact hr
theorem rowInfo {P : Program} {e : TypeId} {s b : Nat} (hi : (P.info? e).map (fun i => (i.size, i.bytes, i.zero.map (·.cells.size))) = some (s, b, some s)) : ∃ i z, P.info? e = some i ∧ i.zero = some z ∧ i.size = s ∧ i.bytes = b ∧ z.cells.size = s := by
  cases hq : P.info? e with
  | none => rw [hq] at hi; cases hi
  | some i =>
    rw [hq] at hi
    simp only [Option.map_some, Option.some.injEq, Prod.mk.injEq] at hi
    obtain ⟨h1, h2, h3⟩ := hi
    cases hz : i.zero with
    | none => rw [hz] at h3; cases h3
    | some z =>
      rw [hz] at h3
      simp only [Option.map_some, Option.some.injEq] at h3
      exact ⟨i, z, rfl, hz, h1, h2, h3⟩
theorem wpList_build_one {P : Program} {ops : Array Oper} {rest : List Oper} {o : Oper} {a : Act} {w : World} {Q : Exit → Act → World → Prop} (hg : o.guard = none) (t e : TypeId) (x : Operand) (ho : o.op = .buildSlice t 1 #[(0, x)]) (s b : Nat) (hs : 0 < s) (hs2 : s ≤ 1000)
    (cs : Array Value) (hx : a.eval x = .agg cs) (hc : cs.size = s) (hu : P.underlying t = some (.slice e)) (hi : (P.info? e).map (fun i => (i.size, i.bytes, i.zero.map (·.cells.size))) = some (s, b, some s))
    (h : wpList P ops Q rest (a.put o.dst (.slice (some ⟨w.heap.size, 0, none⟩) 1 1)) (w.alloc (.cells cs e))) : wpList P ops Q (o :: rest) a w := by
  obtain ⟨i, z, hie, hz, h1, h2, h3⟩ := rowInfo hi
  refine wpList_buildSlice hg t e 1 #[(0, x)] ho cs i z hu hie hz (by rw [h1]; omega) (by rw [h1]; omega) ?_ h
  rw [h1, show (#[(0, x)].map fun (p : Nat × Operand) => (p.1, a.eval p.2)).toList = [(0, .agg cs)] by simp [hx]]
  exact fill_one hs cs _ hc (by simp)
theorem wpList_append_one {P : Program} {ops : Array Oper} {rest : List Oper} {o : Oper} {a : Act} {Q : Exit → Act → World → Prop} (hgd : o.guard = none) (t e : TypeId) (sx x : Operand)
    (ho : o.op = .call { callee := .builtin .append, args := #[sx, x], argTypes := #[t, t] }) (s b : Nat) (hs : 0 < s) (hb2 : b ≤ 100000) (hu : P.underlying t = some (.slice e)) (hi : (P.info? e).map (fun i => (i.size, i.bytes, i.zero.map (·.cells.size))) = some (s, b, some s))
    (B : Nat) (v : Value) (n : Nat) (xs : List Value) (hv : a.eval sx = v) (wr : World) (hown : wr.ownsRow B e s v n xs) (hB : B ≤ wr.heap.size) (cs : Array Value) (hc : cs.size = s) (h1 : cs.all (·.oneCell') = true)
    (hx : a.eval x = .slice (some ⟨wr.heap.size, 0, none⟩) 1 1) (hlen : n + 1 ≤ 1048576)
    (h : ∀ v' w', w'.ownsRow B e s v' (n + 1) (xs ++ cs.toList) → Below B wr w' → (∀ k, k < wr.heap.size → some k ≠ v.ownBlock → w'.heap[k]? = wr.heap[k]?) → wpList P ops Q rest (a.put o.dst v') w') : wpList P ops Q (o :: rest) a (wr.alloc (.cells cs e)) := by
  obtain ⟨i, z, hie, hz, e1, e2, e3⟩ := rowInfo hi
  refine wpList_append_own _ hgd sx x t ho B e i z s b hu hie hz e1 e2 e3 hs v n xs hv (hown.alloc _) ⟨wr.heap.size, 0, none⟩ 1 1 cs.toList hx (by simp [hc]) ?_ ?_ (by unfold maxLen; omega) ?_ (by rw [World.size_alloc]; omega) ?_
  · intro j u hj
    rw [show (⟨wr.heap.size, 0, none⟩ : Addr).add j = ⟨wr.heap.size, j, none⟩ by unfold Addr.add; split <;> simp_all, cell_of_row _ _ _ _ _ _ (al1 wr (.cells cs e))]
    rw [← Array.getElem?_toList]; exact hj
  · intro u hu'
    exact Array.all_eq_true_iff_forall_mem.1 h1 u (Array.mem_toList_iff.1 hu')
  · exact Nat.le_trans (Nat.mul_le_mul hlen hb2) (by decide)
  · intro v' w' ho' hg _
    have kept : ∀ k, k < wr.heap.size → some k ≠ v.ownBlock → w'.heap[k]? = wr.heap[k]? := fun k hk hn => (hg.block k (by rw [World.size_alloc]; omega) hn).trans (Below.heap_alloc wr _ k hk)
    refine h v' w' ho' ?_ kept
    have hA := (Below.refl B wr).alloc hB (.cells cs e)
    refine hA.trans ⟨hg.os, hg.tape, hg.output, hg.size, fun k hk => hg.block k (by rw [World.size_alloc]; omega) ?_⟩
    intro hc'
    have := (hown.lt k hc'.symm).1
    omega
end Go.Proofs.YtljgfpdajodfcaaDoor

namespace Go.Proofs.YtljgfpdajodfcaaDoor
open Go Go.RowKit
set_option linter.unusedSimpArgs false
set_option linter.unusedVariables false

theorem rnode2_calls (a b : List UInt8) (ha : a.length = 32) (hb : b.length = 32) (w : World) :
    Calls Tryd.prog 18 #[.pointer none, .int .u8 6, .agg (bc a), .agg (bc b)] w fun e w' => e = .returned (.agg (bc (pNode a b))) ∧ Below w.heap.size w w' :=
  rtwo_calls 6 (by decide) a b ha hb w
/-- A row of digests that the call owns, as a list of them. -/
theorem owns_keep {B C : Nat} {w w' : World} {t : TypeId} {s n : Nat} {v : Value} {xs : List Value} (h : w.ownsRow B t s v n xs) (hk : ∀ k, B ≤ k → k < w.heap.size → w'.heap[k]? = w.heap[k]?) (hC : C ≤ B) : w'.ownsRow C t s v n xs := by
  obtain ⟨h1, h2⟩ := h
  refine ⟨h1, ?_⟩
  rcases h2 with h2 | ⟨g, cap, cur, rfl, hB, hg, hc, hm, hs, ht⟩
  · exact .inl h2
  · exact .inr ⟨g, cap, cur, rfl, by omega, (hk g hB (Array.getElem?_eq_some_iff.1 hg).1).trans hg, hc, hm, hs, ht⟩
theorem DL_of_owns {B : Nat} {w : World} {t : TypeId} {v : Value} {n : Nat} (f : Nat → List UInt8) (hf : ∀ j, (f j).length = 32) (h : w.ownsRow B t 32 v n (Lib.byteCells ((List.range n).flatMap f))) : ∃ p c, v = .slice p n c ∧ n ≤ c ∧ DL w p ((List.range n).map f) := by
  obtain ⟨h1, h2⟩ := h
  rcases h2 with ⟨rfl, rfl⟩ | ⟨g, cap, cur, rfl, hB, hg, hc, hm, hs, ht⟩
  · exact ⟨none, 0, rfl, Nat.le_refl _, ⟨fun d hd => by simp at hd, fun hn => absurd rfl hn⟩⟩
  · refine ⟨_, cap, rfl, hc, ⟨fun d hd => ?_, fun hn => ⟨g, 0, rfl, (Array.getElem?_eq_some_iff.1 hg).1, fun i hi => ?_⟩⟩⟩
    · obtain ⟨j, _, rfl⟩ := List.mem_map.1 hd; exact hf j
    · have hi' : i < n := by simpa using hi
      intro j v hv
      rw [cell_of_row _ _ _ _ _ _ hg]
      have hj : j < 32 := by
        have := (List.getElem?_eq_some_iff.1 hv).1
        rw [Lib.byteCells_length] at this
        simpa [hi', hf] using this
      have e1 : cur[0 + i * 32 + j]? = (cur.toList.take (n * 32))[i * 32 + j]? := by
        rw [List.getElem?_take, if_pos (by omega), Array.getElem?_toList, Nat.zero_add]
      rw [e1, ht]
      have e2 := flat_at32 f hf n i hi'
      have e3 : ((List.range n).map f).getD i [] = f i := by simp [hi']
      rw [e3, ← e2] at hv
      rw [← hv]
      unfold Lib.byteCells
      rw [List.getElem?_map, List.getElem?_map, List.getElem?_take, if_pos hj, List.getElem?_drop]
theorem digRowInfo' : (Tryd.prog.info? 24).map (fun i => (i.size, i.bytes, i.zero.map (·.cells.size))) = some (32, 32, some 32) := by kernel_rfl
theorem flat_snoc (f : Nat → List UInt8) (k : Nat) : Lib.byteCells ((List.range (k + 1)).flatMap f) = Lib.byteCells ((List.range k).flatMap f) ++ (bc (f k)).toList := by
  rw [List.range_succ, List.flatMap_append]
  simp [Lib.byteCells, bc]
set_option maxHeartbeats 2000000 in
set_option maxRecDepth 100000 in
theorem rnoughts_calls (w : World) :
    Calls Tryd.prog 14 #[.pointer none] w fun e w' => (∃ p c, e = .returned (.slice p 33 c) ∧ 33 ≤ c ∧ DL w' p ((List.range 33).map pNought)) ∧ Below w.heap.size w w' := by
  have a1 := hide (al1 w (.cells (bc (pNought 0)) 24))
  have b1 := hide ((Below.refl w.heap.size w).alloc (Nat.le_refl _) (.cells (bc (pNought 0)) 24))
  have HI := hide (fun k => digInfo (pNought k) (pNought_length k))
  have HO := hide (fun k => bc_oneCell (pNought k))
  have HS := hide (fun k => (by rw [bc_size, pNought_length] : (bc (pNought k)).size = 32))
  have CN := hide (fun k w => rnode2_calls (pNought k) (pNought k) (pNought_length k) (pNought_length k) w)
  go_enter Tryd.func14, Tryd.ntmps14
  go_wp2
  obtain ⟨N, hN⟩ : ∃ N, w.heap.size = N := ⟨_, rfl⟩
  have HN := hide hN
  go_loopw [3, 5] (fun s i wr => ∃ k : Nat, k ≤ 33 ∧ i = .int .i64 (k : Int) ∧ wr.ownsRow (N + 1) 24 32 s k (Lib.byteCells ((List.range k).flatMap pNought)) ∧ Below N w wr ∧ wr.heap[N]? = some (.cells (bc (pNought k)) 24 (0, 0))) (fun _ i _ => 33 - (intOf i).toNat)
  case atStart =>
    subst hN
    exact ⟨0, by omega, rfl, World.ownsRow_nil _ _ _ _, unhide b1, unhide a1⟩
  case round =>
    obtain ⟨k, hk, rfl, hO, hb, q⟩ := hrel
    rw [hN]
    clear a1 b1
    by_cases hlt : k < 33
    · have hd : decide ((k : Int) < 33) = true := by simp; omega
      have hi := unhide HI k
      have hi1 := unhide HI (k + 1)
      have ho1 := unhide HO (k + 1)
      have ho0 := unhide HO k
      have hs0 := hide (unhide HS k)
      have hz1 : Hid ((bc (pNought k)).size = (bc (pNought (k + 1))).size) := by show _ = _; rw [unhide HS, unhide HS]
      have cn := fun w => unhide CN k w
      change ∀ w, Calls _ _ _ _ fun e w' => e = .returned (.agg (bc (pNought (k + 1)))) ∧ _ at cn
      have hfs := flat_snoc pNought k
      obtain ⟨D0, hD0⟩ : ∃ D, pNought k = D := ⟨_, rfl⟩
      obtain ⟨D1, hD⟩ : ∃ D, pNought (k + 1) = D := ⟨_, rfl⟩
      rw [hD] at hi1 ho1 cn
      rw [hD0] at hi ho0 hs0 hfs q cn
      rw [hD, hD0] at hz1
      have hz : N < wr.heap.size := (Array.getElem?_eq_some_iff.1 q).1
      have Hfs := hide hfs
      have HD := hide hD
      have CNN := hide cn
      have Q := hide q
      have HB := hide hb
      have Hk := hide hlt
      have Hz := hide hz
      have hob : Hid (∀ k, u3.ownBlock = some k → N + 1 ≤ k) := hide fun k hk => (hO.lt k hk).1
      have HOo := hide hO
      clear q hb cn hlt hz hD hD0 hfs hO
      go_wp2_with (first
        | (refine wpList_load_row rfl 24 (.tmp 4) rfl N rfl 24 _ (0, 0) _ (unhide Q) Tryd.underlying24 rfl hi ?_)
        | (refine wpList_build_one rfl 22 24 (.tmp 11) rfl 32 32 (by decide) (by decide) (bc D0) rfl (unhide hs0) Tryd.underlying22 digRowInfo' ?_)
        | (at_builtin; (refine wpList_append_one rfl 22 24 (.tmp 10) (.tmp 12) rfl 32 32 (by decide) (by decide) Tryd.underlying22 digRowInfo' (N + 1) u3 k _ rfl wr (unhide HOo) (unhide Hz) (bc D0) (unhide hs0) ho0 rfl (by have := unhide Hk; omega) ?_); intro v' w3 o3 b3 k3; have q3 := hide ((k3 N (unhide Hz) (fun h => by have := unhide hob N h.symm; omega)).trans (unhide Q)); have z3 := hide (Nat.lt_of_lt_of_le (unhide Hz) b3.size); have hb3 := hide ((unhide HB).trans (b3.mono (by omega))); have ho3 := hide o3; clear o3 b3 k3 HOo hob Q HB)
        | (refine wpList_load_row rfl 24 (.tmp 4) rfl N rfl 24 _ (0, 0) _ (unhide q3) Tryd.underlying24 rfl hi ?_))
      refine (unhide CNN _).mono ?_
      rintro e w4 ⟨rfl, hb4⟩
      have q4 := hide (Below.at hb4 (unhide z3) (unhide q3))
      have o4 := hide (owns_keep (unhide ho3) (fun k _ hk => hb4.block k hk) (Nat.le_refl _))
      have b4 := hide ((unhide hb3).trans (hb4.mono (Nat.le_of_lt (unhide z3))))
      clear hb4 q3 hb3 ho3
      go_wp2_with (refine wpList_store_row rfl 24 (.tmp 4) (.tmp 17) rfl N _ rfl rfl 24 _ (unhide q4) hi1 (unhide hz1) ho1 ?_)
      refine ⟨⟨k + 1, by have := unhide Hk; omega, by go_num, ?_, below_setRow (unhide b4) (Nat.le_refl _) _, ?_⟩, by have := unhide Hk; simp [intOf]; omega⟩
      · rw [unhide Hfs]
        exact owns_keep (unhide o4) (fun k hk _ => setRow_other _ _ _ _ (by omega)) (Nat.le_refl _)
      · rw [unhide HD]; exact setRow_heap _ _ _ _ _ _ (unhide q4)
    · have hkl : k = 33 := by omega
      subst hkl
      have hd : decide (((33 : Nat) : Int) < 33) = false := by decide
      obtain ⟨p, c, rfl, hc, hD⟩ := DL_of_owns pNought pNought_length hO
      have HD := hide hD
      have HB := hide hb
      clear hO hb q hlt hD
      go_wp2
      go_ret
      exact ⟨⟨p, c, rfl, hc, unhide HD⟩, by rw [unhide HN]; exact unhide HB⟩
theorem rsize_calls (k : Nat) (hk : k ≤ 40) (w : World) :
    Calls Tryd.prog 23 #[.int .i64 (k : Int)] w fun e w' => e = .returned (.int .i64 ((2 ^ k : Nat) : Int)) ∧ w' = w := by
  go_enter Tryd.func23, Tryd.ntmps23
  go_wp2
  go_loopw [3, 4] (fun n i wr => ∃ j m : Nat, j ≤ k ∧ Hid (m = 2 ^ j) ∧ n = .int .i64 (m : Int) ∧ i = .int .i64 (j : Int) ∧ wr = w) (fun _ i _ => k - (intOf i).toNat)
  case atStart => exact ⟨0, 1, by omega, (rfl : 1 = 2 ^ 0), rfl, rfl, rfl⟩
  case round =>
    obtain ⟨j, m, hj, hm, rfl, rfl, rfl⟩ := hrel
    by_cases hlt : j < k
    · have hd : decide (j < k) = true := by simpa using hlt
      have hm1 : m ≤ 1099511627776 := by rw [unhide hm]; exact Nat.le_trans (Nat.pow_le_pow_right (by decide) (by omega : j ≤ 40)) (by decide)
      go_wp2
      go_roundw
      case rel => exact ⟨j + 1, 2 * m, by omega, (by rw [unhide hm, Nat.pow_succ]; omega : 2 * m = 2 ^ (j + 1)), by go_num, by go_num, trivial⟩
      case measure => simp [intOf]; omega
    · obtain rfl : j = k := by omega
      have hd : decide (j < j) = false := by simp
      have hm1 : m ≤ 1099511627776 := by rw [unhide hm]; exact Nat.le_trans (Nat.pow_le_pow_right (by decide) (by omega : j ≤ 40)) (by decide)
      go_wp2
      go_ret
      exact ⟨by rw [unhide hm]; rfl, rfl⟩
theorem rfirst_calls (p : Option Addr) (n cap : Nat) (hcap : n ≤ cap) (hn : n ≤ 1000000000) (w : World) :
    Calls Tryd.prog 15 #[.slice p n cap] w fun e w' => e = .returned (.slice p (min n 4096) cap) ∧ w' = w := by
  by_cases h : 4096 < n
  · have hd : decide ((4096 : Int) < (n : Int)) = true := by simp; omega
    rw [show min n 4096 = 4096 by omega]
    have hc : (4096 : Int) ≤ (cap : Int) := by omega
    go_enter Tryd.func15, Tryd.ntmps15
    go_wp2
    go_ret
    exact ⟨rfl, rfl⟩
  · have hd : decide ((4096 : Int) < (n : Int)) = false := by simp; omega
    rw [show min n 4096 = n by omega]
    go_enter Tryd.func15, Tryd.ntmps15
    go_wp2
    go_ret
    exact ⟨rfl, rfl⟩
theorem rbit_calls (n : Nat) (hn : n < 4294967296) (i : Nat) (hi : i ≤ 40) (w : World) :
    Calls Tryd.prog 17 #[.int .u32 (n : Int), .int .i64 (i : Int)] w fun e w' => e = .returned (.bool (decide (n / 2 ^ i % 2 = 1))) ∧ w' = w := by
  go_enter Tryd.func17, Tryd.ntmps17
  go_wp2
  go_loopw [0, 5] (fun a k wr => ∃ j m : Nat, j ≤ i ∧ Hid (m = n / 2 ^ j) ∧ a = .int .u32 (m : Int) ∧ k = .int .i64 (j : Int) ∧ wr = w) (fun _ k _ => i - (intOf k).toNat)
  case atStart => exact ⟨0, n, by omega, (by simp : n = n / 2 ^ 0), rfl, rfl, rfl⟩
  case round =>
    obtain ⟨j, m, hj, hm, rfl, rfl, rfl⟩ := hrel
    have hm1 : m < 4294967296 := by rw [unhide hm]; exact Nat.lt_of_le_of_lt (Nat.div_le_self _ _) hn
    by_cases hlt : j < i
    · have hd : decide (j < i) = true := by simpa using hlt
      obtain ⟨m2, hm2, em2⟩ : ∃ m2 : Nat, Hid (m / 2 = m2) ∧ (m : Int) / 2 = (m2 : Int) := ⟨_, rfl, by omega⟩
      have hm3 : m2 < 4294967296 := by have := unhide hm2; omega
      have et : (m : Int).tdiv 2 = (m2 : Int) := by rw [Int.tdiv_eq_ediv_of_nonneg (by omega)]; exact em2
      go_wp2
      go_roundw
      case rel => exact ⟨j + 1, m2, by omega, (by rw [← unhide hm2, unhide hm, Nat.div_div_eq_div_mul, ← Nat.pow_succ] : m2 = n / 2 ^ (j + 1)), rfl, by go_num, trivial⟩
      case measure => simp [intOf]; omega
    · obtain rfl : j = i := by omega
      have hd : decide (j < j) = false := by simp
      obtain ⟨B, hB⟩ : ∃ B, decide (m % 2 = 1) = B := ⟨_, rfl⟩
      have HB : Hid (decide (n / 2 ^ j % 2 = 1) = B) := hide (by rw [← unhide hm]; exact hB)
      have e1 : ((m : Int) % 2 == 1) = B := by rw [← hB, Bool.eq_iff_iff]; simp; omega
      have e2 : ((m : Int).tmod 2 == 1) = B := by rw [Int.tmod_eq_emod_of_nonneg (by omega)]; exact e1
      clear hB
      go_wp2
      go_ret
      exact ⟨by rw [unhide HB]; rfl, rfl⟩
end Go.Proofs.YtljgfpdajodfcaaDoor
